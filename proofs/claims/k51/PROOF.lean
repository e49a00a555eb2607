import PyProof.Rows.All
import Wide.All
import OpenK.AllK
import Wide.FinOn
import HandS.Words
import KE.KStateDown
import KE.KNest
import KE.KNestM
import Lean
import HandS.Base
import HandS.Call
import HandS.Ends
import HandS.Exc
import HandS.Defaults
import HandS.Head0
import HandS.Head1
import HandS.Head2
import HandS.HeadEnd
import HandS.HeadHook1
import HandS.HeadHook2
import PyProof.EqAt
import PyProof.EqKinds
import PyProof.TupleCall
import KE.KFromBytes
import HandS.ForMost
import HandS.ExcInit
import HandS.ExcIs
import HandS.IsInst
import HandS.ExcOwn
import HandS.ExcValue
import HandS.Set
import HandS.Strs
import PyProof.Rows.SetFrom
import PyProof.StrWalks
import PyProof.Rows.SortStr
import PyProof.Rows.SortShellAny
import PyProof.SetRoads
import HandS.DictComp
import HandS.Walk
import HandS.NoneIn
import HandS.Flow
import HandS.FStr
import HandS.Star
import HandS.Property
import HandS.HotCalls
import KE.KUnpack
import KE.KTryMore
import HandS.Lambda
import HandS.EndTab
import PyProof.StrLawsRepr
import HandS.SetBool
import KE.KUnpackStar
import HandS.TupAny
import PyProof.StrBlock2
import PyProof.NeKinds
import PyProof.Rows.StrMeet
import KE.GoesEnum
import HandS.Iter
import PyProof.EnumMake
import HandS.More
import HandS.OwnEq
import HandS.Deep
import HandS.Style
import PySem.Challenge.RW_shortlooks_k51_good_and_bad_claims
set_option Elab.async false
set_option linter.all false
set_option maxRecDepth 100000
set_option maxHeartbeats 8000000
namespace My
open PySem PySem.Spec PyProof.Rows L2
def top (i : Nat) : Stmt := PySem.Challenge.pw_shortlooks_k51_good_and_bad_claims.main.body.getD i (.Pass ⟨0, 0, 0, 0⟩)
abbrev cInvalidText : Stmt := top 3
abbrev cInvalidRow : Stmt := top 4
abbrev cInvalidKind : Stmt := top 5
abbrev cInvalidNumber : Stmt := top 6
abbrev cInvalidMood : Stmt := top 7
abbrev cInvalidSign : Stmt := top 8
abbrev cInvalidPaper : Stmt := top 9
abbrev cNotARule : Stmt := top 13
abbrev cTooMany : Stmt := top 22
abbrev sBounds : Stmt := top 33
abbrev sMade : Stmt := top 38
abbrev sRowOf : Stmt := top 39
abbrev sWord : Stmt := top 40
abbrev sSigns : Stmt := top 41
abbrev sMoods : Stmt := top 42
abbrev sGood : Stmt := top 43
abbrev sGoals : Stmt := top 44
abbrev sRead : Stmt := top 45
abbrev sWriteR : Stmt := top 46
abbrev sRule : Stmt := top 48
abbrev sCRule : Stmt := top 49
abbrev sRowBack : Stmt := top 52
abbrev sFirstRow : Stmt := top 53
abbrev sFirstMo : Stmt := top 60
abbrev sPairStep : Stmt := top 61
abbrev sPairTest : Stmt := top 62
abbrev sFirstSh : Stmt := top 63
abbrev sIsKind : Stmt := top 68
abbrev sIsNum : Stmt := top 69
abbrev sCKind : Stmt := top 70
abbrev sCNum : Stmt := top 71
abbrev sIsWish : Stmt := top 112
abbrev sGoodRow : Stmt := top 114
abbrev sHoldsW : Stmt := top 115
abbrev sEvid : Stmt := top 116
abbrev sIsClaim : Stmt := top 119
abbrev sWishOf : Stmt := top 120
abbrev sNamesOf : Stmt := top 121
abbrev sFirstAg : Stmt := top 122
abbrev sIsSoD : Stmt := top 123
abbrev sShownA : Stmt := top 124
abbrev sState : Stmt := top 125
abbrev sDesk : Stmt := top 126
abbrev sCell : Stmt := top 128
abbrev sPurse : Stmt := top 129
abbrev sPick : Stmt := top 130
abbrev sLetters : Stmt := top 131
abbrev sAim : Stmt := top 132
abbrev sBox : Stmt := top 133
abbrev sText : Stmt := top 134
abbrev sEnd : Stmt := top 135
abbrev sFine : Stmt := top 136
abbrev sRefused : Stmt := top 137
abbrev sCaught : Stmt := top 138
abbrev sDeskIs : Stmt := top 139
abbrev sSame : Stmt := top 140
abbrev sLine : Stmt := top 141
abbrev sHolds : Stmt := top 142
abbrev sRight : Stmt := top 143
abbrev sLaw : Stmt := top 144
end My
namespace Hq
open PySem PySem.Spec PyProof.Rows L2 He
/-! a hook of one's own: a part of the heap that is gathered from named globals, forced once, and looked at by Bools -/
abbrev G : Type := Addr → Option Obj
def mroR : Option Obj → List Addr
  | some ⟨_, _, .cls cd, _⟩ => cd.mro.flatMap refV
  | _ => []
def nxt : Option Obj → List Addr
  | some ⟨c, _, d, _⟩ => (match d with
    | .func fd => refV fd.code ++ (refV fd.defaults ++ refV fd.kwdefaults)
    | .cls cd => [cd.ns]
    | .dict es _ => es.toList.flatMap fun e => refV e.val
    | .seq its _ => its.toList.flatMap refV
    | .fields vs => (match c with
      | .type n => (match decide (n = "property") with
        | true => vs.toList.flatMap refV
        | false => [])
      | _ => [])
    | _ => [])
  | none => []
def gRef (g : G) (x : Str) : List Addr := match g mainGlobals with
  | some ⟨_, _, .dict es _, _⟩ => (match es.toList.find? (·.key.isStr x) with
    | some e => refV e.val
    | none => [])
  | _ => []
/-- a list of addresses, forced -/
def frL {α : Type} : List Addr → (List Addr → α) → α
  | [], k => k []
  | a :: r, k => HandSHeadRun.frNat a fun a => frL r fun r => k (a :: r)
theorem frL_eq {α : Type} : ∀ (l : List Addr) (k : List Addr → α), frL l k = k l
  | [], _ => rfl
  | a :: r, k => by
    show HandSHeadRun.frNat a (fun a => frL r fun r => k (a :: r)) = _
    rw [HandSHeadRun.frNat_eq, frL_eq r]
def step1 (g : G) (l : List Addr) : List Addr := l.flatMap fun a => nxt (g a)
def mros (g : G) (l : List Addr) : List Addr := l.flatMap fun a => mroR (g a)
/-- named globals, their classes' bases, and what these reach in four steps -/
def gather {α : Type} (g : G) (xs : List Str) (k : List Addr → α) : α :=
  frL (xs.flatMap (gRef g)) fun p0 => frL (mros g p0) fun p1 => frL (step1 g (p0 ++ p1)) fun p2 => frL (step1 g p2) fun p3 => frL (step1 g p3) fun p4 => frL (step1 g p4) fun p5 =>
    k (mainGlobals :: p0 ++ p1 ++ p2 ++ p3 ++ p4 ++ p5)
def sel (g : G) (xs : List Str) : List Addr := gather g xs id
theorem gather_eq {α : Type} (g : G) (xs : List Str) (k : List Addr → α) : gather g xs k = k (sel g xs) := by
  unfold sel gather
  simp only [frL_eq, id]
/-- the part, forced -/
def frK {α : Type} (g : G) : List Addr → (PySem.W.Frag → α) → α
  | [], k => k []
  | a :: r, k => match g a with
    | some o => frK g r fun K => k ((a, o) :: K)
    | none => frK g r k
theorem frK_eq {α : Type} (g : G) : ∀ (l : List Addr) (k : PySem.W.Frag → α), frK g l k = k (frG g l)
  | [], _ => rfl
  | a :: r, k => by
    show (match g a with
      | some o => frK g r fun K => k ((a, o) :: K)
      | none => frK g r k) = _
    unfold frG
    rw [List.filterMap_cons]
    cases g a with
    | none => exact frK_eq g r k
    | some o => exact frK_eq g r _
/-! ### functions at any address -/
def fnQ (K : PySem.W.Frag) (a : Addr) : FnV := match K.lookup a with
  | some ⟨_, _, .func fd, _⟩ => some (fd.name, fd.qualname, fd.params, fd.body, fd.scope, fd.globals, fd.closure, fd.defaults, fd.builtins)
  | _ => none
def codeQ (K : PySem.W.Frag) (a : Addr) (q : Str) : Bool := match K.lookup a with
  | some ⟨_, _, .func fd, _⟩ => PySem.W.codeIn K fd.code q
  | _ => false
/-- one def: where it stands, its name, qualified name, parameters, body, scope -/
structure FnA where
  at_ : PySem.W.Frag → Addr
  name : Str
  qual : Str
  params : Arguments
  body : List Stmt
  scope : Scope
def FnA.val (d : FnA) : FnV := some (d.name, d.qual, d.params, .stmts d.body, d.scope, mainGlobals, [], .none, builtinsNs)
theorem fnA_ok {K : PySem.W.Frag} {d : FnA} (e : fnQ K (d.at_ K) = d.val) (c : codeQ K (d.at_ K) d.qual = true) :
    ∃ oc od osl kV doc pm an cdv ct, K.lookup (d.at_ K) = some ⟨oc, od, .func (PySem.W.fnOf d.name d.qual d.params d.body d.scope .none kV doc pm an cdv ct), osl⟩ ∧ PySem.W.codeIn K cdv d.qual = true := by
  have c2 : (match K.lookup (d.at_ K) with
    | some ⟨_, _, .func fd, _⟩ => PySem.W.codeIn K fd.code d.qual
    | _ => false) = true := c
  unfold fnQ at e
  cases q : K.lookup (d.at_ K) with
  | none =>
    rw [q] at c2
    cases c2
  | some o =>
    obtain ⟨oc, od, dt, osl⟩ := o
    rw [q] at c2 e
    cases dt with
    | func fd =>
      obtain ⟨n1, n2, n3, n4, n5, n6, n7, n8, n9, n10, n11, n12, n13, n14, n15⟩ := fd
      have e2 : (some (n1, n2, n3, n4, n5, n6, n7, n8, n15) : FnV) = some (d.name, d.qual, d.params, .stmts d.body, d.scope, mainGlobals, [], .none, builtinsNs) := e
      simp only [Option.some.injEq, Prod.mk.injEq] at e2
      obtain ⟨h1, h2, h3, h4, h5, h6, h7, h8, h9⟩ := e2
      subst h1 h2 h3 h4 h5 h6 h7 h8 h9
      exact ⟨oc, od, osl, n9, n10, n11, n12, n13, n14, rfl, c2⟩
    | _ => cases c2
/-! ### the Hook -/
def valQ (fn : List FnA) : Al := (true, fn.map FnA.val)
def obsK (chk : List (PySem.W.Frag → Bool)) (fn : List FnA) (K : PySem.W.Frag) : Al := (chk.all (fun c => c K) && fn.all fun d => codeQ K (d.at_ K) d.qual, fn.map fun d => fnQ K (d.at_ K))
/-! tables of code objects: tf tells where the defs stand whose lambdas are made -/
def codeAt (K : PySem.W.Frag) (f : Addr) : Addr := match K.lookup f with
  | some ⟨_, _, .func fd, _⟩ => (match fd.code with
    | .ref c => c
    | _ => 0)
  | _ => 0
def tabAt (K : PySem.W.Frag) (c : Addr) : Addr := match K.lookup c with
  | some ⟨_, _, .fields vs, _⟩ => (match vs.getD 11 .none with
    | .ref P => P
    | _ => 0)
  | _ => 0
/-- a def's code object, its table -/
def cTab (K : PySem.W.Frag) (f : PySem.W.Frag → Addr) : Addr × Addr := (codeAt K (f K), tabAt K (codeAt K (f K)))
theorem codeAt_eq {K : PySem.W.Frag} {f c : Addr} {oc : Value} {od : Option Addr} {osl : Array (Option Value)} {fd : FuncData} (lk : K.lookup f = some ⟨oc, od, .func fd, osl⟩) (e : fd.code = .ref c) : codeAt K f = c := by
  unfold codeAt
  rw [lk]
  show (match fd.code with | .ref c => c | _ => 0) = c
  rw [e]
theorem codeAt_ref {K : PySem.W.Frag} {f : Addr} {oc : Value} {od : Option Addr} {osl : Array (Option Value)} {fd : FuncData} {q : Str} (lk : K.lookup f = some ⟨oc, od, .func fd, osl⟩) (h : PySem.W.codeIn K fd.code q = true) : fd.code = .ref (codeAt K f) := by
  cases e : fd.code with
  | ref c => rw [codeAt_eq lk e]
  | _ => rw [e] at h; cases h
def emptyT : Obj → Bool
  | ⟨.none, none, .fields vs, sl⟩ => vs.isEmpty && sl.isEmpty
  | _ => false
theorem emptyT_eq {o : Obj} (h : emptyT o = true) : o = { cls := .none, data := .fields #[] } := by
  obtain ⟨oc, od, dt, sl⟩ := o
  cases oc with
  | none =>
    cases od with
    | none =>
      cases dt with
      | fields vs =>
        obtain ⟨h1, h2⟩ := ba (show (vs.isEmpty && sl.isEmpty) = true from h)
        rw [Array.isEmpty_iff.mp h1, Array.isEmpty_iff.mp h2]
      | _ => cases h
    | some d => cases dt <;> cases h
  | _ => cases od <;> cases dt <;> cases h
def tabB1 (g : G) (K : PySem.W.Frag) (p : PySem.W.Frag → Addr) : Bool := PySem.W.codeHdIn K (cTab K p).1 (cTab K p).2 && ((K.lookup (cTab K p).2).isNone && (match g (cTab K p).2 with
  | some o => emptyT o
  | none => false))
def obsK2 (g : G) (chk : List (PySem.W.Frag → Bool)) (fn : List FnA) (tf : List (PySem.W.Frag → Addr)) (K : PySem.W.Frag) : Al × Bool := (obsK chk fn K, tf.all (tabB1 g K))
def obsQ (xs : List Str) (chk : List (PySem.W.Frag → Bool)) (fn : List FnA) (tf : List (PySem.W.Frag → Addr)) (g : G) : Al × Bool := gather g xs fun as => frK g as (obsK2 g chk fn tf)
theorem obsQ_eq' (xs : List Str) (chk : List (PySem.W.Frag → Bool)) (fn : List FnA) (tf : List (PySem.W.Frag → Addr)) (g : G) : obsQ xs chk fn tf g = obsK2 g chk fn tf (frG g (sel g xs)) := by
  unfold obsQ
  rw [gather_eq, frK_eq]
structure SaysQ (chk : List (PySem.W.Frag → Bool)) (fn : List FnA) (tf : List (PySem.W.Frag → Addr)) (h : Heap) (K : PySem.W.Frag) : Prop where
  f : obsK chk fn K = valQ fn
  hd : ∀ p ∈ tf, PySem.W.codeHdIn K (cTab K p).1 (cTab K p).2 = true
  out : ∀ p ∈ tf, K.lookup (cTab K p).2 = none
  empty : ∀ p ∈ tf, h.get? (cTab K p).2 = some { cls := .none, data := .fields #[] }
theorem saysQ_of {xs : List Str} {chk : List (PySem.W.Frag → Bool)} {fn : List FnA} {tf : List (PySem.W.Frag → Addr)} {h : Heap} (e : obsQ xs chk fn tf h.get? = (valQ fn, true)) : SaysQ chk fn tf h (frG h.get? (sel h.get? xs)) := by
  rw [obsQ_eq'] at e
  generalize frG h.get? (sel h.get? xs) = K at e ⊢
  have e1 : obsK chk fn K = valQ fn := congrArg (fun z : Al × Bool => z.1) e
  have e2 : tf.all (tabB1 h.get? K) = true := congrArg (fun z : Al × Bool => z.2) e
  have key : ∀ p ∈ tf, PySem.W.codeHdIn K (cTab K p).1 (cTab K p).2 = true ∧ K.lookup (cTab K p).2 = none ∧ h.get? (cTab K p).2 = some { cls := .none, data := .fields #[] } := fun p hp => by
    obtain ⟨h1, h2⟩ := ba (List.all_eq_true.mp e2 p hp)
    obtain ⟨h3, h4⟩ := ba h2
    refine ⟨h1, Option.isNone_iff_eq_none.mp h3, ?_⟩
    cases q : h.get? (cTab K p).2 with
    | none =>
      rw [q] at h4
      cases h4
    | some o =>
      rw [q] at h4
      rw [emptyT_eq h4]
  exact ⟨e1, fun p hp => (key p hp).1, fun p hp => (key p hp).2.1, fun p hp => (key p hp).2.2⟩
def hookQ (xs : List Str) (chk : List (PySem.W.Frag → Bool)) (fn : List FnA) (tf : List (PySem.W.Frag → Addr)) : PySem.W.Hook where
  α := Al × Bool
  obs := fun s => obsQ xs chk fn tf s.heap.get?
  val := fun _ => (valQ fn, true)
  says := fun _ h => ∃ K : PySem.W.Frag, K.In h ∧ SaysQ chk fn tf h K
  of := fun w s e => ⟨_, frG_in, saysQ_of e⟩
  keeps := fun _ _ _ ⟨K, hK, c⟩ k => ⟨K, PySem.W.Frag.In.keeps hK k, ⟨c.f, c.hd, c.out, fun p hp => k _ _ (c.empty p hp)⟩⟩
theorem obsQ_eq {xs : List Str} {chk : List (PySem.W.Frag → Bool)} {fn : List FnA} {tf : List (PySem.W.Frag → Addr)} {g : G} {s : Shared} (h : ∀ a, g a = s.heap.get? a) : obsQ xs chk fn tf g = (hookQ xs chk fn tf).obs s := by
  have e : g = s.heap.get? := funext h
  rw [e] <;> rfl
section
variable {chk : List (PySem.W.Frag → Bool)} {fn : List FnA} {tf : List (PySem.W.Frag → Addr)} {K : PySem.W.Frag} {h₀ : Heap}
theorem SaysQ.fact (c : SaysQ chk fn tf h₀ K) (i : Nat) {f : PySem.W.Frag → Bool} (h : chk[i]? = some f := by rfl) : f K = true := by
  have c1 := (ba (show (chk.all (fun c => c K) && fn.all fun d => codeQ K (d.at_ K) d.qual) = true from congrArg (fun z : Al => z.1) c.f)).1
  exact List.all_eq_true.mp c1 f (List.mem_of_getElem? h)
theorem SaysQ.def_ (c : SaysQ chk fn tf h₀ K) (i : Nat) {d : FnA} (h : fn[i]? = some d := by rfl) :
    ∃ oc od osl kV doc pm an cdv ct, K.lookup (d.at_ K) = some ⟨oc, od, .func (PySem.W.fnOf d.name d.qual d.params d.body d.scope .none kV doc pm an cdv ct), osl⟩ ∧ PySem.W.codeIn K cdv d.qual = true := by
  have c2 := (ba (show (chk.all (fun c => c K) && fn.all fun d => codeQ K (d.at_ K) d.qual) = true from congrArg (fun z : Al => z.1) c.f)).2
  have e : fn.map (fun d => fnQ K (d.at_ K)) = fn.map FnA.val := congrArg (fun z : Al => z.2) c.f
  have e2 : (fn.map fun d => fnQ K (d.at_ K))[i]? = (fn.map FnA.val)[i]? := by rw [e]
  rw [List.getElem?_map, List.getElem?_map, h] at e2
  exact fnA_ok (Option.some.inj e2) (List.all_eq_true.mp c2 d (List.mem_of_getElem? h))
/-- all the tables, as walk_GTE asks them -/
theorem SaysQ.tabs (c : SaysQ chk fn tf h₀ K) (X : K.In h₀) : ∀ q ∈ tf.map (cTab K), h₀.get? q.2 = some (PySem.W.tabObj #[]) ∧ K.lookup q.2 = none ∧ PySem.W.CodeHd h₀ q.1 q.2 := fun q hq => by
  obtain ⟨p, hp, rfl⟩ := List.mem_map.mp hq
  exact ⟨c.empty p hp, c.out p hp, PySem.W.codeHd_of_K X (c.hd p hp)⟩
end
/-- a property's function -/
def pf (K : PySem.W.Frag) (p : Addr) : Addr := match PySem.W.recIn K p "property" with
  | some (.ref f :: _) => f
  | _ => 0
def pr (K : PySem.W.Frag) (p : Addr) : List Value := match PySem.W.recIn K p "property" with
  | some (_ :: r) => r
  | _ => []
/-- the sign behind a written constant -/
def tk (K : PySem.W.Frag) (x : Str) : Tok := match PySem.W.nsIn K mainGlobals x with
  | some (some (.int _ t)) => t
  | some (some (.str _ t)) => t
  | _ => 0
end Hq
namespace Hq
open PySem PySem.Spec PyProof.Rows L2 He
/-! the run's equation from several runs of the kernel, each of which looks at a part -/
theorem obs_app {E : Option PySem.W.SharedT} {xs : List Str} {c1 c2 : List (PySem.W.Frag → Bool)} {f1 f2 : List FnA} {t1 t2 : List (PySem.W.Frag → Addr)}
    (h1 : E.map (fun s => obsQ xs c1 f1 t1 (HandSHeadRun.getT s)) = some (valQ f1, true)) (h2 : E.map (fun s => obsQ xs c2 f2 t2 (HandSHeadRun.getT s)) = some (valQ f2, true)) :
    E.map (fun s => obsQ xs (c1 ++ c2) (f1 ++ f2) (t1 ++ t2) (HandSHeadRun.getT s)) = some (valQ (f1 ++ f2), true) := by
  cases E with
  | none => cases h1
  | some s =>
    have a := Option.some.inj h1
    have b := Option.some.inj h2
    show some (obsQ xs (c1 ++ c2) (f1 ++ f2) (t1 ++ t2) (HandSHeadRun.getT s)) = _
    have a : obsQ xs c1 f1 t1 (HandSHeadRun.getT s) = (valQ f1, true) := a
    have b : obsQ xs c2 f2 t2 (HandSHeadRun.getT s) = (valQ f2, true) := b
    rw [obsQ_eq'] at a b ⊢
    generalize frG (HandSHeadRun.getT s) (sel (HandSHeadRun.getT s) xs) = K at a b ⊢
    have a1 : (c1.all (fun c => c K) && f1.all fun d => codeQ K (d.at_ K) d.qual) = true := congrArg (fun z : Al × Bool => z.1.1) a
    have a2 : (f1.map fun d => fnQ K (d.at_ K)) = f1.map FnA.val := congrArg (fun z : Al × Bool => z.1.2) a
    have a3 : t1.all (tabB1 (HandSHeadRun.getT s) K) = true := congrArg (fun z : Al × Bool => z.2) a
    have b1 : (c2.all (fun c => c K) && f2.all fun d => codeQ K (d.at_ K) d.qual) = true := congrArg (fun z : Al × Bool => z.1.1) b
    have b2 : (f2.map fun d => fnQ K (d.at_ K)) = f2.map FnA.val := congrArg (fun z : Al × Bool => z.1.2) b
    have b3 : t2.all (tabB1 (HandSHeadRun.getT s) K) = true := congrArg (fun z : Al × Bool => z.2) b
    rw [Bool.and_eq_true] at a1 b1
    refine congrArg some ?_
    have e1 : ((c1 ++ c2).all (fun c => c K) && (f1 ++ f2).all fun d => codeQ K (d.at_ K) d.qual) = true := by
      rw [List.all_append, List.all_append, a1.1, a1.2, b1.1, b1.2]
      rfl
    have e2 : ((f1 ++ f2).map fun d => fnQ K (d.at_ K)) = (f1 ++ f2).map FnA.val := by
      rw [List.map_append, List.map_append, a2, b2]
    have e3 : (t1 ++ t2).all (tabB1 (HandSHeadRun.getT s) K) = true := by
      rw [List.all_append, a3, b3]
      rfl
    show ((((c1 ++ c2).all (fun c => c K) && (f1 ++ f2).all fun d => codeQ K (d.at_ K) d.qual), (f1 ++ f2).map fun d => fnQ K (d.at_ K)), (t1 ++ t2).all (tabB1 (HandSHeadRun.getT s) K)) = ((true, (f1 ++ f2).map FnA.val), true)
    rw [e1, e2, e3]
theorem three {α β γ δ : Type} {E : Option α} {f : α → β} {g : α → γ} {k : α → δ} {b : β} {c : γ} {d : δ} (h1 : E.map f = some b) (h2 : E.map g = some c) (h3 : E.map k = some d) : E.map (fun s => (f s, g s, k s)) = some (b, c, d) := by
  cases E with
  | none => cases h1
  | some s =>
    have a : f s = b := Option.some.inj h1
    have b' : g s = c := Option.some.inj h2
    have c' : k s = d := Option.some.inj h3
    show some (f s, g s, k s) = _
    rw [a, b', c']
end Hq
namespace My
open PySem PySem.Spec PyProof.Rows L2
/-! what is asked of the classes of errors, as tests that are run -/
abbrev tailE (B : String) : List Value := [.type B, .type "Exception", .type "BaseException", .type "object"]
def partN (i : Nat) : Nat := if i < 13 then 0 else if i < 16 then 1 else 2
def baseE : Nat → String
  | 0 => "ValueError"
  | 1 => "LookupError"
  | _ => "ArithmeticError"
def newE : Nat → String
  | 0 => "ValueError.__new__"
  | 1 => "LookupError.__new__"
  | _ => "ArithmeticError.__new__"
def okCE (K : PySem.W.Frag) (C : Addr) : Bool :=
  PySem.W.findIn K (.ref C) "__getattribute__" == some (some (.builtin "BaseException.__getattribute__")) && (PySem.W.findIn K (.ref C) "__getattr__" == some none &&
  (PySem.W.subIn K (.ref C) (.type "BaseException") == some true && (PySem.W.hasDictIn K C && (PySem.W.findIn K (.ref C) "__class__" == some (some (.builtin "object.__class__")) &&
  (PySem.W.specialIn K (.builtin "object.__class__") "__get__" == some (some (.builtin "getset_descriptor.__get__")) && (PySem.W.takesIn K (.builtin "object.__class__") == some true &&
  (PySem.W.mroIn K C (.type "object") == some true && (PySem.W.findIn K (.ref C) "__setattr__" == some (some (.builtin "object.__setattr__")) && PySem.W.keepIn K (.ref C)))))))))
def shpE (K : PySem.W.Frag) (C B : Addr) (tl : List Value) (nid : String) : Bool := match K.lookup C with
  | some ⟨.type "type", _, .cls cd, sl⟩ => (match cd.mro, sl.toList with
    | .ref C' :: bm, [_, _, _, _, some (.builtin n), _] => C' == C && (n == nid && (!cd.hasDel && (cd.hasDict && bm == .ref B :: tl)))
    | _, _ => false)
  | _ => false
/-- the class at C is the i-th of the twenty errors, with these fields -/
def chkE (K : PySem.W.Frag) (C : Addr) (i : Nat) (cs bs : List Addr) (fs : List Str) : Bool :=
  okCE K C && ((List.range 20).all (fun j => PySem.W.kitOne K (.ref C) (.ref (cs.getD j 0)) == some (decide (j = i))) && ((List.range 3).all (fun j => PySem.W.kitOne K (.ref C) (.ref (bs.getD j 0)) == some (decide (partN i = j))) && (shpE K C (bs.getD (partN i) 0) (tailE (baseE (partN i))) (newE (partN i)) &&
  (fs.all (fun f => PySem.W.findIn K (.ref C) f == some none) && (PySem.W.kitOne K (.ref C) (.type "ValueError") == some (decide (partN i = 0)) && (PySem.W.kitOne K (.ref C) (.type "LookupError") == some (decide (partN i = 1)) && (PySem.W.kitOne K (.ref C) (.type "ArithmeticError") == some (decide (partN i = 2)) &&
  (PySem.W.exmAny K (.ref C) [.ref (bs.getD 0 0), .ref (bs.getD 1 0), .ref (bs.getD 2 0)] == some true && PySem.W.typeIn K (.ref C) == some (.type "type")))))))))
/-- the types that are none of the program's -/
def noUE (K : PySem.W.Frag) (CU : Addr) : Bool := ["str", "int", "bool", "NoneType", "list", "tuple", "dict"].all fun t => PySem.W.kitOne K (.type t) (.ref CU) == some false
end My
namespace My
open PySem PySem.Spec PyProof.Rows L2
/-! the head: what is looked at -/
def frees : List Str := ["int", "len", "abs", "divmod", "isinstance", "repr", "all", "any", "range", "max", "min", "str", "set", "sorted", "list", "tuple", "enumerate", "ValueError", "LookupError", "ArithmeticError", "bool", "dict", "zip", "reversed"]
def chkF (K : PySem.W.Frag) : Bool := frees.all fun x => PySem.W.nsIn K mainGlobals x == some none
theorem free_of {K : PySem.W.Frag} {h : Heap} {mg : Str → Option Value} (X : K.In h) (G : h.Ns mainGlobals mg) (q : chkF K = true) {x : Str} (hx : x ∈ frees) : mg x = none := by
  unfold chkF at q
  exact PySem.W.mg_none_of X G (beq_iff_eq.mp (List.all_eq_true.mp q x hx))
def q0 (K : PySem.W.Frag) : Bool := decide (PySem.W.nsIn K mainGlobals "Rule" = some (some (.ref (He.ga K "Rule"))))
def q1 (K : PySem.W.Frag) : Bool := decide (PySem.W.nsIn K mainGlobals "Desk" = some (some (.ref (He.ga K "Desk"))))
def q2 (K : PySem.W.Frag) : Bool := decide (PySem.W.nsIn K mainGlobals "State" = some (some (.ref (He.ga K "State"))))
def q3 (K : PySem.W.Frag) : Bool := decide (PySem.W.nsIn K mainGlobals "InvalidText" = some (some (.ref (He.ga K "InvalidText"))))
def q4 (K : PySem.W.Frag) : Bool := decide (PySem.W.nsIn K mainGlobals "InvalidRow" = some (some (.ref (He.ga K "InvalidRow"))))
def q5 (K : PySem.W.Frag) : Bool := decide (PySem.W.nsIn K mainGlobals "InvalidKind" = some (some (.ref (He.ga K "InvalidKind"))))
def q6 (K : PySem.W.Frag) : Bool := decide (PySem.W.nsIn K mainGlobals "InvalidNumber" = some (some (.ref (He.ga K "InvalidNumber"))))
def q7 (K : PySem.W.Frag) : Bool := decide (PySem.W.nsIn K mainGlobals "InvalidMood" = some (some (.ref (He.ga K "InvalidMood"))))
def q8 (K : PySem.W.Frag) : Bool := decide (PySem.W.nsIn K mainGlobals "InvalidSign" = some (some (.ref (He.ga K "InvalidSign"))))
def q9 (K : PySem.W.Frag) : Bool := decide (PySem.W.nsIn K mainGlobals "InvalidPaper" = some (some (.ref (He.ga K "InvalidPaper"))))
def q10 (K : PySem.W.Frag) : Bool := decide (PySem.W.nsIn K mainGlobals "InvalidName" = some (some (.ref (He.ga K "InvalidName"))))
def q11 (K : PySem.W.Frag) : Bool := decide (PySem.W.nsIn K mainGlobals "InvalidIndex" = some (some (.ref (He.ga K "InvalidIndex"))))
def q12 (K : PySem.W.Frag) : Bool := decide (PySem.W.nsIn K mainGlobals "InvalidClaim" = some (some (.ref (He.ga K "InvalidClaim"))))
def q13 (K : PySem.W.Frag) : Bool := decide (PySem.W.nsIn K mainGlobals "NotARule" = some (some (.ref (He.ga K "NotARule"))))
def q14 (K : PySem.W.Frag) : Bool := decide (PySem.W.nsIn K mainGlobals "InvalidWishes" = some (some (.ref (He.ga K "InvalidWishes"))))
def q15 (K : PySem.W.Frag) : Bool := decide (PySem.W.nsIn K mainGlobals "InvalidChanges" = some (some (.ref (He.ga K "InvalidChanges"))))
def q16 (K : PySem.W.Frag) : Bool := decide (PySem.W.nsIn K mainGlobals "UnknownName" = some (some (.ref (He.ga K "UnknownName"))))
def q17 (K : PySem.W.Frag) : Bool := decide (PySem.W.nsIn K mainGlobals "InUse" = some (some (.ref (He.ga K "InUse"))))
def q18 (K : PySem.W.Frag) : Bool := decide (PySem.W.nsIn K mainGlobals "NothingToUndo" = some (some (.ref (He.ga K "NothingToUndo"))))
def q19 (K : PySem.W.Frag) : Bool := decide (PySem.W.nsIn K mainGlobals "OtherSigns" = some (some (.ref (He.ga K "OtherSigns"))))
def q20 (K : PySem.W.Frag) : Bool := decide (PySem.W.nsIn K mainGlobals "TooMany" = some (some (.ref (He.ga K "TooMany"))))
def q21 (K : PySem.W.Frag) : Bool := decide (PySem.W.nsIn K mainGlobals "Kept" = some (some (.ref (He.ga K "Kept"))))
def q22 (K : PySem.W.Frag) : Bool := decide (PySem.W.nsIn K mainGlobals "Broken" = some (some (.ref (He.ga K "Broken"))))
def q23 (K : PySem.W.Frag) : Bool := decide (PySem.W.nsIn K mainGlobals "NotRight" = some (some (.ref (He.ga K "NotRight"))))
def q24 (K : PySem.W.Frag) : Bool := decide (PySem.W.nsIn K mainGlobals "NotKnown" = some (some (.ref (He.ga K "NotKnown"))))
def q25 (K : PySem.W.Frag) : Bool := decide (PySem.W.nsIn K mainGlobals "NotPossible" = some (some (.ref (He.ga K "NotPossible"))))
def q26 (K : PySem.W.Frag) : Bool := decide (PySem.W.nsIn K mainGlobals "made_of" = some (some (.ref (He.ga K "made_of"))))
def q27 (K : PySem.W.Frag) : Bool := decide (PySem.W.keepIn K (.ref (He.ga K "made_of")) = true)
def q28 (K : PySem.W.Frag) : Bool := decide (PySem.W.nsIn K mainGlobals "is_row_of" = some (some (.ref (He.ga K "is_row_of"))))
def q29 (K : PySem.W.Frag) : Bool := decide (PySem.W.keepIn K (.ref (He.ga K "is_row_of")) = true)
def q30 (K : PySem.W.Frag) : Bool := decide (PySem.W.nsIn K mainGlobals "is_word" = some (some (.ref (He.ga K "is_word"))))
def q31 (K : PySem.W.Frag) : Bool := decide (PySem.W.keepIn K (.ref (He.ga K "is_word")) = true)
def q32 (K : PySem.W.Frag) : Bool := decide (PySem.W.nsIn K mainGlobals "are_signs" = some (some (.ref (He.ga K "are_signs"))))
def q33 (K : PySem.W.Frag) : Bool := decide (PySem.W.keepIn K (.ref (He.ga K "are_signs")) = true)
def q34 (K : PySem.W.Frag) : Bool := decide (PySem.W.nsIn K mainGlobals "are_moods" = some (some (.ref (He.ga K "are_moods"))))
def q35 (K : PySem.W.Frag) : Bool := decide (PySem.W.keepIn K (.ref (He.ga K "are_moods")) = true)
def q36 (K : PySem.W.Frag) : Bool := decide (PySem.W.nsIn K mainGlobals "are_good" = some (some (.ref (He.ga K "are_good"))))
def q37 (K : PySem.W.Frag) : Bool := decide (PySem.W.keepIn K (.ref (He.ga K "are_good")) = true)
def q38 (K : PySem.W.Frag) : Bool := decide (PySem.W.nsIn K mainGlobals "read_goals" = some (some (.ref (He.ga K "read_goals"))))
def q39 (K : PySem.W.Frag) : Bool := decide (PySem.W.keepIn K (.ref (He.ga K "read_goals")) = true)
def q40 (K : PySem.W.Frag) : Bool := decide (PySem.W.nsIn K mainGlobals "read_rule" = some (some (.ref (He.ga K "read_rule"))))
def q41 (K : PySem.W.Frag) : Bool := decide (PySem.W.keepIn K (.ref (He.ga K "read_rule")) = true)
def q42 (K : PySem.W.Frag) : Bool := decide (PySem.W.nsIn K mainGlobals "check_rule" = some (some (.ref (He.ga K "check_rule"))))
def q43 (K : PySem.W.Frag) : Bool := decide (PySem.W.keepIn K (.ref (He.ga K "check_rule")) = true)
def q44 (K : PySem.W.Frag) : Bool := decide (PySem.W.nsIn K mainGlobals "is_wish" = some (some (.ref (He.ga K "is_wish"))))
def q45 (K : PySem.W.Frag) : Bool := decide (PySem.W.keepIn K (.ref (He.ga K "is_wish")) = true)
def q46 (K : PySem.W.Frag) : Bool := decide (PySem.W.nsIn K mainGlobals "is_good_row" = some (some (.ref (He.ga K "is_good_row"))))
def q47 (K : PySem.W.Frag) : Bool := decide (PySem.W.keepIn K (.ref (He.ga K "is_good_row")) = true)
def q48 (K : PySem.W.Frag) : Bool := decide (PySem.W.nsIn K mainGlobals "holds" = some (some (.ref (He.ga K "holds"))))
def q49 (K : PySem.W.Frag) : Bool := decide (PySem.W.keepIn K (.ref (He.ga K "holds")) = true)
def q50 (K : PySem.W.Frag) : Bool := decide (PySem.W.nsIn K mainGlobals "evidence" = some (some (.ref (He.ga K "evidence"))))
def q51 (K : PySem.W.Frag) : Bool := decide (PySem.W.keepIn K (.ref (He.ga K "evidence")) = true)
def q52 (K : PySem.W.Frag) : Bool := decide (PySem.W.nsIn K mainGlobals "is_claim" = some (some (.ref (He.ga K "is_claim"))))
def q53 (K : PySem.W.Frag) : Bool := decide (PySem.W.keepIn K (.ref (He.ga K "is_claim")) = true)
def q54 (K : PySem.W.Frag) : Bool := decide (PySem.W.nsIn K mainGlobals "wish_of" = some (some (.ref (He.ga K "wish_of"))))
def q55 (K : PySem.W.Frag) : Bool := decide (PySem.W.keepIn K (.ref (He.ga K "wish_of")) = true)
def q56 (K : PySem.W.Frag) : Bool := decide (PySem.W.nsIn K mainGlobals "names_of" = some (some (.ref (He.ga K "names_of"))))
def q57 (K : PySem.W.Frag) : Bool := decide (PySem.W.keepIn K (.ref (He.ga K "names_of")) = true)
def q58 (K : PySem.W.Frag) : Bool := decide (PySem.W.nsIn K mainGlobals "is_so" = some (some (.ref (He.ga K "is_so"))))
def q59 (K : PySem.W.Frag) : Bool := decide (PySem.W.keepIn K (.ref (He.ga K "is_so")) = true)
def q60 (K : PySem.W.Frag) : Bool := decide (PySem.W.nsIn K mainGlobals "shown_against" = some (some (.ref (He.ga K "shown_against"))))
def q61 (K : PySem.W.Frag) : Bool := decide (PySem.W.keepIn K (.ref (He.ga K "shown_against")) = true)
def q62 (K : PySem.W.Frag) : Bool := decide (PySem.W.nsIn K mainGlobals "_law_cell" = some (some (.ref (He.ga K "_law_cell"))))
def q63 (K : PySem.W.Frag) : Bool := decide (PySem.W.keepIn K (.ref (He.ga K "_law_cell")) = true)
def q64 (K : PySem.W.Frag) : Bool := decide (PySem.W.nsIn K mainGlobals "_law_purse" = some (some (.ref (He.ga K "_law_purse"))))
def q65 (K : PySem.W.Frag) : Bool := decide (PySem.W.keepIn K (.ref (He.ga K "_law_purse")) = true)
def q66 (K : PySem.W.Frag) : Bool := decide (PySem.W.nsIn K mainGlobals "_law_pick" = some (some (.ref (He.ga K "_law_pick"))))
def q67 (K : PySem.W.Frag) : Bool := decide (PySem.W.keepIn K (.ref (He.ga K "_law_pick")) = true)
def q68 (K : PySem.W.Frag) : Bool := decide (PySem.W.nsIn K mainGlobals "_law_letters" = some (some (.ref (He.ga K "_law_letters"))))
def q69 (K : PySem.W.Frag) : Bool := decide (PySem.W.keepIn K (.ref (He.ga K "_law_letters")) = true)
def q70 (K : PySem.W.Frag) : Bool := decide (PySem.W.nsIn K mainGlobals "_law_aim" = some (some (.ref (He.ga K "_law_aim"))))
def q71 (K : PySem.W.Frag) : Bool := decide (PySem.W.keepIn K (.ref (He.ga K "_law_aim")) = true)
def q72 (K : PySem.W.Frag) : Bool := decide (PySem.W.nsIn K mainGlobals "_law_box" = some (some (.ref (He.ga K "_law_box"))))
def q73 (K : PySem.W.Frag) : Bool := decide (PySem.W.keepIn K (.ref (He.ga K "_law_box")) = true)
def q74 (K : PySem.W.Frag) : Bool := decide (PySem.W.nsIn K mainGlobals "_law_text" = some (some (.ref (He.ga K "_law_text"))))
def q75 (K : PySem.W.Frag) : Bool := decide (PySem.W.keepIn K (.ref (He.ga K "_law_text")) = true)
def q76 (K : PySem.W.Frag) : Bool := decide (PySem.W.nsIn K mainGlobals "_law_end" = some (some (.ref (He.ga K "_law_end"))))
def q77 (K : PySem.W.Frag) : Bool := decide (PySem.W.keepIn K (.ref (He.ga K "_law_end")) = true)
def q78 (K : PySem.W.Frag) : Bool := decide (PySem.W.nsIn K mainGlobals "_law_is_fine" = some (some (.ref (He.ga K "_law_is_fine"))))
def q79 (K : PySem.W.Frag) : Bool := decide (PySem.W.keepIn K (.ref (He.ga K "_law_is_fine")) = true)
def q80 (K : PySem.W.Frag) : Bool := decide (PySem.W.nsIn K mainGlobals "_law_refused" = some (some (.ref (He.ga K "_law_refused"))))
def q81 (K : PySem.W.Frag) : Bool := decide (PySem.W.keepIn K (.ref (He.ga K "_law_refused")) = true)
def q82 (K : PySem.W.Frag) : Bool := decide (PySem.W.nsIn K mainGlobals "_law_caught" = some (some (.ref (He.ga K "_law_caught"))))
def q83 (K : PySem.W.Frag) : Bool := decide (PySem.W.keepIn K (.ref (He.ga K "_law_caught")) = true)
def q84 (K : PySem.W.Frag) : Bool := decide (PySem.W.nsIn K mainGlobals "_law_desk_is" = some (some (.ref (He.ga K "_law_desk_is"))))
def q85 (K : PySem.W.Frag) : Bool := decide (PySem.W.keepIn K (.ref (He.ga K "_law_desk_is")) = true)
def q86 (K : PySem.W.Frag) : Bool := decide (PySem.W.nsIn K mainGlobals "_law_same" = some (some (.ref (He.ga K "_law_same"))))
def q87 (K : PySem.W.Frag) : Bool := decide (PySem.W.keepIn K (.ref (He.ga K "_law_same")) = true)
def q88 (K : PySem.W.Frag) : Bool := decide (PySem.W.nsIn K mainGlobals "_law_line" = some (some (.ref (He.ga K "_law_line"))))
def q89 (K : PySem.W.Frag) : Bool := decide (PySem.W.keepIn K (.ref (He.ga K "_law_line")) = true)
def q90 (K : PySem.W.Frag) : Bool := decide (PySem.W.nsIn K mainGlobals "_law_holds" = some (some (.ref (He.ga K "_law_holds"))))
def q91 (K : PySem.W.Frag) : Bool := decide (PySem.W.keepIn K (.ref (He.ga K "_law_holds")) = true)
def q92 (K : PySem.W.Frag) : Bool := decide (PySem.W.nsIn K mainGlobals "_law_right" = some (some (.ref (He.ga K "_law_right"))))
def q93 (K : PySem.W.Frag) : Bool := decide (PySem.W.keepIn K (.ref (He.ga K "_law_right")) = true)
def q94 (K : PySem.W.Frag) : Bool := decide (PySem.W.nsIn K mainGlobals "law" = some (some (.ref (He.ga K "law"))))
def q95 (K : PySem.W.Frag) : Bool := decide (PySem.W.keepIn K (.ref (He.ga K "law")) = true)
def q96 (K : PySem.W.Frag) : Bool := decide (PySem.W.findIn K (.ref (He.ga K "Rule")) "__init__" = some (some (.ref (He.ma K (He.ga K "Rule") "__init__"))))
def q97 (K : PySem.W.Frag) : Bool := decide (PySem.W.isFn K (.ref (He.ma K (He.ga K "Rule") "__init__")) = true)
def q98 (K : PySem.W.Frag) : Bool := decide (PySem.W.keepIn K (.ref (He.ma K (He.ga K "Rule") "__init__")) = true)
def q99 (K : PySem.W.Frag) : Bool := decide (PySem.W.findIn K (.ref (He.ga K "Rule")) "mood" = some (some (.ref (He.ma K (He.ga K "Rule") "mood"))))
def q100 (K : PySem.W.Frag) : Bool := decide (PySem.W.isFn K (.ref (He.ma K (He.ga K "Rule") "mood")) = true)
def q101 (K : PySem.W.Frag) : Bool := decide (PySem.W.keepIn K (.ref (He.ma K (He.ga K "Rule") "mood")) = true)
def q102 (K : PySem.W.Frag) : Bool := decide (PySem.W.findIn K (.ref (He.ga K "Rule")) "has" = some (some (.ref (He.ma K (He.ga K "Rule") "has"))))
def q103 (K : PySem.W.Frag) : Bool := decide (PySem.W.isFn K (.ref (He.ma K (He.ga K "Rule") "has")) = true)
def q104 (K : PySem.W.Frag) : Bool := decide (PySem.W.keepIn K (.ref (He.ma K (He.ga K "Rule") "has")) = true)
def q105 (K : PySem.W.Frag) : Bool := decide (PySem.W.findIn K (.ref (He.ga K "State")) "__init__" = some (some (.ref (He.ma K (He.ga K "State") "__init__"))))
def q106 (K : PySem.W.Frag) : Bool := decide (PySem.W.isFn K (.ref (He.ma K (He.ga K "State") "__init__")) = true)
def q107 (K : PySem.W.Frag) : Bool := decide (PySem.W.keepIn K (.ref (He.ma K (He.ga K "State") "__init__")) = true)
def q108 (K : PySem.W.Frag) : Bool := decide (PySem.W.findIn K (.ref (He.ga K "Desk")) "__init__" = some (some (.ref (He.ma K (He.ga K "Desk") "__init__"))))
def q109 (K : PySem.W.Frag) : Bool := decide (PySem.W.isFn K (.ref (He.ma K (He.ga K "Desk") "__init__")) = true)
def q110 (K : PySem.W.Frag) : Bool := decide (PySem.W.keepIn K (.ref (He.ma K (He.ga K "Desk") "__init__")) = true)
def q111 (K : PySem.W.Frag) : Bool := decide (PySem.W.findIn K (.ref (He.ga K "Desk")) "put" = some (some (.ref (He.ma K (He.ga K "Desk") "put"))))
def q112 (K : PySem.W.Frag) : Bool := decide (PySem.W.isFn K (.ref (He.ma K (He.ga K "Desk") "put")) = true)
def q113 (K : PySem.W.Frag) : Bool := decide (PySem.W.keepIn K (.ref (He.ma K (He.ga K "Desk") "put")) = true)
def q114 (K : PySem.W.Frag) : Bool := decide (PySem.W.findIn K (.ref (He.ga K "Desk")) "rule" = some (some (.ref (He.ma K (He.ga K "Desk") "rule"))))
def q115 (K : PySem.W.Frag) : Bool := decide (PySem.W.isFn K (.ref (He.ma K (He.ga K "Desk") "rule")) = true)
def q116 (K : PySem.W.Frag) : Bool := decide (PySem.W.keepIn K (.ref (He.ma K (He.ga K "Desk") "rule")) = true)
def q117 (K : PySem.W.Frag) : Bool := decide (PySem.W.findIn K (.ref (He.ga K "Desk")) "claim" = some (some (.ref (He.ma K (He.ga K "Desk") "claim"))))
def q118 (K : PySem.W.Frag) : Bool := decide (PySem.W.isFn K (.ref (He.ma K (He.ga K "Desk") "claim")) = true)
def q119 (K : PySem.W.Frag) : Bool := decide (PySem.W.keepIn K (.ref (He.ma K (He.ga K "Desk") "claim")) = true)
def q120 (K : PySem.W.Frag) : Bool := decide (PySem.W.findIn K (.ref (He.ga K "Desk")) "check_name" = some (some (.ref (He.ma K (He.ga K "Desk") "check_name"))))
def q121 (K : PySem.W.Frag) : Bool := decide (PySem.W.isFn K (.ref (He.ma K (He.ga K "Desk") "check_name")) = true)
def q122 (K : PySem.W.Frag) : Bool := decide (PySem.W.keepIn K (.ref (He.ma K (He.ga K "Desk") "check_name")) = true)
def q123 (K : PySem.W.Frag) : Bool := decide (PySem.W.findIn K (.ref (He.ga K "Broken")) "__init__" = some (some (.ref (He.ma K (He.ga K "Broken") "__init__"))))
def q124 (K : PySem.W.Frag) : Bool := decide (PySem.W.isFn K (.ref (He.ma K (He.ga K "Broken") "__init__")) = true)
def q125 (K : PySem.W.Frag) : Bool := decide (PySem.W.keepIn K (.ref (He.ma K (He.ga K "Broken") "__init__")) = true)
def q126 (K : PySem.W.Frag) : Bool := decide (PySem.W.typeIn K (.ref (He.ma K (He.ga K "Broken") "__init__")) = some (.type "function"))
def q127 (K : PySem.W.Frag) : Bool := decide (chkE K (He.ga K "Broken") 19 [(He.ga K "InvalidText"), (He.ga K "InvalidRow"), (He.ga K "InvalidKind"), (He.ga K "InvalidNumber"), (He.ga K "InvalidMood"), (He.ga K "InvalidSign"), (He.ga K "InvalidPaper"), (He.ga K "InvalidName"), (He.ga K "InvalidIndex"), (He.ga K "InvalidClaim"), (He.ga K "NotARule"), (He.ga K "InvalidWishes"), (He.ga K "InvalidChanges"), (He.ga K "UnknownName"), (He.ga K "InUse"), (He.ga K "NothingToUndo"), (He.ga K "OtherSigns"), (He.ga K "TooMany"), (He.ga K "Kept"), (He.ga K "Broken")] [(He.ga K "NotRight"), (He.ga K "NotKnown"), (He.ga K "NotPossible")] ["given", "index", "shown", "limit"] = true)
def q128 (K : PySem.W.Frag) : Bool := decide (PySem.W.findIn K (.ref (He.ga K "Rule")) "text" = some (some (.ref (He.ma K (He.ga K "Rule") "text"))))
def q129 (K : PySem.W.Frag) : Bool := decide (PySem.W.specialIn K (.ref (He.ma K (He.ga K "Rule") "text")) "__get__" = some (some (.builtin "property.__get__")))
def q130 (K : PySem.W.Frag) : Bool := decide (PySem.W.takesIn K (.ref (He.ma K (He.ga K "Rule") "text")) = some true)
def q131 (K : PySem.W.Frag) : Bool := decide (PySem.W.recIn K (He.ma K (He.ga K "Rule") "text") "property" = some (.ref (Hq.pf K (He.ma K (He.ga K "Rule") "text")) :: (Hq.pr K (He.ma K (He.ga K "Rule") "text"))))
def q132 (K : PySem.W.Frag) : Bool := decide (PySem.W.keepIn K (.ref (Hq.pf K (He.ma K (He.ga K "Rule") "text"))) = true)
def q133 (K : PySem.W.Frag) : Bool := decide (PySem.W.findIn K (.ref (He.ga K "Rule")) "signs" = some (some (.ref (He.ma K (He.ga K "Rule") "signs"))))
def q134 (K : PySem.W.Frag) : Bool := decide (PySem.W.specialIn K (.ref (He.ma K (He.ga K "Rule") "signs")) "__get__" = some (some (.builtin "property.__get__")))
def q135 (K : PySem.W.Frag) : Bool := decide (PySem.W.takesIn K (.ref (He.ma K (He.ga K "Rule") "signs")) = some true)
def q136 (K : PySem.W.Frag) : Bool := decide (PySem.W.recIn K (He.ma K (He.ga K "Rule") "signs") "property" = some (.ref (Hq.pf K (He.ma K (He.ga K "Rule") "signs")) :: (Hq.pr K (He.ma K (He.ga K "Rule") "signs"))))
def q137 (K : PySem.W.Frag) : Bool := decide (PySem.W.keepIn K (.ref (Hq.pf K (He.ma K (He.ga K "Rule") "signs"))) = true)
def q138 (K : PySem.W.Frag) : Bool := decide (PySem.W.findIn K (.ref (He.ga K "Desk")) "names" = some (some (.ref (He.ma K (He.ga K "Desk") "names"))))
def q139 (K : PySem.W.Frag) : Bool := decide (PySem.W.specialIn K (.ref (He.ma K (He.ga K "Desk") "names")) "__get__" = some (some (.builtin "property.__get__")))
def q140 (K : PySem.W.Frag) : Bool := decide (PySem.W.takesIn K (.ref (He.ma K (He.ga K "Desk") "names")) = some true)
def q141 (K : PySem.W.Frag) : Bool := decide (PySem.W.recIn K (He.ma K (He.ga K "Desk") "names") "property" = some (.ref (Hq.pf K (He.ma K (He.ga K "Desk") "names")) :: (Hq.pr K (He.ma K (He.ga K "Desk") "names"))))
def q142 (K : PySem.W.Frag) : Bool := decide (PySem.W.keepIn K (.ref (Hq.pf K (He.ma K (He.ga K "Desk") "names"))) = true)
def q143 (K : PySem.W.Frag) : Bool := decide (PySem.W.findIn K (.ref (He.ga K "Desk")) "claims" = some (some (.ref (He.ma K (He.ga K "Desk") "claims"))))
def q144 (K : PySem.W.Frag) : Bool := decide (PySem.W.specialIn K (.ref (He.ma K (He.ga K "Desk") "claims")) "__get__" = some (some (.builtin "property.__get__")))
def q145 (K : PySem.W.Frag) : Bool := decide (PySem.W.takesIn K (.ref (He.ma K (He.ga K "Desk") "claims")) = some true)
def q146 (K : PySem.W.Frag) : Bool := decide (PySem.W.recIn K (He.ma K (He.ga K "Desk") "claims") "property" = some (.ref (Hq.pf K (He.ma K (He.ga K "Desk") "claims")) :: (Hq.pr K (He.ma K (He.ga K "Desk") "claims"))))
def q147 (K : PySem.W.Frag) : Bool := decide (PySem.W.keepIn K (.ref (Hq.pf K (He.ma K (He.ga K "Desk") "claims"))) = true)
def q148 (K : PySem.W.Frag) : Bool := decide (PySem.W.findIn K (.ref (He.ga K "Desk")) "changes" = some (some (.ref (He.ma K (He.ga K "Desk") "changes"))))
def q149 (K : PySem.W.Frag) : Bool := decide (PySem.W.specialIn K (.ref (He.ma K (He.ga K "Desk") "changes")) "__get__" = some (some (.builtin "property.__get__")))
def q150 (K : PySem.W.Frag) : Bool := decide (PySem.W.takesIn K (.ref (He.ma K (He.ga K "Desk") "changes")) = some true)
def q151 (K : PySem.W.Frag) : Bool := decide (PySem.W.recIn K (He.ma K (He.ga K "Desk") "changes") "property" = some (.ref (Hq.pf K (He.ma K (He.ga K "Desk") "changes")) :: (Hq.pr K (He.ma K (He.ga K "Desk") "changes"))))
def q152 (K : PySem.W.Frag) : Bool := decide (PySem.W.keepIn K (.ref (Hq.pf K (He.ma K (He.ga K "Desk") "changes"))) = true)
def q153 (K : PySem.W.Frag) : Bool := decide (PySem.W.nsIn K mainGlobals "MOST_SIGNS" = some (some (.int 3 (Hq.tk K "MOST_SIGNS"))))
def q154 (K : PySem.W.Frag) : Bool := decide (PySem.W.nsIn K mainGlobals "MOST_MOODS" = some (some (.int 300 (Hq.tk K "MOST_MOODS"))))
def q155 (K : PySem.W.Frag) : Bool := decide (PySem.W.nsIn K mainGlobals "MOST_ROW" = some (some (.int 1000 (Hq.tk K "MOST_ROW"))))
def q156 (K : PySem.W.Frag) : Bool := decide (PySem.W.nsIn K mainGlobals "LONGEST_WORD" = some (some (.int 8 (Hq.tk K "LONGEST_WORD"))))
def q157 (K : PySem.W.Frag) : Bool := decide (PySem.W.nsIn K mainGlobals "LETTERS" = some (some (.str "abcdefghijklmnopqrstuvwxyz" (Hq.tk K "LETTERS"))))
def q158 (K : PySem.W.Frag) : Bool := decide (PySem.W.nsIn K mainGlobals "TITLES" = some (some (.ref (He.ga K "TITLES"))))
def q159 (K : PySem.W.Frag) : Bool := He.tupB K "TITLES" [.str "signs", .str "moods", .str "good"]
def q160 (K : PySem.W.Frag) : Bool := decide (PySem.W.nsIn K mainGlobals "PAIR_WORDS" = some (some (.ref (He.ga K "PAIR_WORDS"))))
def q161 (K : PySem.W.Frag) : Bool := He.tupB K "PAIR_WORDS" [.str "alike", .str "within"]
def q162 (K : PySem.W.Frag) : Bool := decide (PySem.W.nsIn K mainGlobals "KINDS" = some (some (.ref (He.ga K "KINDS"))))
def q163 (K : PySem.W.Frag) : Bool := He.tupB K "KINDS" [.str "last", .str "ends", .str "windows", .str "sets"]
def q164 (K : PySem.W.Frag) : Bool := decide (PySem.W.plainGet K (He.ga K "Rule") Str.empty = true)
def q165 (K : PySem.W.Frag) : Bool := decide (PySem.W.hasDictIn K (He.ga K "Rule") = true)
def q166 (K : PySem.W.Frag) : Bool := decide (PySem.W.plainOver K (He.ga K "Rule") = true)
def q167 (K : PySem.W.Frag) : Bool := decide (PySem.W.findIn K (.ref (He.ga K "Rule")) "__setattr__" = some (some (.builtin "object.__setattr__")))
def q168 (K : PySem.W.Frag) : Bool := decide (PySem.W.makesIn K (He.ga K "Rule") = true)
def q169 (K : PySem.W.Frag) : Bool := decide (PySem.W.keepIn K (.ref (He.ga K "Rule")) = true)
def q170 (K : PySem.W.Frag) : Bool := decide (PySem.W.plainGet K (He.ga K "Desk") Str.empty = true)
def q171 (K : PySem.W.Frag) : Bool := decide (PySem.W.hasDictIn K (He.ga K "Desk") = true)
def q172 (K : PySem.W.Frag) : Bool := decide (PySem.W.plainOver K (He.ga K "Desk") = true)
def q173 (K : PySem.W.Frag) : Bool := decide (PySem.W.findIn K (.ref (He.ga K "Desk")) "__setattr__" = some (some (.builtin "object.__setattr__")))
def q174 (K : PySem.W.Frag) : Bool := decide (PySem.W.makesIn K (He.ga K "Desk") = true)
def q175 (K : PySem.W.Frag) : Bool := decide (PySem.W.keepIn K (.ref (He.ga K "Desk")) = true)
def q176 (K : PySem.W.Frag) : Bool := decide (PySem.W.plainGet K (He.ga K "State") Str.empty = true)
def q177 (K : PySem.W.Frag) : Bool := decide (PySem.W.hasDictIn K (He.ga K "State") = true)
def q178 (K : PySem.W.Frag) : Bool := decide (PySem.W.plainOver K (He.ga K "State") = true)
def q179 (K : PySem.W.Frag) : Bool := decide (PySem.W.findIn K (.ref (He.ga K "State")) "__setattr__" = some (some (.builtin "object.__setattr__")))
def q180 (K : PySem.W.Frag) : Bool := decide (PySem.W.makesIn K (He.ga K "State") = true)
def q181 (K : PySem.W.Frag) : Bool := decide (PySem.W.keepIn K (.ref (He.ga K "State")) = true)
def q182 (K : PySem.W.Frag) : Bool := decide (PySem.W.findIn K (.ref (He.ga K "Rule")) "written" = some none)
def q183 (K : PySem.W.Frag) : Bool := decide (PySem.W.findIn K (.ref (He.ga K "Rule")) "letters" = some none)
def q184 (K : PySem.W.Frag) : Bool := decide (PySem.W.findIn K (.ref (He.ga K "Rule")) "words" = some none)
def q185 (K : PySem.W.Frag) : Bool := decide (PySem.W.findIn K (.ref (He.ga K "Rule")) "chosen" = some none)
def q186 (K : PySem.W.Frag) : Bool := decide (PySem.W.findIn K (.ref (He.ga K "Rule")) "goals" = some none)
def q187 (K : PySem.W.Frag) : Bool := decide (PySem.W.findIn K (.ref (He.ga K "State")) "held" = some none)
def q188 (K : PySem.W.Frag) : Bool := decide (PySem.W.findIn K (.ref (He.ga K "State")) "said" = some none)
def q189 (K : PySem.W.Frag) : Bool := decide (PySem.W.findIn K (.ref (He.ga K "State")) "earlier" = some none)
def q190 (K : PySem.W.Frag) : Bool := decide (PySem.W.findIn K (.ref (He.ga K "State")) "depth" = some none)
def q191 (K : PySem.W.Frag) : Bool := decide (PySem.W.findIn K (.ref (He.ga K "Desk")) "state" = some none)
def q192 (K : PySem.W.Frag) : Bool := decide (PySem.W.findIn K (.ref (He.ga K "Rule")) "__class__" = some (some (.builtin "object.__class__")))
def q193 (K : PySem.W.Frag) : Bool := decide (PySem.W.specialIn K (.builtin "object.__class__") "__get__" = some (some (.builtin "getset_descriptor.__get__")))
def q194 (K : PySem.W.Frag) : Bool := decide (PySem.W.takesIn K (.builtin "object.__class__") = some true)
def q195 (K : PySem.W.Frag) : Bool := decide (PySem.W.mroIn K (He.ga K "Rule") (.type "object") = some true)
def q196 (K : PySem.W.Frag) : Bool := decide (PySem.W.kitOne K (.ref (He.ga K "Rule")) (.ref (He.ga K "Rule")) = some true)
def q197 (K : PySem.W.Frag) : Bool := chkF K
abbrev fn0 : Hq.FnA := ⟨fun K => (He.ga K "made_of"), "made_of", "made_of", defArgs sMade, defBody sMade, defScope sMade⟩
abbrev fn1 : Hq.FnA := ⟨fun K => (He.ga K "is_row_of"), "is_row_of", "is_row_of", defArgs sRowOf, defBody sRowOf, defScope sRowOf⟩
abbrev fn2 : Hq.FnA := ⟨fun K => (He.ga K "is_word"), "is_word", "is_word", defArgs sWord, defBody sWord, defScope sWord⟩
abbrev fn3 : Hq.FnA := ⟨fun K => (He.ga K "are_signs"), "are_signs", "are_signs", defArgs sSigns, defBody sSigns, defScope sSigns⟩
abbrev fn4 : Hq.FnA := ⟨fun K => (He.ga K "are_moods"), "are_moods", "are_moods", defArgs sMoods, defBody sMoods, defScope sMoods⟩
abbrev fn5 : Hq.FnA := ⟨fun K => (He.ga K "are_good"), "are_good", "are_good", defArgs sGood, defBody sGood, defScope sGood⟩
abbrev fn6 : Hq.FnA := ⟨fun K => (He.ga K "read_goals"), "read_goals", "read_goals", defArgs sGoals, defBody sGoals, defScope sGoals⟩
abbrev fn7 : Hq.FnA := ⟨fun K => (He.ga K "read_rule"), "read_rule", "read_rule", defArgs sRead, defBody sRead, defScope sRead⟩
abbrev fn8 : Hq.FnA := ⟨fun K => (He.ga K "check_rule"), "check_rule", "check_rule", defArgs sCRule, defBody sCRule, defScope sCRule⟩
abbrev fn9 : Hq.FnA := ⟨fun K => (He.ga K "is_wish"), "is_wish", "is_wish", defArgs sIsWish, defBody sIsWish, defScope sIsWish⟩
abbrev fn10 : Hq.FnA := ⟨fun K => (He.ga K "is_good_row"), "is_good_row", "is_good_row", defArgs sGoodRow, defBody sGoodRow, defScope sGoodRow⟩
abbrev fn11 : Hq.FnA := ⟨fun K => (He.ga K "holds"), "holds", "holds", defArgs sHoldsW, defBody sHoldsW, defScope sHoldsW⟩
abbrev fn12 : Hq.FnA := ⟨fun K => (He.ga K "evidence"), "evidence", "evidence", defArgs sEvid, defBody sEvid, defScope sEvid⟩
abbrev fn13 : Hq.FnA := ⟨fun K => (He.ga K "is_claim"), "is_claim", "is_claim", defArgs sIsClaim, defBody sIsClaim, defScope sIsClaim⟩
abbrev fn14 : Hq.FnA := ⟨fun K => (He.ga K "wish_of"), "wish_of", "wish_of", defArgs sWishOf, defBody sWishOf, defScope sWishOf⟩
abbrev fn15 : Hq.FnA := ⟨fun K => (He.ga K "names_of"), "names_of", "names_of", defArgs sNamesOf, defBody sNamesOf, defScope sNamesOf⟩
abbrev fn16 : Hq.FnA := ⟨fun K => (He.ga K "is_so"), "is_so", "is_so", defArgs sIsSoD, defBody sIsSoD, defScope sIsSoD⟩
abbrev fn17 : Hq.FnA := ⟨fun K => (He.ga K "shown_against"), "shown_against", "shown_against", defArgs sShownA, defBody sShownA, defScope sShownA⟩
abbrev fn18 : Hq.FnA := ⟨fun K => (He.ga K "_law_cell"), "_law_cell", "_law_cell", defArgs sCell, defBody sCell, defScope sCell⟩
abbrev fn19 : Hq.FnA := ⟨fun K => (He.ga K "_law_purse"), "_law_purse", "_law_purse", defArgs sPurse, defBody sPurse, defScope sPurse⟩
abbrev fn20 : Hq.FnA := ⟨fun K => (He.ga K "_law_pick"), "_law_pick", "_law_pick", defArgs sPick, defBody sPick, defScope sPick⟩
abbrev fn21 : Hq.FnA := ⟨fun K => (He.ga K "_law_letters"), "_law_letters", "_law_letters", defArgs sLetters, defBody sLetters, defScope sLetters⟩
abbrev fn22 : Hq.FnA := ⟨fun K => (He.ga K "_law_aim"), "_law_aim", "_law_aim", defArgs sAim, defBody sAim, defScope sAim⟩
abbrev fn23 : Hq.FnA := ⟨fun K => (He.ga K "_law_box"), "_law_box", "_law_box", defArgs sBox, defBody sBox, defScope sBox⟩
abbrev fn24 : Hq.FnA := ⟨fun K => (He.ga K "_law_text"), "_law_text", "_law_text", defArgs sText, defBody sText, defScope sText⟩
abbrev fn25 : Hq.FnA := ⟨fun K => (He.ga K "_law_end"), "_law_end", "_law_end", defArgs sEnd, defBody sEnd, defScope sEnd⟩
abbrev fn26 : Hq.FnA := ⟨fun K => (He.ga K "_law_is_fine"), "_law_is_fine", "_law_is_fine", defArgs sFine, defBody sFine, defScope sFine⟩
abbrev fn27 : Hq.FnA := ⟨fun K => (He.ga K "_law_refused"), "_law_refused", "_law_refused", defArgs sRefused, defBody sRefused, defScope sRefused⟩
abbrev fn28 : Hq.FnA := ⟨fun K => (He.ga K "_law_caught"), "_law_caught", "_law_caught", defArgs sCaught, defBody sCaught, defScope sCaught⟩
abbrev fn29 : Hq.FnA := ⟨fun K => (He.ga K "_law_desk_is"), "_law_desk_is", "_law_desk_is", defArgs sDeskIs, defBody sDeskIs, defScope sDeskIs⟩
abbrev fn30 : Hq.FnA := ⟨fun K => (He.ga K "_law_same"), "_law_same", "_law_same", defArgs sSame, defBody sSame, defScope sSame⟩
abbrev fn31 : Hq.FnA := ⟨fun K => (He.ga K "_law_line"), "_law_line", "_law_line", defArgs sLine, defBody sLine, defScope sLine⟩
abbrev fn32 : Hq.FnA := ⟨fun K => (He.ga K "_law_holds"), "_law_holds", "_law_holds", defArgs sHolds, defBody sHolds, defScope sHolds⟩
abbrev fn33 : Hq.FnA := ⟨fun K => (He.ga K "_law_right"), "_law_right", "_law_right", defArgs sRight, defBody sRight, defScope sRight⟩
abbrev fn34 : Hq.FnA := ⟨fun K => (He.ga K "law"), "law", "law", defArgs sLaw, defBody sLaw, defScope sLaw⟩
abbrev fn35 : Hq.FnA := ⟨fun K => (He.ma K (He.ga K "Rule") "__init__"), "__init__", "Rule.__init__", defArgs (inClass sRule 0), defBody (inClass sRule 0), defScope (inClass sRule 0)⟩
abbrev fn36 : Hq.FnA := ⟨fun K => (He.ma K (He.ga K "Rule") "mood"), "mood", "Rule.mood", defArgs (inClass sRule 8), defBody (inClass sRule 8), defScope (inClass sRule 8)⟩
abbrev fn37 : Hq.FnA := ⟨fun K => (He.ma K (He.ga K "Rule") "has"), "has", "Rule.has", defArgs (inClass sRule 9), defBody (inClass sRule 9), defScope (inClass sRule 9)⟩
abbrev fn38 : Hq.FnA := ⟨fun K => (He.ma K (He.ga K "State") "__init__"), "__init__", "State.__init__", defArgs (inClass sState 0), defBody (inClass sState 0), defScope (inClass sState 0)⟩
abbrev fn39 : Hq.FnA := ⟨fun K => (He.ma K (He.ga K "Desk") "__init__"), "__init__", "Desk.__init__", defArgs (inClass sDesk 0), defBody (inClass sDesk 0), defScope (inClass sDesk 0)⟩
abbrev fn40 : Hq.FnA := ⟨fun K => (He.ma K (He.ga K "Desk") "put"), "put", "Desk.put", defArgs (inClass sDesk 4), defBody (inClass sDesk 4), defScope (inClass sDesk 4)⟩
abbrev fn41 : Hq.FnA := ⟨fun K => (He.ma K (He.ga K "Desk") "rule"), "rule", "Desk.rule", defArgs (inClass sDesk 5), defBody (inClass sDesk 5), defScope (inClass sDesk 5)⟩
abbrev fn42 : Hq.FnA := ⟨fun K => (He.ma K (He.ga K "Desk") "claim"), "claim", "Desk.claim", defArgs (inClass sDesk 7), defBody (inClass sDesk 7), defScope (inClass sDesk 7)⟩
abbrev fn43 : Hq.FnA := ⟨fun K => (He.ma K (He.ga K "Desk") "check_name"), "check_name", "Desk.check_name", defArgs (inClass sDesk 12), defBody (inClass sDesk 12), defScope (inClass sDesk 12)⟩
abbrev fn44 : Hq.FnA := ⟨fun K => (He.ma K (He.ga K "Broken") "__init__"), "__init__", "Broken.__init__", defArgs (inClass (top 24) 0), defBody (inClass (top 24) 0), defScope (inClass (top 24) 0)⟩
abbrev fn45 : Hq.FnA := ⟨fun K => (Hq.pf K (He.ma K (He.ga K "Rule") "text")), "text", "Rule.text", defArgs (inClass sRule 1), defBody (inClass sRule 1), defScope (inClass sRule 1)⟩
abbrev fn46 : Hq.FnA := ⟨fun K => (Hq.pf K (He.ma K (He.ga K "Rule") "signs")), "signs", "Rule.signs", defArgs (inClass sRule 2), defBody (inClass sRule 2), defScope (inClass sRule 2)⟩
abbrev fn47 : Hq.FnA := ⟨fun K => (Hq.pf K (He.ma K (He.ga K "Desk") "names")), "names", "Desk.names", defArgs (inClass sDesk 1), defBody (inClass sDesk 1), defScope (inClass sDesk 1)⟩
abbrev fn48 : Hq.FnA := ⟨fun K => (Hq.pf K (He.ma K (He.ga K "Desk") "claims")), "claims", "Desk.claims", defArgs (inClass sDesk 2), defBody (inClass sDesk 2), defScope (inClass sDesk 2)⟩
abbrev fn49 : Hq.FnA := ⟨fun K => (Hq.pf K (He.ma K (He.ga K "Desk") "changes")), "changes", "Desk.changes", defArgs (inClass sDesk 3), defBody (inClass sDesk 3), defScope (inClass sDesk 3)⟩
def ask0 : List Str := ["Rule", "Desk", "State", "InvalidText", "InvalidRow", "InvalidKind", "InvalidNumber", "InvalidMood", "InvalidSign", "InvalidPaper", "InvalidName", "InvalidIndex", "InvalidClaim", "NotARule", "InvalidWishes", "InvalidChanges", "UnknownName", "InUse", "NothingToUndo", "OtherSigns", "TooMany", "Kept", "Broken", "NotRight", "NotKnown", "NotPossible", "made_of", "is_row_of", "is_word", "are_signs"]
def ask1 : List Str := ["are_moods", "are_good", "read_goals", "read_rule", "check_rule", "is_wish", "is_good_row", "holds", "evidence", "is_claim", "wish_of", "names_of", "is_so", "shown_against", "_law_cell", "_law_purse", "_law_pick", "_law_letters", "_law_aim", "_law_box", "_law_text", "_law_end", "_law_is_fine", "_law_refused", "_law_caught", "_law_desk_is", "_law_same", "_law_line", "_law_holds", "_law_right"]
def ask2 : List Str := ["law", "MOST_SIGNS", "MOST_MOODS", "MOST_ROW", "LONGEST_WORD", "LETTERS", "TITLES", "PAIR_WORDS", "KINDS"]
def asked : List Str := ask0 ++ ask1 ++ ask2
def nm0 : List Str := ["_wall", "NotRight", "InvalidText", "InvalidRow", "InvalidKind", "InvalidNumber", "InvalidMood", "InvalidSign", "InvalidPaper", "InvalidName", "InvalidIndex", "InvalidClaim", "NotARule", "InvalidWishes", "InvalidChanges", "NotKnown", "UnknownName", "InUse", "NothingToUndo", "NotPossible", "OtherSigns", "TooMany", "Kept", "Broken", "MOST_SIGNS", "MOST_MOODS", "MOST_ROW", "MOST_LOOK", "MOST_PIECE", "MOST_MOVINGS"]
def nm1 : List Str := ["MOST_TRIPLES", "in_bounds", "LETTERS", "LONGEST_WORD", "TITLES", "made_of", "is_row_of", "is_word", "are_signs", "are_moods", "are_good", "read_goals", "read_rule", "write_rule", "Rule", "check_rule", "explored", "row_back", "first_row", "Lots", "sources_by_sign", "alike_lots", "mood_name", "least_rule", "formed", "first_moods", "pair_step", "pair_test", "first_shown", "joined"]
def nm2 : List Str := ["least_form", "KINDS", "is_kind", "is_number", "check_kind", "check_number", "Form", "check_piece", "marked_rows", "stands_in_good", "pieces", "hull", "extra", "first_rows", "explored_ways", "Movings", "ENDLESS", "in_order", "heights_of", "Pairs", "pairs_for_last", "pairs_for_windows", "Forks", "shortest_rows", "triples_and_rows", "sets_clash", "tallest", "least_for_ends", "least_for_sets", "kept"]
def nm3 : List Str := ["least_look", "SAME_LOOK_KINDS", "parted_rows", "last_clash", "ends_clash", "same_look", "MOST_ASKED", "KINDS_WITHOUT_SETS", "is_wish", "is_kept", "is_good_row", "holds", "evidence", "PAIR_WORDS", "is_claim", "wish_of", "names_of", "first_against", "is_so", "shown_against", "State", "Desk", "_law_cell", "_law_purse", "_law_pick", "_law_letters", "_law_aim", "_law_box", "_law_text", "_law_end"]
def nm4 : List Str := ["_law_is_fine", "_law_refused", "_law_caught", "_law_desk_is", "_law_same", "_law_line", "_law_holds", "_law_right"]
def others : List Str := nm0 ++ nm1 ++ nm2 ++ nm3 ++ nm4
abbrev R : PySem.W.OpenRow := PySem.W.OpenLaw.row PySem.Challenge.rw_shortlooks_k51_good_and_bad_claims
def qs_0 : List (PySem.W.Frag → Bool) := [q0, q1, q2, q3, q4, q5, q6, q7, q8, q9, q10, q11, q12, q13, q14, q15, q16, q17, q18, q19, q20, q21, q22, q23, q24, q25, q26, q27, q28, q29, q30, q31, q32, q33, q34, q35, q36, q37, q38, q39, q40, q41, q42, q43, q44, q45, q46, q47, q48, q49, q50, q51, q52, q53, q54, q55, q56, q57, q58, q59, q60, q61, q62, q63, q64, q65, q66, q67, q68, q69, q70, q71, q72, q73, q74, q75, q76, q77, q78, q79, q80, q81, q82, q83, q84, q85, q86, q87, q88, q89, q90, q91, q92, q93, q94, q95, q96, q97, q98]
def fns_0 : List Hq.FnA := [fn0, fn1, fn2, fn3, fn4, fn5, fn6, fn7, fn8, fn9, fn10, fn11, fn12, fn13, fn14, fn15, fn16, fn17, fn18, fn19, fn20, fn21, fn22, fn23, fn24]
def tfs_0 : List (PySem.W.Frag → Addr) := [(fun K => (He.ga K "_law_right"))]
def qs_1 : List (PySem.W.Frag → Bool) := [q99, q100, q101, q102, q103, q104, q105, q106, q107, q108, q109, q110, q111, q112, q113, q114, q115, q116, q117, q118, q119, q120, q121, q122, q123, q124, q125, q126, q127, q128, q129, q130, q131, q132, q133, q134, q135, q136, q137, q138, q139, q140, q141, q142, q143, q144, q145, q146, q147, q148, q149, q150, q151, q152, q153, q154, q155, q156, q157, q158, q159, q160, q161, q162, q163, q164, q165, q166, q167, q168, q169, q170, q171, q172, q173, q174, q175, q176, q177, q178, q179, q180, q181, q182, q183, q184, q185, q186, q187, q188, q189, q190, q191, q192, q193, q194, q195, q196, q197]
def fns_1 : List Hq.FnA := [fn25, fn26, fn27, fn28, fn29, fn30, fn31, fn32, fn33, fn34, fn35, fn36, fn37, fn38, fn39, fn40, fn41, fn42, fn43, fn44, fn45, fn46, fn47, fn48, fn49]
def tfs_1 : List (PySem.W.Frag → Addr) := []
def qs : List (PySem.W.Frag → Bool) := (qs_0 ++ qs_1)
def fns : List Hq.FnA := (fns_0 ++ fns_1)
def tfs : List (PySem.W.Frag → Addr) := (tfs_0 ++ tfs_1)
abbrev hk : PySem.W.Hook := Hq.hookQ asked qs fns tfs
def ob (s : PySem.W.SharedT) : He.Al × Bool := Hq.obsQ asked qs fns tfs (HandSHeadRun.getT s)
theorem ob_eq (s : PySem.W.SharedT) : ob s = hk.obs s.abs := Hq.obsQ_eq (HandSHeadRun.getT_eq s)
open PySem.W PySem.Calls HandSHeadRun in
theorem run_looks (w : World) (os : OsState) : (HandSHeadRun.endF (HandSHeadRun.stepQ (HandSHeadRun.denQ HandSHeadRun.tabQ) R.prog w) 30000 R.prog w os).map (fun s => HandSHeadRun.looksF R.prog (PySem.W.boot_heap w.params) s.abs) = some true := by kernel_rfl
open PySem.W PySem.Calls HandSHeadRun in
theorem run_seen (w : World) (os : OsState) : (HandSHeadRun.endF (HandSHeadRun.stepQ (HandSHeadRun.denQ HandSHeadRun.tabQ) R.prog w) 30000 R.prog w os).map (fun s => HandSHeadRun.seenQ (PySem.W.view R.prog [144]) others (importedModules R.prog.main.body) (fun s => PySem.W.xlAt (PySem.W.view R.prog [144]) [] s && recOk R.toRowW.records s) s.abs) = some (openGood (PySem.W.view R.prog [144]) others) := by kernel_rfl
open PySem.W PySem.Calls HandSHeadRun in
theorem run_obs0 (w : World) (os : OsState) : (HandSHeadRun.endF (HandSHeadRun.stepQ (HandSHeadRun.denQ HandSHeadRun.tabQ) R.prog w) 30000 R.prog w os).map (fun s => Hq.obsQ asked qs_0 fns_0 tfs_0 (HandSHeadRun.getT s)) = some (Hq.valQ fns_0, true) := by kernel_rfl
open PySem.W PySem.Calls HandSHeadRun in
theorem run_obs1 (w : World) (os : OsState) : (HandSHeadRun.endF (HandSHeadRun.stepQ (HandSHeadRun.denQ HandSHeadRun.tabQ) R.prog w) 30000 R.prog w os).map (fun s => Hq.obsQ asked qs_1 fns_1 tfs_1 (HandSHeadRun.getT s)) = some (Hq.valQ fns_1, true) := by kernel_rfl
theorem run (w : World) : HandSHeadRun.RunEq R (PySem.W.view R.prog [144]) hk ob 30000 others w := by
  intro os
  exact Hq.three (run_looks w os) (run_seen w os) (Hq.obs_app (run_obs0 w os) (run_obs1 w os))
end My
namespace PySem
namespace GX
open PySem.W PySem.Calls PyProof.Rows PySem.HandSPX
open Builtin Builtin.ObjectAttr

section
variable {M : Model} {Ar : Around} {Er : Value → Shared → Prop} {hh : Heap} {gg : Array GenState} {dd : Drawn} {tt : Nat} {oo : OsState}
variable {n1 n2 : Str} {C N : Addr} {b1 b2 b3 : List Value} {hx : Bool} {l1 : List Str} {l2 : List Value} {ab : Bool} {cl : Option Bool} {da : Option Addr} {m0 m1 m2 m3 m5 : Option Value} {B nid iid : String}

theorem chkNew (F : ExcBaseFacts B nid iid b3) (hT : ∀ Y : String, b2.contains (.type Y) = b3.contains (.type Y)) {rs : List Value} {kw : List (Str × Value)} {Q : Unit → Shared → Prop}
    (hC : hh.get? C = some (excClassObj n1 n2 C N b1 b2 hx l1 l2 ab cl da m0 m1 m2 m3 m5 nid))
    (hq : Q () ⟨hh, gg, dd, tt, oo⟩) :
    wpAny M Ar (checkBuiltinCall nid ⟨.ref C :: rs, kw⟩) Q Er ⟨hh, gg, dd, tt, oo⟩ := by
  have c1 : (Value.ref C :: b2).contains (.type B) = true := by
    rw [List.contains_cons, hT, F.hasB, Bool.or_true]
  have c2 := F.noStar
  simp only [checkBuiltinCall, F.newKind, F.newSplit, F.newRow]
  repeat (first
    | refine wpAny_loadPart_at hC ?_
    | (refine wpAny_isSubtype_exc hC ?_; rw [c1])
    | refine wpAny_staticBase_exc hC ?_
    | refine wpAny_madeBy_exc hC ?_
    | simp only [bne_self_eq_false, Bool.false_eq_true, if_false]
    | wp_step)
  exact hq
end
section
variable {pr : Program} {wd : World} {Ar : Around} {Er : Value → Shared → Prop} {Rr : Result → Shared → Prop} {hh : Heap} {gg : Array GenState} {dd : Drawn} {tt : Nat} {oo : OsState}
variable {n1 n2 : Str} {C N : Addr} {b1 b2 b3 : List Value} {hx : Bool} {l1 : List Str} {l2 : List Value} {ab : Bool} {cl : Option Bool} {da : Option Addr} {m0 m1 m2 m3 m5 : Option Value} {B nid iid : String}

theorem newK (F : ExcBaseFacts B nid iid b3) (hT : ∀ Y : String, b2.contains (.type Y) = b3.contains (.type Y)) {rs : List Value} {kw : List (Str × Value)}
    (hC : hh.get? C = some (excClassObj n1 n2 C N b1 b2 hx l1 l2 ab cl da m0 m1 m2 m3 m5 nid))
    (hq : Rr (.ok (.ret (.ref (hh.objs.size + 1)))) ⟨(hh.push (W.kdv_tup rs)).push (excO C hh.objs.size), gg, dd, tt, oo⟩)
    (hrs : rs.length ≤ sizeLine) :
    codeAny (model pr wd) Ar (.builtin nid ⟨.ref C :: rs, kw⟩) Rr ⟨hh, gg, dd, tt, oo⟩ := by
  have c0 := F.ends
  have cB : (Value.ref C :: b2).contains (.type B) = true := by
    rw [List.contains_cons, hT, F.hasB, Bool.or_true]
  have cA : (Value.ref C :: b2).contains (.type "AttributeError") = false := by
    rw [List.contains_cons, hT, F.noAttr]; rfl
  have cN : (Value.ref C :: b2).contains (.type "NameError") = false := by
    rw [List.contains_cons, hT, F.noName]; rfl
  refine codeAny_builtinAt F.entry ?_
  unfold Builtin.«BaseException.__new__»
  refine wpAt_bind ?_
  show wpAt _ _ _ (stack >>= _) _ _ _
  refine wpAt_bind (wpAt_stack fun p below => wpAt_of_wpAny ?_)
  wp_walk
  refine wpAt_of_wpAny ?_
  rw [F.owner]
  repeat (first
    | with_reducible refine wpAny_madeHere_exc F.canon hC ?_
    | with_reducible refine wpAny_loadPart_at hC ?_
    | (with_reducible refine wpAny_isSubtype_exc hC ?_; first | rw [cB] | rw [cA] | rw [cN])
    | wp_step)
  show Rr _ _
  rw [Heap.size_push]
  exact hq
end
end GX
end PySem
namespace PySem
namespace GX
open PySem.W PySem.Calls PyProof.Rows PySem.HandSPX
open Builtin Builtin.ObjectAttr
section
variable {M : Model} {Ar : Around} {Er : Value → Shared → Prop} {hh : Heap} {gg : Array GenState} {dd : Drawn} {tt : Nat} {oo : OsState}
variable {n1 n2 : Str} {C N : Addr} {b1 b2 b3 : List Value} {hx : Bool} {l1 : List Str} {l2 : List Value} {ab : Bool} {cl : Option Bool} {da : Option Addr} {m0 m1 m2 m3 m5 : Option Value} {B nid iid : String}
theorem chkCall {rs : List Value} {kw : List (Str × Value)} {Q : Unit → Shared → Prop}
    (hC : hh.get? C = some (excClassObj n1 n2 C N b1 b2 hx l1 l2 ab cl da m0 m1 m2 m3 m5 nid))
    (hq : Q () ⟨hh, gg, dd, tt, oo⟩) :
    wpAny M Ar (checkBuiltinCall "type.__call__" ⟨.ref C :: rs, kw⟩) Q Er ⟨hh, gg, dd, tt, oo⟩ := by
  have z3 := tc_sub
  have zT : (⟨hh, gg, dd, tt, oo⟩ : Shared).TypeIs (.ref C) "type" := ⟨_, hC, rfl⟩
  simp only [checkBuiltinCall, tc_kind, tc_split]
  repeat (any_goals (first
    | assumption
    | with_reducible refine wpAny_loadPart_at hC ?_
    | with_reducible refine wpAny_onRaise ?_
    | with_reducible refine wpAny_map ?_
    | wp_step))
end
section
variable {pr : Program} {wd : World} {Ar : Around} {Er : Value → Shared → Prop} {Rr : Result → Shared → Prop} {hh : Heap} {gg : Array GenState} {dd : Drawn} {tt : Nat} {oo : OsState}
variable {n1 n2 : Str} {C N : Addr} {b1 b2 b3 : List Value} {hx : Bool} {l1 : List Str} {l2 : List Value} {ab : Bool} {cl : Option Bool} {da : Option Addr} {m0 m1 m2 m3 m5 : Option Value} {B nid iid : String}

theorem typeK (F : ExcBaseFacts B nid iid b3) (hT : ∀ Y : String, b2.contains (.type Y) = b3.contains (.type Y)) {rs : List Value} {kw : List (Str × Value)} {fI : Addr} {Q : Fin → Shared → Prop}
    (hC : hh.get? C = some (excClassObj n1 n2 C N b1 b2 hx l1 l2 ab cl da m0 m1 m2 m3 m5 nid))
    (hi : W.Looks (model pr wd) hh (typeLookup (.ref C) "__init__") (some (.ref fI)))
    (hb : ∀ self, W.Looks (model pr wd) hh (bindSpecial (.ref fI) self) (.ref fI, [self]))
    (hrs : rs.length ≤ sizeLine)
    (hq : codeAny (model pr wd) Ar (.call (.ref fI) ⟨.ref (hh.objs.size + 1) :: rs, kw⟩)
      (fun r s' => match r with
        | .ok (.ret v) => v = .none ∧ Q (.done (.ret (.ref (hh.objs.size + 1)))) s'
        | .ok _ => False
        | .error e => Er e s')
      ⟨(hh.push (W.kdv_tup rs)).push (excO C hh.objs.size), gg, dd, tt, oo⟩) :
    wpAny (model pr wd) Ar (Builtin.«type.__call__» ⟨.ref C :: rs, kw⟩) Q Er ⟨hh, gg, dd, tt, oo⟩ := by
  repeat (first
    | with_reducible refine wpAny_loadPart_at hC ?_
    | with_reducible refine wpAny_madeBy_exc hC ?_
    | wp_step)
  refine codeAny_call_builtin_code (Code.quiet_builtin _ F.quiet) (chkNew F hT hC ?_)
  refine newK F hT hC ?_ hrs
  show wpAny _ _ _ _ _ _
  have kk : ∀ b o, hh.get? b = some o → ((hh.push (W.kdv_tup rs)).push (excO C hh.objs.size)).get? b = some o :=
    fun b o e => Heap.get?_push_of_some _ (Heap.get?_push_of_some _ e)
  have hC1 := kk _ _ hC
  have hgt : ((hh.push (W.kdv_tup rs)).push (excO C hh.objs.size)).get? (hh.objs.size + 1) = some (excO C hh.objs.size) := by
    heap_get
  have cC : (Value.ref C :: b2).contains (.ref C) = true := by simp
  have j1 := hi.keeps kk
  have j2 := (hb (.ref (hh.objs.size + 1))).keeps kk
  unfold isInstance
  repeat (first
    | with_reducible refine wpAny_loadPart_at hgt ?_
    | (with_reducible refine wpAny_isSubtype_exc hC1 ?_; rw [cC])
    | wp_step)
  show wpAny _ _ (typeLookup (.ref C) _) _ _ _
  refine j1.at ?_
  refine wpAny_holding (wpAny_bind (j2.at ?_))
  refine wpAny_bind (wpAny_call (codeAny_mono hq fun r s' z => ?_))
  rcases r with e | (v | _ | _ | _) <;> first | exact z | exact z.elim | skip
  obtain ⟨rfl, z⟩ := z
  first
    | exact wpAny_pure (wpAny_pure z)
    | (wp_walk; exact z)

theorem callK (F : ExcBaseFacts B nid iid b3) (hT : ∀ Y : String, b2.contains (.type Y) = b3.contains (.type Y)) {rs : List Value} {kw : List (Str × Value)} {fI : Addr}
    (hC : hh.get? C = some (excClassObj n1 n2 C N b1 b2 hx l1 l2 ab cl da m0 m1 m2 m3 m5 nid))
    (hi : W.Looks (model pr wd) hh (typeLookup (.ref C) "__init__") (some (.ref fI)))
    (hb : ∀ self, W.Looks (model pr wd) hh (bindSpecial (.ref fI) self) (.ref fI, [self]))
    (hrs : rs.length ≤ sizeLine)
    (hq : codeAny (model pr wd) (Ar.under (.builtin "type.__call__" ⟨.ref C :: rs, kw⟩)) (.call (.ref fI) ⟨.ref (hh.objs.size + 1) :: rs, kw⟩) (W.InitBack (hh.objs.size + 1) Rr)
      ⟨(hh.push (W.kdv_tup rs)).push (excO C hh.objs.size), gg, dd, tt, oo⟩) :
    codeAny (model pr wd) Ar (.call (.ref C) ⟨rs, kw⟩) Rr ⟨hh, gg, dd, tt, oo⟩ := by
  have z1 := tc_lookup
  have z2 := tc_bind (.ref C)
  have zT : (⟨hh, gg, dd, tt, oo⟩ : Shared).TypeIs (.ref C) "type" := ⟨_, hC, rfl⟩
  refine codeAny_of_tree ?_
  show wpAny _ _ (callAny (.ref C) _) _ _ _
  repeat (any_goals (first
    | assumption
    | with_reducible refine wpAny_loadPart_at hC ?_
    | wp_step))
  refine ⟨rfl, ?_⟩
  refine codeAny_call_builtin_at (Code.quiet_builtin _ (by decide +kernel)) entry_typeCall (chkCall hC (typeK F hT hC hi hb hrs ?_))
  refine codeAny_mono hq fun r s' z => ?_
  rcases r with e | (v | _ | _ | _) <;> exact z
end
end GX
end PySem
namespace PySem
namespace GX
open PySem.W PySem.Calls PyProof.Rows PySem.HandSPX
open Builtin Builtin.ObjectAttr
/-- what an own class's mro must say for a store to an instance -/
structure MroOk (l : List Value) : Prop where
  pass : ∀ self, refuseLoop self "__setattr__" l = pure ()
  ob : l.contains (.type "object") = true
  ne : l.isEmpty = false
section
variable {pr : Program} {wd : World} {Ar : Around} {Er : Value → Shared → Prop} {Rr : Result → Shared → Prop} {hh : Heap} {gg : Array GenState} {dd : Drawn} {tt : Nat} {oo : OsState}
theorem osaN {K : W.Frag} {nm : Str} {tk : Tok} {v : Value} {x C : Addr} {fv : Array Value} {cd : ClassData}
    (X : K.In hh) (hx : hh.get? x = some { cls := .ref C, data := .fields fv }) (hcd : W.clsIn K C = some cd) (hm : MroOk cd.mro) (hd : cd.hasDict = true)
    (ha : W.findIn K (.ref C) nm = some none)
    (hq : ∀ h' tk' dx, (∀ b o, b ≠ x → hh.get? b = some o → h'.get? b = some o) → hh.objs.size ≤ dx → dx ≠ x →
      h'.get? x = some { cls := .ref C, dict := some dx, data := .fields fv } →
      h'.Ns1 dx (fun y => if y = nm then some v else none) → Rr (.ok (.ret .none)) ⟨h', gg, dd, tk', oo⟩) :
    codeAny (model pr wd) Ar (.call (.builtin "object.__setattr__") ⟨[.ref x, .str nm tk, v], []⟩) Rr ⟨hh, gg, dd, tt, oo⟩ := by
  have I : W.InstAt hh x { cls := .ref C, data := .fields fv } C none := ⟨hx, rfl, rfl, trivial⟩
  have SF := F.store_object
  have hne := hm.ne
  have hxs : x ≠ hh.objs.size := Nat.ne_of_lt (Heap.lt_size hx)
  have sub : W.Looks (model pr wd) hh (isInstance (.ref x) (.type "object")) true :=
    I.type.andThen (W.looks_mroIn X (by unfold W.mroIn; rw [hcd, Option.bind_some, if_neg (by rw [hne]; decide), hm.ob]))
  refine codeAny_call_builtin SF.slot.plain SF.entry (@W.check_slot (model pr wd) _ _ ⟨hh, gg, dd, tt, oo⟩ "object.__setattr__" "object" "__setattr__" (.ref x)
    [.str nm tk, v] [] _ SF.kind SF.split sub (SF.args (.ref x) (.str nm tk) v) ?_)
  have lm : W.Looks (model pr wd) hh (mroOf (.ref C)) cd.mro := (W.looks_clsIn X hcd).andThen .now
  have lt : W.Looks (model pr wd) hh (storeTaker? none) none := .now
  have lc : W.Looks (model pr wd) hh (classData C) cd := W.looks_clsIn X hcd
  rw [W.osa_eq, refuse_eq]
  refine wpAny_bind (wpAny_bind (I.type.at (wpAny_bind (lm.at ?_))))
  rw [hm.pass]
  refine wpAny_pure (wpAny_bind (I.type.at (wpAny_bind ((W.looks_findIn X ha).at (wpAny_bind (lt.at ?_))))))
  show wpAny _ _ (storeInOwnDict (.ref x) (.ref C) (.str nm tk) nm v false) _ _ _
  obtain ⟨c1, c2, c3, c4, c5, c6, c7, c8, c9, c10, c11⟩ := cd
  dsimp only at hd
  subst hd
  unfold storeInOwnDict ownDictForStores
  repeat (first
    | with_reducible refine store_in_new ?_ ?_
    | with_reducible refine wpAny_loadPart_at hx ?_
    | with_reducible refine lc.at ?_
    | wp_step)
  · exact ⟨_, #[], _, (Heap.get?_update_ne _ _ _ _ hxs.symm).trans (Heap.get?_push_at rfl rfl), rfl, fun e he => absurd he (by simp), fun _ => rfl⟩
  · intro h' tk' hn' hs
    have hx1 : (hh.push { cls := .type "dict", data := .dict #[] }).get? x = some { cls := .ref C, data := .fields fv } :=
      Heap.get?_push_of_some _ hx
    refine hq h' tk' hh.objs.size (fun b o hb ho => ?_) (Nat.le_refl _) hxs.symm ?_ hn'
    · exact (hs.2 b (Nat.ne_of_lt (Heap.lt_size ho))).trans ((Heap.get?_update_ne _ _ _ _ hb).trans (Heap.get?_push_of_some _ ho))
    · exact (hs.2 x hxs).trans (Heap.get?_update_self _ hx1 rfl)
theorem osaO {K : W.Frag} {nm : Str} {tk : Tok} {v : Value} {x C dx : Addr} {fv : Array Value} {cd : ClassData} {m0 : Str → Option Value} {nl : List Str}
    (X : K.In hh) (hx : hh.get? x = some { cls := .ref C, dict := some dx, data := .fields fv }) (hns : hh.Ns1 dx m0) (hw : Within m0 nl) (hz : nl.length ≤ 1000)
    (hcd : W.clsIn K C = some cd) (hm : MroOk cd.mro) (hd : cd.hasDict = true) (ha : W.findIn K (.ref C) nm = some none)
    (hq : ∀ h' tk', (∀ b o, b ≠ dx → hh.get? b = some o → h'.get? b = some o) →
      h'.Ns1 dx (fun y => if y = nm then some v else m0 y) → Rr (.ok (.ret .none)) ⟨h', gg, dd, tk', oo⟩) :
    codeAny (model pr wd) Ar (.call (.builtin "object.__setattr__") ⟨[.ref x, .str nm tk, v], []⟩) Rr ⟨hh, gg, dd, tt, oo⟩ := by
  obtain ⟨oD, esD, epD, hoD, hdD, _⟩ := hns.count hw
  have I : W.InstAt hh x { cls := .ref C, dict := some dx, data := .fields fv } C (some oD) := ⟨hx, rfl, rfl, hoD⟩
  have SF := F.store_object
  have hne := hm.ne
  have sub : W.Looks (model pr wd) hh (isInstance (.ref x) (.type "object")) true :=
    I.type.andThen (W.looks_mroIn X (by unfold W.mroIn; rw [hcd, Option.bind_some, if_neg (by rw [hne]; decide), hm.ob]))
  refine codeAny_call_builtin SF.slot.plain SF.entry (@W.check_slot (model pr wd) _ _ ⟨hh, gg, dd, tt, oo⟩ "object.__setattr__" "object" "__setattr__" (.ref x)
    [.str nm tk, v] [] _ SF.kind SF.split sub (SF.args (.ref x) (.str nm tk) v) ?_)
  have lm : W.Looks (model pr wd) hh (mroOf (.ref C)) cd.mro := (W.looks_clsIn X hcd).andThen .now
  have lt : W.Looks (model pr wd) hh (storeTaker? none) none := .now
  have lc : W.Looks (model pr wd) hh (classData C) cd := W.looks_clsIn X hcd
  rw [W.osa_eq, refuse_eq]
  refine wpAny_bind (wpAny_bind (I.type.at (wpAny_bind (lm.at ?_))))
  rw [hm.pass]
  refine wpAny_pure (wpAny_bind (I.type.at (wpAny_bind ((W.looks_findIn X ha).at (wpAny_bind (lt.at ?_))))))
  show wpAny _ _ (storeInOwnDict (.ref x) (.ref C) (.str nm tk) nm v false) _ _ _
  obtain ⟨c1, c2, c3, c4, c5, c6, c7, c8, c9, c10, c11⟩ := cd
  dsimp only at hd
  subst hd
  unfold storeInOwnDict ownDictForStores
  repeat (first
    | with_reducible refine PySem.OEX.store_in_old hns hw hz ?_
    | with_reducible refine wpAny_loadPart_at hx ?_
    | with_reducible refine lc.at ?_
    | wp_step)
  intro h' tk' hn' hs
  exact hq h' tk' (fun b o hb ho => (hs.2 b hb).trans ho) hn'
end
/-! the three built-in bases -/
abbrev tailOf (B : String) : List Value := [.type B, .type "Exception", .type "BaseException", .type "object"]
theorem pass_VE : ∀ self, refuseLoop self "__setattr__" (tailOf "ValueError") = pure () := fun self => by kernel_rfl
theorem pass_LE : ∀ self, refuseLoop self "__setattr__" (tailOf "LookupError") = pure () := fun self => by kernel_rfl
theorem pass_AE : ∀ self, refuseLoop self "__setattr__" (tailOf "ArithmeticError") = pure () := fun self => by kernel_rfl
theorem mroOk2 {B : String} {a b : Addr} (hp : ∀ self, refuseLoop self "__setattr__" (tailOf B) = pure ()) : MroOk (.ref a :: .ref b :: tailOf B) :=
  ⟨fun self => by rw [refuseLoop_ref, refuseLoop_ref]; exact hp self, by simp [List.contains_cons], rfl⟩
end GX
end PySem
namespace PySem
namespace GX
open PySem.W PySem.Calls PyProof.Rows PySem.HandSPX
section
variable {pr : Program} {wd : World} {Ar : Around} {Er : Value → Shared → Prop} {s : Shared} {K : Frag} {x D : Addr} {ox : Obj} {od : Option Obj}
theorem classG {Q : Option Value → Shared → Prop} (T : L2.ExcC K D) (X : K.In s.heap) (I : InstAt s.heap x ox D od) (h : Q (some (.ref D)) { s with toks := s.toks + 1 }) :
    wpAny (model pr wd) Ar (getAttr? (.ref x) "__class__") Q Er s := by
  have cs : (clsIn K D).isSome = true := by
    obtain ⟨cd, hc, _⟩ := any_some T.hd
    rw [hc]; rfl
  have hf : findObj K D od "__class__" = some (.bind (.builtin "getset_descriptor.__get__") (.builtin "object.__class__")) := by
    cases od with
    | none => exact findObj_dataN cs T.ha T.hn T.ht
    | some o => exact findObj_data cs T.ha T.hn T.ht
  obtain ⟨hp, g, d, t, os⟩ := s
  have y0 := I.type (M := model pr wd)
  have y1 := looks_findIn (M := model pr wd) X T.hg
  have y2 := looks_findIn (M := model pr wd) X T.hk
  have y3 := looks_find (M := model pr wd) X I hf
  have sub : Looks (model pr wd) hp (isInstance (.ref x) (.type "BaseException")) true := y0.andThen (looks_subIn X T.hs)
  have e0 : (false && onTheHeap (Value.builtin "BaseException.__getattribute__")) = false := rfl
  have e2 : (Value.builtin "BaseException.__getattribute__" == Value.builtin "object.__getattribute__") = false := by
    decide +kernel
  have e1 : (onTheHeap (Value.ref D) && Value.builtin "BaseException.__getattribute__" == Value.builtin "object.__getattribute__") = false := by
    rw [e2]; rfl
  unfold getAttr? getAttrBy? getAttrBy
  refine wpAny_bind (wpAny_mkText (wpAny_bind (wpAny_attempt (wpAny_holding (wpAny_bind (y0.at (wpAny_bind (y1.at ?_))))))))
  show wpAny _ _ (if (onTheHeap (Value.ref D) && Value.builtin "BaseException.__getattribute__" == Value.builtin "object.__getattribute__") = true then _ else _) _ _ _
  rw [e1, if_neg Bool.false_ne_true]
  unfold getAttrByItsOwn hookBefore
  refine wpAny_bind ?_
  rw [if_pos (show onTheHeap (Value.ref D) = true from rfl)]
  refine y2.at ?_
  refine wpAny_bind (wpAny_attempt (wpAny_holding ?_))
  unfold callGetattribute
  rw [e0, if_neg Bool.false_ne_true]
  unfold boundAndCalled
  rw [PySem.F.excAttr_ValueError.ga.bind (.ref x)]
  refine wpAny_bind (wpAny_pure ?_)
  show wpAny _ _ (call (.builtin "BaseException.__getattribute__") [.ref x, .str "__class__" t]) _ _ _
  refine wpAny_call (codeAny_call_builtin PySem.F.excAttr_ValueError.ga.plain PySem.F.entry_bexc_ga ?_)
  refine @check_slot (model pr wd) _ _ ⟨hp, g, d, t + 1, os⟩ "BaseException.__getattribute__" "BaseException" "__getattribute__" (.ref x)
    [.str "__class__" t] [] _ (by decide +kernel) (by decide +kernel) sub (PySem.F.args_bexc_ga (.ref x) (.str "__class__" t)) ?_
  unfold Builtin.«object.__getattribute__»
  refine wpAny_bind (wpAny_of_eq (a := ((Value.ref x : Value), [Value.str "__class__" t])) (by first | rfl | (simp only [slotArgs]; rfl)) ?_)
  refine wpAny_bind (wpAny_pure (wpAny_bind (y0.at (wpAny_bind (y3.at ?_)))))
  show wpAny _ _ (holding [Value.builtin "object.__class__"] (call (.builtin "getset_descriptor.__get__") [.builtin "object.__class__", .ref x, .ref D]) >>= ret) _ _ _
  refine wpAny_bind (wpAny_holding (wpAny_call (class_get (s := ⟨hp, g, d, t + 1, os⟩) (ox := ox) (od := od) X I T.hm ?_)))
  refine wpAny_pure ?_
  show wpAny _ _ (handedOut (.ref D)) _ _ _
  rw [handedOut_of (v := .ref D) rfl]
  first
    | exact wpAny_pure (wpAny_pure h)
    | exact wpAny_pure h
    | exact wpAny_pure (wpAny_bind (wpAny_pure (wpAny_pure h)))
theorem kitG (T : L2.ExcC K D) : KitX K (.ref x) (.ref D) (fun h => InstAt h x ox D od) where
  ty := fun _ _ _ I => I.type
  it := fun _ _ X _ => by
    obtain ⟨cdD, hcD, _⟩ := any_some T.hd
    unfold clsIn at hcD
    split at hcD
    · rename_i c' d' cd' sl' ho
      intro A' Q' E' s' k q
      unfold isType loadHead
      exact wpAny_bind (wpAny_loadPart (k _ _ (X _ _ ho)) (wpAny_pure q))
    · cases hcD
  ne := fun h tp dd its n sl X htp => by
    obtain ⟨cdD, hcD, _⟩ := any_some T.hd
    refine Bool.eq_false_iff.mpr fun q => ?_
    have e : D = tp := Value.ref.inj (beq_iff_eq.mp q)
    subst e
    unfold clsIn at hcD
    split at hcD
    · rename_i c' d' cd' sl' ho
      have z := (X _ _ ho).symm.trans htp
      cases z
    · cases hcD
  ca := fun X I k => classG T X I k
end
end GX
end PySem
namespace L2
open PySem PySem.Spec PyProof.Rows PySem.GX
/-- what the written part says of an own exception class at C over a built-in base -/
structure ExG (K : PySem.W.Frag) (C : Addr) : Prop extends ExcC K C where
  cls : ∃ (B nid iid : String) (b3 : List Value) (nm q : Str) (N : Addr) (bs bm : List Value) (sn : List Str) (sub : List Value) (ab : Bool) (col : Option Bool) (dd : Option Addr) (k0 k1 k2 k3 k5 : Option Value),
    ExcBaseFacts B nid iid b3 ∧ (∀ Y : String, bm.contains (.type Y) = b3.contains (.type Y)) ∧ MroOk (.ref C :: bm) ∧
    K.lookup C = some (excClassObj nm q C N bs bm true sn sub ab col dd k0 k1 k2 k3 k5 nid)
  sa : PySem.W.findIn K (.ref C) "__setattr__" = some (some (.builtin "object.__setattr__"))
  kC : PySem.W.keepIn K (.ref C) = true
/-- an exception at a of the class at C with the fields fs (its dict at d) -/
structure ExAt (H : Hp) (a C d : Addr) (fs : List (Str × V)) : Prop where
  ob : H a = some (exo a C (some d))
  di : H d = some (exd d fs)
section
variable {X : Cx} {pins : List (Addr × Obj)} {σ : St} {H : Hp} {s : Shared} {a C d : Addr} {fs : List (Str × V)}
/-- as the library's looks at an instance want it -/
theorem inst_ex {od : Option Addr} (I : Inv X pins σ H s) (e : H a = some (exo a C od)) (hd : ∀ dx, od = some dx → ∃ fs, H dx = some (exd dx fs)) :
    ∃ (ox : Obj) (o : Option Obj), PySem.W.InstAt s.heap a ox C o := by
  obtain ⟨t1, ho⟩ := exo_at I.hok e
  cases od with
  | none => exact ⟨_, none, ⟨ho, rfl, rfl, trivial⟩⟩
  | some dx =>
    obtain ⟨fs, ed⟩ := hd dx rfl
    obtain ⟨mA, ⟨o, es, ep, h1, h2⟩, _⟩ := exd_at I.hok ed
    exact ⟨_, some o, ⟨ho, rfl, rfl, h1⟩⟩
end
/-- isinstance(e, c), e an exception that is a value -/
def rIsX (K : PySem.W.Frag) : List V → Hp → VK → Prop := fun xs H Q => ∃ (a D : Addr) (od : Option Addr) (c : V) (u : Value) (b : Bool), xs = [.ref a, c] ∧ ExcC K D ∧ H a = some (exo a D od) ∧
  (∀ dx, od = some dx → ∃ fs, H dx = some (exd dx fs)) ∧ ClsV c u ∧ PySem.W.kitOne K (.ref D) u = some b ∧ Q (.bl b) H
theorem call_isX {X : Cx} : CallR X (.builtin "isinstance") (rIsX X.K) := by
  intro pins s σ H xs us Q I r h
  obtain ⟨a, D, od, c, u, b, rfl, T, e, hd, k, ek, q⟩ := h
  obtain ⟨u1, u2, rfl, r1, r2⟩ := vals2 r
  have e2 := k.eq r2
  subst e2
  obtain rfl : u1 = Value.ref a := r1
  obtain ⟨ox, o, J⟩ := inst_ex I e hd
  exact PySem.W.kia_one (kitG T) I.kIn J ek (fun z => nomatch z) fun tk => ⟨.bl b, H, I.tok tk, rfl, q⟩
section
variable {X : Cx} {pins : List (Addr × Obj)} {σ : St} {H : Hp} {s : Shared} {a C dx : Addr} {f : Str} {y : V} {u : Value} {fs : List (Str × V)}
/-- e.f -/
def tXf (K : PySem.W.Frag) (f : Str) (te : TE) : TE := fun σ H Q => te σ H fun x H1 => ∃ (a C d : Addr) (fs : List (Str × V)) (v : V), x = .ref a ∧ ExcC K C ∧ ExAt H1 a C d fs ∧
  PySem.W.findIn K (.ref C) f = some none ∧ fs.lookup f = some v ∧ Q v H1
theorem pe_xf {e : Expr} {te : TE} {pos : Pos} (he : PE X e te) (hb : attributeBase e f X.env (eval e X.env) = eval e X.env := by rfl) : PE X (.Attribute e f pos) (tXf X.K f te) := by
  refine ⟨fun pins s σ H Q I h => ?_⟩
  refine attr_of hb (thn (he.run pins s σ H _ I h) fun u s1 hh => ?_)
  obtain ⟨x, H1, I1, rx, a, C, d, fs, v, ex, T, ea, no, l, q⟩ := hh
  subst ex
  obtain rfl : u = Value.ref a := rx
  obtain ⟨t1, ho⟩ := exo_at I1.hok ea.ob
  obtain ⟨mA, hns, rel⟩ := exd_at I1.hok ea.di
  obtain ⟨od, hod, hl⟩ := lookIn_ns hns
  obtain ⟨u, hu, ru⟩ := RelO.some_of (v := v) (o := mA f) (by rw [← l]; exact rel f)
  have J : PySem.W.InstAt s1.heap a _ C (some od) := ⟨ho, rfl, rfl, hod⟩
  exact HandSPX.exc_get I1.kIn J T.hg T.hk T.hs (PySem.W.findObj_own T.hd no rfl (by rw [hl, hu])) (handed_of ru) ⟨v, H1, I1.tok _, ru, q⟩
end
end L2
namespace L2
open PySem PySem.Spec PyProof.Rows PySem.GX
section
variable {X : Cx} {pins : List (Addr × Obj)} {σ : St} {H : Hp} {s : Shared} {a C dx : Addr} {f : Str} {y : V} {u : Value} {fs : List (Str × V)} {Q : Unit → Shared → Prop} {Er : Value → Shared → Prop} {Ar : Around}
/-- the first store gives the exception its dict -/
theorem ostN (T : ExG X.K C) (I : Inv X pins σ H s) (e : H a = some (exo a C none)) (hno : PySem.W.findIn X.K (.ref C) f = some none) (ry : RelV y u)
    (h : ∀ dx s', H dx = none → dx ≠ a → Inv X pins σ (upd (upd H dx (exd dx [(f, y)])) a (exo a C (some dx))) s' → Q () s') :
    wpAny (model X.prog X.w) Ar (setAttr (.ref a) f u) Q Er s := by
  obtain ⟨B, nid, iid, b3, nm, q, N, bs, bm, sn, sub, ab, col, dd, k0, k1, k2, k3, k5, FB, hT, hM, hC⟩ := T.cls
  have hcl : PySem.W.clsIn X.K C = some { name := nm, bases := bs, mro := .ref C :: bm, ns := N, qualname := q, hasDict := true, slotNames := sn, subclasses := sub, abstract := ab, collection := col, hasDel := false } := by
    unfold PySem.W.clsIn; rw [hC] <;> rfl
  obtain ⟨t1, ho⟩ := exo_at I.hok e
  obtain ⟨hp, g, d, t, os⟩ := s
  refine PySem.W.set_plain I.kIn (ox := { cls := .ref C, dict := none, data := .fields #[.ref t1, .none, .none, .none, .bool false, .none] })
    (od := none) ⟨ho, rfl, rfl, trivial⟩ T.sa ?_
  refine osaN I.kIn ho hcl hM rfl hno (fun h' tk' dx k dn dne hx hn => ?_)
  have free1 : H dx = none := I.hok.fresh dn
  have ndx : ∀ {b : Addr} {o : Obj}, hp.get? b = some o → b ≠ dx :=
    fun {b o} q => Nat.ne_of_lt (Nat.lt_of_lt_of_le (Heap.lt_size q) dn)
  have nea : ∀ {b : Addr}, H b = none → b ≠ a := fun {b} n z => by
    rw [z, e] at n; cases n
  have U1 : Un X.fs [] H (upd (upd H dx (exd dx [(f, y)])) a (exo a C (some dx))) hp h' := by
    refine ⟨fun b o q n _ _ => k b o (nea n) q, fun b o q n _ _ => ⟨o.slots, k b o (nea n) q⟩, fun b o q n _ => ?_, fun b o q _ => ?_, fun b xs q => ?_, fun b o v q => ?_, fun b ps q => ⟨#[], ?_⟩⟩
    · rw [upd_ne (nea n), upd_ne (ndx q)]; exact n
    · by_cases hb : b = a
      · exact ⟨_, by rw [hb]; exact hx⟩
      · exact ⟨o, k b o hb q⟩
    · rw [upd_ne (at_ne e q exo_tup), upd_ne (ne_of_none q free1)]; exact q
    · rw [upd_ne (at_ne e q exo_frz), upd_ne (ne_of_none q free1)]; exact q
    · rw [upd_ne (at_ne e q exo_tbl), upd_ne (ne_of_none q free1), q]; simp
  refine h dx _ free1 dne (I.un (t' := tk') U1 fun b o q => ?_)
  by_cases hb : b = a
  · subst hb
    rw [upd_same] at q; cases q
    exact exo_ok hx
  · rw [upd_ne hb] at q
    by_cases hd : b = dx
    · subst hd
      rw [upd_same] at q; cases q
      exact exd_ok hn (relO_put (fs := []) ry fun g => True.intro)
    · rw [upd_ne hd] at q
      refine (I.hok b o q).stay (fun c v hc z => k c v ?_ z) (fun c hc => ?_) (fun c xs hc => ?_)
      · rcases hc with hc | hc
        · rw [hc]; exact hb
        · exact at_ne e hc exo_own
      · rw [upd_ne (at_ne e hc exo_own), upd_ne (ne_of_none hc free1)]; exact hc
      · rw [upd_ne (at_ne e hc exo_tup), upd_ne (ne_of_none hc free1)]; exact hc
theorem ostO (T : ExG X.K C) (I : Inv X pins σ H s) (e : H a = some (exo a C (some dx))) (ed : H dx = some (exd dx fs)) (hl : fs.length ≤ 900) (hno : PySem.W.findIn X.K (.ref C) f = some none) (ry : RelV y u)
    (h : ∀ s', Inv X pins σ (upd H dx (exd dx ((f, y) :: fs))) s' → Q () s') : wpAny (model X.prog X.w) Ar (setAttr (.ref a) f u) Q Er s := by
  obtain ⟨B, nid, iid, b3, nm, q, N, bs, bm, sn, sub, ab, col, dd, k0, k1, k2, k3, k5, FB, hT, hM, hC⟩ := T.cls
  have hcl : PySem.W.clsIn X.K C = some { name := nm, bases := bs, mro := .ref C :: bm, ns := N, qualname := q, hasDict := true, slotNames := sn, subclasses := sub, abstract := ab, collection := col, hasDel := false } := by
    unfold PySem.W.clsIn; rw [hC] <;> rfl
  obtain ⟨t1, ho⟩ := exo_at I.hok e
  obtain ⟨mA, hns, rel⟩ := exd_at I.hok ed
  have hw := within_of rel
  obtain ⟨hp, g, d, t, os⟩ := s
  obtain ⟨oD, _, _, hoD, _, _⟩ := hns.count hw
  refine PySem.W.set_plain I.kIn (ox := { cls := .ref C, dict := some dx, data := .fields #[.ref t1, .none, .none, .none, .bool false, .none] })
    (od := some oD) ⟨ho, rfl, rfl, hoD⟩ T.sa ?_
  refine osaO I.kIn ho hns hw (by rw [List.length_map]; omega) hcl hM rfl hno (fun h' tk' k hn => ?_)
  have hd : ∃ o, h'.get? dx = some o := by
    obtain ⟨o, _, _, e', _⟩ := hn
    exact ⟨o, e'⟩
  exact h _ (I.write (t' := tk') (x := dx) (e := dx) (o := exd dx ((f, y) :: fs)) (by rw [ed]; exact True.intro) (.inl rfl) k hd (exd_ok hn (relO_put ry rel)))
end
/-- self.f = e in an own exception's __init__ -/
def tOsG (K : PySem.W.Frag) (f : Str) (to te : TE) : TS := fun D σ H => te σ H fun y H1 => to σ H1 fun x H2 => ∃ a C : Addr, x = .ref a ∧ ExG K C ∧ PySem.W.findIn K (.ref C) f = some none ∧
  ((H2 a = some (exo a C none) ∧ ∀ dx, H2 dx = none → dx ≠ a → D.nx σ (upd (upd H2 dx (exd dx [(f, y)])) a (exo a C (some dx)))) ∨
    ∃ (dx : Addr) (fs : List (Str × V)), H2 a = some (exo a C (some dx)) ∧ H2 dx = some (exd dx fs) ∧ fs.length ≤ 900 ∧ D.nx σ (upd H2 dx (exd dx ((f, y) :: fs))))
/-- C(e, .., k = v, ..), C's own __init__ keeping sp: the exception stays a tracked value -/
def tMkG (C : Addr) (n m : Nat) (sp : Sp) (gV : List V → List V → List V) (t tk : TA) : TE := fun σ H Q => t σ H fun vs H1 => tk σ H1 fun zs H2 => vs.length = n ∧ zs.length = m ∧ vs.length ≤ 1000 ∧
  ∀ a, H2 a = none → sp (gV (.ref a :: vs) zs) (upd H2 a (exo a C none)) (fun v H3 => v = .non ∧ Q (.ref a) H3) (fun _ _ _ => False)
section
variable {X : Cx} {o e : Expr} {es : List Expr} {to te : TE} {ta tk : TA} {f : Str} {p p' p1 p2 pos : Pos} {kws : List Keyword} {ks : List Str} {n : Nat}
theorem ps_osG (ho : PE X o to) (he : PE X e te) (hs : swapsWith e (some (.Attribute o f p')) pos.line X.env = pure false := by rfl) : PS X (.Assign [.Attribute o f p'] e pos) (tOsG X.K f to te) := by
  refine ⟨fun pins s σ H D I h => ?_⟩
  refine plainObj_wpAny_Assign_Attribute (thn (he.run pins s σ H _ I h) fun v s1 ⟨y, H1, I1, r1, q1⟩ => thn (ho.run pins s1 σ H1 _ I1 q1) fun u s2 ⟨x, H2, I2, r2, a, C, ex, T, hno, q⟩ => ?_) hs
  subst ex
  obtain rfl : u = Value.ref a := r2
  rcases q with ⟨ea, q⟩ | ⟨dx, fs, ea, ed, hl, q⟩
  · exact ostN T I2 ea hno r1 fun dx s' n ne J => ⟨σ, _, J, q dx n ne⟩
  · exact ostO T I2 ea ed hl hno r1 fun s' J => ⟨σ, _, J, q⟩
variable {CX : CXT} {x : Str} {C fI : Addr} {k : Nat} {fd : FuncData} {ps : List Str} {sp : Sp} {g : List Value → List Value → List Value} {gV : List V → List V → List V}
theorem run_mkG {pins : List (Addr × Obj)} {σ : St} {H : Hp} {s : Shared} {Q : VK} {us ws : List Value} {vs zs : List V} (T : ExG X.K C) (iC : PySem.W.findIn X.K (.ref C) "__init__" = some (some (.ref fI)))
    (tI : PySem.W.typeIn X.K (.ref fI) = some (.type "function")) (F1 : FnOk X.prog X.w X.K X.mg X.base CX k fI fd ps sp) (hr : Room (k + 1) X.A) (hb : KBn X.K fd ps (n + 1) ks g gV) (hx : Passes CX X (fun _ _ _ => False))
    (I : Inv X pins σ H s) (r : Vals vs us) (rz : Vals zs ws) (l1 : vs.length = n) (l2 : zs.length = ks.length) (l3 : vs.length ≤ 1000)
    (h : ∀ a, H a = none → sp (gV (.ref a :: vs) zs) (upd H a (exo a C none)) (fun v H3 => v = .non ∧ Q (.ref a) H3) (fun _ _ _ => False)) :
    wpAny (model X.prog X.w) X.A (call (.ref C) us (ks.zip ws)) (EP X pins σ Q) X.xe s := by
  obtain ⟨B, nid, iid, b3, nm, q, N, bs, bm, sn, sub, ab, col, dd, k0, k1, k2, k3, k5, FB, hT, hM, hC⟩ := T.cls
  obtain ⟨hp, gn, dr, tkk, os⟩ := s
  have hsz : hp.objs.size ≤ hp.objs.size + 1 := Nat.le_succ _
  have hn : H (hp.objs.size + 1) = none := I.hok.fresh hsz
  have hq := h (hp.objs.size + 1) hn
  have kk : ∀ b o, hp.get? b = some o → ((hp.push (PySem.W.kdv_tup us)).push (PySem.HandSPX.excO C hp.objs.size)).get? b = some o :=
    fun b o e => Heap.get?_push_of_some _ (Heap.get?_push_of_some _ e)
  have hgt : ((hp.push (PySem.W.kdv_tup us)).push (PySem.HandSPX.excO C hp.objs.size)).get? (hp.objs.size + 1) = some (PySem.HandSPX.excO C hp.objs.size) := by
    heap_get
  have I2 : Inv X pins σ (upd H (hp.objs.size + 1) (exo (hp.objs.size + 1) C none)) ⟨(hp.push (PySem.W.kdv_tup us)).push (PySem.HandSPX.excO C hp.objs.size), gn, dr, tkk, os⟩ :=
    I.laid (t' := tkk) (a := hp.objs.size + 1) (o := exo (hp.objs.size + 1) C none)
      (h' := (hp.push (PySem.W.kdv_tup us)).push (PySem.HandSPX.excO C hp.objs.size)) kk hsz (exo_ok hgt)
  have r1 : Vals (V.ref (hp.objs.size + 1) :: vs) (Value.ref (hp.objs.size + 1) :: us) := .cons rfl r
  have r2 := hb.rel r1 rz
  have n1 : (Value.ref (hp.objs.size + 1) :: us).length = n + 1 := by
    rw [List.length_cons, ← r.length, l1]
  have hus : us.length ≤ sizeLine := by
    rw [← Paired.length r, sizeLine_eq]; omega
  refine wpAny_call (callK FB hT (I.kIn _ _ hC) (PySem.W.looks_findIn I.kIn iC) (fun self => PySem.W.bind_fn I.kIn self tI) hus
    (codeAny_mono (F1.run _ X.stack _ _ ⟨Value.ref (hp.objs.size + 1) :: us, ks.zip ws⟩ (g (Value.ref (hp.objs.size + 1) :: us) ws) _ _ (fun _ _ _ => False)
      (hr.make C us (ks.zip ws)) (I2.env0.make C us (ks.zip ws)) (hb.to _ (Value.ref (hp.objs.size + 1) :: us) ws I2.kIn n1 (rz.length.symm.trans l2)) r2 hq) fun r s' hq' => ?_))
  cases r with
  | error er => exact hx pins σ _ _ er s' I2 hq'
  | ok fl =>
    cases fl with
    | ret u =>
      obtain ⟨v, H', I3, rv, ev, q3⟩ := I2.after hq'
      subst ev
      exact ⟨rv, ⟨V.ref (hp.objs.size + 1), H', I3, rfl, q3⟩⟩
    | next => exact False.elim hq'
    | brk => exact False.elim hq'
    | cont => exact False.elim hq'
theorem pe_mkG (T : ExG X.K C) (iC : PySem.W.findIn X.K (.ref C) "__init__" = some (some (.ref fI))) (tI : PySem.W.typeIn X.K (.ref fI) = some (.type "function"))
    (F1 : FnOk X.prog X.w X.K X.mg X.base CX k fI fd ps sp) (hr : Room (k + 1) X.A) (hg : Gl X x) (hm : X.mg x = some (.ref C)) (hb : KBn X.K fd ps (n + 1) [] g gV) (hx : Passes CX X (fun _ _ _ => False)) (ha : PA X (e :: es) ta)
    (hdb : (x == ("__debug__" : Str)) = false := by decide) (he : starEach (e :: es) X.env = (false, eval e X.env) :: starEach es X.env := by rfl) (hpl : (backTo pos (starEach es X.env)).any (·.1) = false := by rfl) :
    PE X (.Call (.Name x p) (e :: es) [] pos) (tMkG C n 0 sp gV ta tNil) := by
  refine ⟨fun pins s σ H Q I h => ?_⟩
  refine wpAny_Call_Name_kw (ld_glob I hg hm ?_ hdb)
  refine PySem.W.callWith_K (h₀ := X.base) I.ok.mod.kin T.kC (thn (ha.run pos pins s σ H _ I h) fun us s1 ⟨vs, H1, I1, r, l1, l2, l3, q⟩ => ⟨I1.kIn, ?_⟩) he hpl
  exact run_mkG (ws := []) (zs := []) T iC tI F1 hr hb hx I1 r .nil l1 l2 l3 q
theorem pe_mkGK (T : ExG X.K C) (iC : PySem.W.findIn X.K (.ref C) "__init__" = some (some (.ref fI))) (tI : PySem.W.typeIn X.K (.ref fI) = some (.type "function"))
    (F1 : FnOk X.prog X.w X.K X.mg X.base CX k fI fd ps sp) (hr : Room (k + 1) X.A) (hg : Gl X x) (hm : X.mg x = some (.ref C)) (hb : KBn X.K fd ps 1 ks g gV) (hx : Passes CX X (fun _ _ _ => False)) (hkw : PK X kws tk)
    (hall : (backToKw pos (keywordEach kws X.env)).all (·.1.isSome) = true := by rfl) (hks : (backToKw pos (keywordEach kws X.env)).filterMap (·.1) = ks := by rfl) (hdb : (x == ("__debug__" : Str)) = false := by decide)
    (hpl : ((backTo pos (starEach [] X.env)).any (·.1) || (backToKw pos (keywordEach kws X.env)).any (·.1.isNone)) = false := by rfl) :
    PE X (.Call (.Name x p) [] kws pos) (tMkG C 0 ks.length sp gV tNil tk) := by
  refine ⟨fun pins s σ H Q I h => ?_⟩
  refine wpAny_Call_Name_kw (ld_glob I hg hm ?_ hdb)
  refine PySem.W.callWith_KW0 (h₀ := X.base) I.ok.mod.kin T.kC hall ?_ hpl
  refine thn (hkw.run pos pins s σ H _ I h) fun ws s2 ⟨zs, H2, I2, rz, l1, l2, l3, q2⟩ => ⟨I2.kIn, ?_⟩
  rw [hks]
  exact run_mkG (us := []) (vs := []) T iC tI F1 hr hb hx I2 .nil rz rfl l2 (Nat.zero_le _) q2
end
end L2
namespace L2
open PySem PySem.Spec PyProof.Rows PySem.GX
/-- flat things -/
inductive Fl : V → PyData → Prop
  | non : Fl .non .none
  | bl (b : Bool) : Fl (.bl b) (.bool b)
  | int (i : Int) : Fl (.int i) (.int i)
  | str (x : Str) : Fl (.str x) (.str x)
mutual
/-- the data that a value is, dicts of flat things among them -/
inductive Sh (K : PySem.W.Frag) (H : Hp) : V → PyData → Prop
  | fl {v : V} {d : PyData} : Fl v d → Sh K H v d
  | lst {a : Addr} {xs : List V} {ds : List PyData} : SqL K H a xs → ShAll K H xs ds → Sh K H (.ref a) (.list ds)
  | tup {a : Addr} {xs : List V} {ds : List PyData} : SqT K H a xs → ShAll K H xs ds → Sh K H (.ref a) (.tuple ds)
  | dic {a : Addr} {kvs : List (Key × V)} {kds : List (PyData × PyData)} : H a = some (.dK kvs) → Paired Fl (kvs.map fun p => kV p.1) (kds.map (·.1)) → Paired Fl (kvs.map (·.2)) (kds.map (·.2)) →
      Sh K H (.ref a) (.dict kds)
inductive ShAll (K : PySem.W.Frag) (H : Hp) : List V → List PyData → Prop
  | nil : ShAll K H [] []
  | cons {v : V} {vs : List V} {d : PyData} {ds : List PyData} : Sh K H v d → ShAll K H vs ds → ShAll K H (v :: vs) (d :: ds)
end
section
variable {pr : Program} {wd : World} {h0 : Heap}
theorem Fl.reads {v : V} {d : PyData} {u : Value} (f : Fl v d) (r : RelV v u) : Reads h0 u d [] := by
  cases f with
  | non => cases r; exact .none
  | bl b => cases r; exact .bool b
  | int i => obtain ⟨t, rfl⟩ := r; exact .int i t
  | str x => obtain ⟨t, rfl⟩ := r; exact .str x t
theorem Fl.repr {v : V} {d : PyData} {u : Value} (f : Fl v d) (r : RelV v u) (hs : d.showable = true) (hz : d.shown.length ≤ sizeLine) (n : Nat) (bs : List Addr) : ReprK pr wd bs h0 n u d.shown := by
  cases f with
  | non => cases r; simp only [PyData.shown]; exact .of_is ReprIs.none _ _ _
  | bl b => cases r; simp only [PyData.shown]; exact .of_is (ReprIs.bool b) _ _ _
  | int i => obtain ⟨t, rfl⟩ := r; simp only [PyData.shown]; exact .of_is (ReprIs.int t (by simpa [PyData.showable] using hs)) _ _ _
  | str x => obtain ⟨t, rfl⟩ := r; simp only [PyData.shown]; exact .of_is (ReprIs.str x t (by simpa only [PyData.shown] using hz)) _ _ _
theorem flAll_reads : ∀ {vs : List V} {ds : List PyData} {us : List Value}, Paired Fl vs ds → Vals vs us → ReadsAll h0 us ds []
  | _, _, _, .nil, .nil => .nil
  | _, _, _, .cons f t, .cons r q => ReadsAll.cons (as := []) (bs := []) (f.reads r) (flAll_reads t q)
theorem flAll_repr (n : Nat) (bs : List Addr) : ∀ {vs : List V} {ds : List PyData} {us : List Value}, Paired Fl vs ds → Vals vs us → PyData.showableAll ds = true → (∀ t ∈ PyData.shownAll ds, t.length ≤ sizeLine) → ReprAllK pr wd bs h0 n us (PyData.shownAll ds)
  | _, _, _, .nil, .nil, _, _ => by simp only [PyData.shownAll]; exact .nil
  | _, d :: ds, _, .cons f t, .cons r q, hs, hz => by
    have hs' : d.showable = true ∧ PyData.showableAll ds = true := by simpa [PyData.showableAll] using hs
    simp only [PyData.shownAll] at hz ⊢
    exact .cons (f.repr r hs'.1 (hz _ (List.mem_cons_self ..)) n bs) (flAll_repr n bs t q hs'.2 fun t ht => hz t (List.mem_cons_of_mem _ ht))
end
theorem pairs_split {P : Program} {w : World} : ∀ {es : List DictEntry} {kvs : List (Key × V)} {vs : List (Key × Value)}, Pairs (mixKind P w) es vs → KV kvs vs → Vals (kvs.map fun p => kV p.1) (es.map (·.key)) ∧ Vals (kvs.map (·.2)) (es.map (·.val))
  | _, _, _, .nil, .nil => ⟨.nil, .nil⟩
  | e :: es, (k, v) :: kvs, (k', u) :: vs, .cons h1 h2 t, .cons r q => by
    obtain ⟨a, b⟩ := pairs_split t q
    obtain ⟨r1, r2⟩ := r
    have r1' : k = k' := r1
    subst r1'
    have hk : keyIs k e.key = true := h1
    have h2' : e.val = u := h2
    have rk : RelV (kV k) e.key := by
      rcases keyIs_shape hk with ⟨i, t, rfl, q⟩ | ⟨x, t, rfl, q⟩
      · exact ⟨t, q⟩
      · exact ⟨t, q⟩
    exact ⟨.cons rk a, .cons (show RelV v e.val by rw [h2']; exact r2) b⟩
section
variable {X : Cx} {pins : List (Addr × Obj)} {σ : St} {H : Hp} {s : Shared}
mutual
theorem Sh.both (I : Inv X pins σ H s) : ∀ (d : PyData) (v : V) (u : Value), Sh X.K H v d → RelV v u → d.showable = true → d.shown.length ≤ sizeLine →
    (∃ as, Reads s.heap u d as) ∧ ∃ bs, ReadAtMost s.heap d.depth bs ∧ ReprK X.prog X.w bs s.heap d.depth u d.shown
  | .none, _, _, h, r, hs, hz => by
    cases h with
    | fl f => exact ⟨⟨_, f.reads r⟩, [], (fun _ z => nomatch z), f.repr r hs hz _ _⟩
  | .bool b, _, _, h, r, hs, hz => by
    cases h with
    | fl f => exact ⟨⟨_, f.reads r⟩, [], (fun _ z => nomatch z), f.repr r hs hz _ _⟩
  | .int i, _, _, h, r, hs, hz => by
    cases h with
    | fl f => exact ⟨⟨_, f.reads r⟩, [], (fun _ z => nomatch z), f.repr r hs hz _ _⟩
  | .str x, _, _, h, r, hs, hz => by
    cases h with
    | fl f => exact ⟨⟨_, f.reads r⟩, [], (fun _ z => nomatch z), f.repr r hs hz _ _⟩
  | .list ds, _, _, h, r, hs, hz => by
    cases h with
    | fl f => cases f
    | @lst a xs _ hq ha =>
      cases r
      obtain ⟨its, rv, ⟨o, n, ho, hc, _, hd⟩, _⟩ := I.list hq
      have hz' : (listText (PyData.shownAll ds)).length ≤ sizeLine := by simpa only [PyData.shown] using hz
      obtain ⟨⟨as, hr⟩, bs, hb, hk⟩ := Sh.bothAll I ds xs its ha rv (by simpa [PyData.showable] using hs) (fun t ht => Nat.le_trans (listText_mem_le ht) hz')
      have rr : Reads s.heap (.ref a) (.list ds) _ := Reads.list ho hc hd hr
      have hna : a ∉ bs := not_mem_of_deeper rr (by simp only [PyData.depth]; omega) hb
      refine ⟨⟨_, rr⟩, a :: bs, ReadAtMost.cons rr (by simp only [PyData.depth]; omega) hb, ?_⟩
      simp only [PyData.depth, PyData.shown]
      cases its with
      | nil =>
        cases hr
        simp only [PyData.shownAll, listText_nil]
        exact ReprK.listEmpty ho hc hd
      | cons x l => exact ReprK.list ho hc hd hna (by simpa using hk.length_eq) (fun i y e => hk.item i y (by simpa using e))
  | .tuple ds, _, _, h, r, hs, hz => by
    cases h with
    | fl f => cases f
    | @tup a xs _ hq ha =>
      cases r
      obtain ⟨its, rv, ⟨o, ho, hc, n, hd⟩, _⟩ := I.tuple hq
      have hz' : (tupleText (PyData.shownAll ds)).length ≤ sizeLine := by simpa only [PyData.shown] using hz
      obtain ⟨⟨as, hr⟩, bs, hb, hk⟩ := Sh.bothAll I ds xs its ha rv (by simpa [PyData.showable] using hs) (fun t ht => Nat.le_trans (tupleText_mem_le ht) hz')
      have rr : Reads s.heap (.ref a) (.tuple ds) _ := Reads.tuple ho hc hd hr
      have hna : a ∉ bs := not_mem_of_deeper rr (by simp only [PyData.depth]; omega) hb
      refine ⟨⟨_, rr⟩, a :: bs, ReadAtMost.cons rr (by simp only [PyData.depth]; omega) hb, ?_⟩
      simp only [PyData.depth, PyData.shown]
      exact ReprK.tuple ho hc hd hna hk
  | .dict kds, _, _, h, r, hs, hz => by
    cases h with
    | fl f => cases f
    | @dic a kvs _ hq fk fv =>
      cases r
      obtain ⟨_, hsys, vs, rkv, o, es, ep, ho, ⟨hc, _⟩, hd, _, hp, _⟩ := I.hok a _ hq
      obtain ⟨vk, vv⟩ := pairs_split hp rkv
      obtain ⟨hs1, hs2⟩ := PyData.showableKv_split kds (by simpa [PyData.showable] using hs)
      have hz' : (dictText (PyData.shownKv kds)).length ≤ sizeLine := by simpa only [PyData.shown] using hz
      have k1 : ReprAllK X.prog X.w [] s.heap (PyData.depthKv kds) _ _ := flAll_repr (PyData.depthKv kds) [] fk vk hs1 (fun t ht => by
        obtain ⟨p, hp, hl⟩ := PyData.shownKv_key_le kds t ht
        exact Nat.le_trans hl (Nat.le_trans (dictText_mem_le hp) hz'))
      have k2 : ReprAllK X.prog X.w [] s.heap (PyData.depthKv kds) _ _ := flAll_repr (PyData.depthKv kds) [] fv vv hs2 (fun t ht => by
        obtain ⟨p, hp, hl⟩ := PyData.shownKv_val_le kds t ht
        exact Nat.le_trans hl (Nat.le_trans (dictText_mem_le hp) hz'))
      have rr : Reads s.heap (.ref a) (.dict kds) _ := Reads.dict ho hc hd (flAll_reads fk vk) (flAll_reads fv vv)
      refine ⟨⟨_, rr⟩, [a], ReadAtMost.cons rr (n := 0) (Nat.zero_le _) (fun _ z => nomatch z), ?_⟩
      simp only [PyData.depth, PyData.shown, PyData.shownKv_eq]
      exact ReprK.dict ho hc hd hsys (fun z => nomatch z) (ReprEntriesK.of_two es.toList _ _ k1 k2)
theorem Sh.bothAll (I : Inv X pins σ H s) : ∀ (ds : List PyData) (vs : List V) (us : List Value), ShAll X.K H vs ds → Vals vs us → PyData.showableAll ds = true → (∀ t ∈ PyData.shownAll ds, t.length ≤ sizeLine) →
    (∃ as, ReadsAll s.heap us ds as) ∧ ∃ bs, ReadAtMost s.heap (PyData.depthAll ds) bs ∧ ReprAllK X.prog X.w bs s.heap (PyData.depthAll ds) us (PyData.shownAll ds)
  | [], _, _, h, r, _, _ => by
    cases h
    cases r
    refine ⟨⟨_, ReadsAll.nil⟩, [], (fun _ z => nomatch z), ?_⟩
    simp only [PyData.shownAll]
    exact .nil
  | d :: ds, _, _, h, r, hs, hz => by
    cases h with
    | cons h1 h2 =>
      cases r with
      | cons r1 r2 =>
        have hs' : d.showable = true ∧ PyData.showableAll ds = true := by simpa [PyData.showableAll] using hs
        simp only [PyData.shownAll] at hz
        obtain ⟨⟨as, q1⟩, b1, hb1, k1⟩ := Sh.both I d _ _ h1 r1 hs'.1 (hz _ (List.mem_cons_self ..))
        obtain ⟨⟨bs, q2⟩, b2, hb2, k2⟩ := Sh.bothAll I ds _ _ h2 r2 hs'.2 (fun t ht => hz t (List.mem_cons_of_mem _ ht))
        refine ⟨⟨_, ReadsAll.cons q1 q2⟩, b1 ++ b2, ?_, ?_⟩
        · simp only [PyData.depthAll]
          exact (hb1.mono (Nat.le_max_left _ _)).append (hb2.mono (Nat.le_max_right _ _))
        · simp only [PyData.depthAll, PyData.shownAll]
          exact .cons ((k1.more fun b hb => List.mem_append_left _ hb).level_le (Nat.le_max_left _ _)) (k2.more_le (fun b hb => List.mem_append_right _ hb) (Nat.le_max_right _ _))
end
end
/-- repr(x), x a list -/
def rRepr (K : PySem.W.Frag) : List V → Hp → VK → Prop := fun xs H Q => ∃ (a : Addr) (ds : List PyData), xs = [.ref a] ∧ Sh K H (.ref a) (.list ds) ∧ PyData.showableAll ds = true ∧ (PyData.list ds).shown.length ≤ sizeLine ∧ (PyData.list ds).depth ≤ 60 ∧
  Q (.str (PyData.list ds).shown) H
theorem call_reprL {X : Cx} (hg : X.A.guards = some []) (hu : X.A.units + 64 < cLine) : CallR X (.builtin "repr") (rRepr X.K) := by
  intro pins s σ H xs us Q I r h
  obtain ⟨a, ds, rfl, hsh, hs, hz, hdp, q⟩ := h
  cases r with
  | cons r1 r2 =>
    cases r2
    cases r1
    cases hsh with
    | fl f => cases f
    | @lst _ xs _ hq ha =>
      obtain ⟨its, rv, ⟨o, n, ho, hc, _, hd⟩, _⟩ := I.list hq
      have hz' : (listText (PyData.shownAll ds)).length ≤ sizeLine := by simpa only [PyData.shown] using hz
      obtain ⟨⟨as, hr⟩, bs, hb, hk⟩ := Sh.bothAll I ds xs its ha rv hs (fun t ht => Nat.le_trans (listText_mem_le ht) hz')
      have rr : Reads s.heap (.ref a) (.list ds) _ := Reads.list ho hc hd hr
      have hna : a ∉ bs := not_mem_of_deeper rr (by simp only [PyData.depth]; omega) hb
      simp only [PyData.depth] at hdp
      simp only [PyData.shown] at q
      refine call_repr_slot (by omega) ⟨o, ho, hc⟩ F.slot_list_repr.toG ?_
      have fin : ∀ (h' : Heap) (u : Tok) (tk : Nat), (∀ b o, s.heap.get? b = some o → h'.get? b = some o) → EP X pins σ Q (.str (listText (PyData.shownAll ds)) u) { s with heap := h', toks := tk } :=
        fun h' u tk k => ⟨.str (listText (PyData.shownAll ds)), H, I.kept k, ⟨u, rfl⟩, q⟩
      cases its with
      | nil =>
        cases hr
        simp only [PyData.shownAll, listText_nil] at fin
        exact call_list_repr_empty ⟨o, ho, hc⟩ ho hd ⟨_, _, rfl, fin s.heap _ _ fun _ _ e => e⟩
      | cons x l =>
        exact call_list_reprK ho hc hd hna (by simpa using hk.length_eq) (fun i y e => hk.item i y (by simpa using e)) hg (fun b _ => Clear.nil b)
          (by show X.A.units + 1 + _ < cLine; omega) (fun _ _ e => e) (fun h' u tk k => ⟨_, _, rfl, fin h' u tk k⟩) hz'
end L2
namespace L2
open PySem PySem.Spec PyProof.Rows PySem.GX
/-- a def's promise where no repr is under way -/
structure FnG (P : Program) (w : World) (K : PySem.W.Frag) (mg : Str → Option Value) (base : Heap) (CX : CXT) (k : Nat) (f : Addr) (fd : FuncData) (ps : List Str) (sp : Sp) : Prop where
  len : ∀ vs H Q E, sp vs H Q E → vs.length = ps.length
  run : ∀ (A : Around) (outer : List Env) (s : Shared) (H : Hp) (args : Args) (us : List Value) (vs : List V) (Q : VK) (E : XK), A.guards = some [] → Room k A → Env0 P w K mg base A outer s H →
    BindsTo s fd args (ps.zip us) → Vals vs us → sp vs H Q E → codeAny (model P w) A (.call (.ref f) args) (CR CX outer P w H s Q E) s
section
variable {P : Program} {w : World} {K : PySem.W.Frag} {mg : Str → Option Value} {base : Heap} {CX : CXT}
theorem fnG_of {k : Nat} {f : Addr} {name qual : Str} {params : Arguments} {body : List Stmt} {scope : Scope} {dV kV doc pm cdv ct oc : Value} {an od : Option Addr}
    {osl : Array (Option Value)} {N ps : List Str} {sp : Sp} (lk : K.lookup f = some ⟨oc, od, .func (PySem.W.fnOf name qual params body scope dV kV doc pm an cdv ct), osl⟩)
    (hcd : PySem.W.codeIn K cdv qual = true) (S : FnScope N ps scope) (len : ∀ vs H Q E, sp vs H Q E → vs.length = ps.length)
    (hbody : ∀ (A : Around) (outer : List Env) (s : Shared) (H : Hp) (vs : List V) (Q : VK) (E : XK), A.guards = some [] → Room k (A.deeper (envOfC qual scope s.heap.objs.size f cdv)) → sp vs H Q E →
      ∃ t, PSs (cxOf CX P w K mg base N qual scope f cdv A outer s H E) body t ∧ t { nx := fun _ H' => Q .non H', rt := Q } (start N vs) H) :
    FnG P w K mg base CX (k + 1) f (PySem.W.fnOf name qual params body scope dV kV doc pm an cdv ct) ps sp := by
  refine ⟨len, fun A outer s H args us vs Q E hgd hr e0 hb r hsp => ?_⟩
  have hl := len _ _ _ _ hsp
  have KX : K.In s.heap := e0.mod.kin.keeps fun b o e => (e0.bs b o e).1
  have lim : s.heap.NoLimit := e0.mod.nolimit.keeps fun b o e => (e0.bs b o e).1
  have hkind : ∀ y ∈ ps.zip us, scope.names.lookup y.1 = some .local ∨
      (scope.names.lookup y.1 = some .cell ∧ ((cellsFrom (s.heap.objs.size + 1) scope.names []).lookup y.1).isSome = true) := fun ⟨n, v⟩ hy => by
    rcases S.par n (List.of_mem_zip hy).1 with q | q
    · exact .inl q
    · exact .inr ⟨q, PySem.W.cellsFrom_some _ _ _ (.inl q)⟩
  refine codeAny_call_function hr.depth (KX _ _ lk) rfl S.co S.gen rfl (PySem.W.codeRec_of KX hcd) (hb _ _ _ _ ?_)
  refine wpAny_newFunctionEnv_cells S.kind hkind fun env he s1 x => ?_
  subst he
  refine ⟨lim.keeps x.toInCall.keep, codeAny_func ?_⟩
  obtain ⟨t, ht, hq⟩ := hbody A outer s H vs Q E hgd (hr.deeper _) hsp
  have I : Inv (cxOf CX P w K mg base N qual scope f cdv A outer s H E) [] (start N vs) H s1 := inv_start S hr.hd e0 hl r x
  refine wpAny_mono (ht.run [] s1 (start N vs) H _ I hq) (fun fl s' hs => ?_) fun e s' hs => hs
  cases fl with
  | ret u =>
    obtain ⟨v, σ', H', J, rv, q⟩ := hs
    exact ⟨v, H', J.os, J.bare, J.base, J.hok, rv, q⟩
  | next =>
    obtain ⟨σ', H', J, q⟩ := hs
    exact ⟨V.non, H', J.os, J.bare, J.base, J.hok, rfl, q⟩
  | brk =>
    obtain ⟨_, _, _, q⟩ := hs
    exact False.elim q
  | cont =>
    obtain ⟨_, _, _, q⟩ := hs
    exact False.elim q
theorem Fun.okG {x qual : Str} {st : Stmt} {f : Addr} {fd : FuncData} {N ps : List Str} {k : Nat} {sp : Sp} (F : Fun K x qual st f fd) (S : FnScope N ps (defScope st)) (len : ∀ vs H Q E, sp vs H Q E → vs.length = ps.length)
    (hbody : ∀ (cdv : Value) (A : Around) (outer : List Env) (s : Shared) (H : Hp) (vs : List V) (Q : VK) (E : XK), A.guards = some [] → Room k (A.deeper (envOfC qual (defScope st) s.heap.objs.size f cdv)) → sp vs H Q E →
      ∃ t, PSs (cxOf CX0 P w K mg base N qual (defScope st) f cdv A outer s H E).nox (defBody st) t ∧ t { nx := fun _ H' => Q .non H', rt := Q } (start N vs) H) : FnG P w K mg base CX0 (k + 1) f fd ps sp := by
  obtain ⟨oc, od, kV, doc, pm, an, cdv, ct, osl, rfl, lk, hcd⟩ := F.ex
  refine fnG_of lk hcd S len fun A outer s H vs Q E hgd hr hsp => ?_
  obtain ⟨t, h, q⟩ := hbody cdv A outer s H vs Q E hgd hr hsp
  exact ⟨t, h.nox, q⟩
end
section
variable {X : Cx} {CX : CXT} {k : Nat} {f C : Addr} {fd : FuncData} {ps : List Str} {sp : Sp} {E : XK} {x : Str} {p pos : Pos} {e : Expr} {es : List Expr} {t : TA}
theorem pe_callG (F : FnG X.prog X.w X.K X.mg X.base CX k f fd ps sp) (hgd : X.A.guards = some []) (hr : Room k X.A) (hg : Gl X x) (hm : X.mg x = some (.ref f)) (hk : PySem.W.keepIn X.K (.ref f) = true) (hb : Binds X.K fd ps []) (hx : Passes CX X E)
    (ha : PA X (e :: es) t) (hdb : (x == ("__debug__" : Str)) = false := by decide) (he : starEach (e :: es) X.env = (false, eval e X.env) :: starEach es X.env := by rfl) (hpl : (backTo pos (starEach es X.env)).any (·.1) = false := by rfl) :
    PE X (.Call (.Name x p) (e :: es) [] pos) (tCall sp [] E t) := by
  refine ⟨fun pins s σ H Q I h => ?_⟩
  refine wpAny_Call_Name_kw (ld_glob I hg hm ?_ hdb)
  refine PySem.W.callWith_K (h₀ := X.base) I.ok.mod.kin hk (thn (ha.run pos pins s σ H _ I h) fun us s1 ⟨vs, H1, I1, r, q⟩ => ⟨I1.kIn, ?_⟩) he hpl
  have r2 : Vals (vs ++ []) (us ++ []) := r.append .nil
  have hl : (us ++ []).length = ps.length := by rw [← r2.length]; exact F.len _ _ _ _ q
  refine wpAny_call (codeAny_mono (F.run X.A X.stack s1 H1 ⟨us, []⟩ (us ++ []) (vs ++ []) Q E hgd hr I1.env0 (hb s1 us I1.kIn hl) r2 q) fun r s' hq => ?_)
  cases r with
  | error e => exact hx pins σ H1 s1 e s' I1 hq
  | ok fl =>
    cases fl with
    | ret u => exact I1.after hq
    | next => exact False.elim hq
    | brk => exact False.elim hq
    | cont => exact False.elim hq
/-- X(), an own exception class without own __init__ -/
theorem pe_exc0G {bmB : List Value} {B nid iid : String} (F : ExcBaseFacts B nid iid bmB) (q : PySem.W.excIn X.K C bmB nid = true) (gC : X.mg x = some (.ref C)) (kC : PySem.W.keepIn X.K (.ref C) = true) (hg : Gl X x)
    (hdb : (x == ("__debug__" : Str)) = false := by decide) :
    PE X (.Call (.Name x p) [] [] pos) (fun σ H Q => ∀ a, H a = none → Q (.ref a) (upd H a (exo a C none))) := by
  refine ⟨fun pins s σ H Q I h => ?_⟩
  refine wpAny_Call_Name_kw (ld_glob I hg gC ?_ hdb)
  refine PySem.W.callWith_K0 I.kIn kC ?_
  obtain ⟨bm, N, nm, qn, bs, hdct, sn, sub, ab, col, dd, k0, k1, k2, k3, k5, mN, hC, hN, hni, T⟩ := exc_obj I.kIn q
  refine wpAny_call_exc_subT F T hC hN hni (fun h' a hm => ?_) (by show 0 ≤ sizeLine; exact Nat.zero_le _)
  have hn : H a = none := I.hok.gone hm.new
  obtain ⟨t, ht, _, _⟩ := hm.there
  exact ⟨.ref a, upd H a (exo a C none), I.laidN hm.keeps hm.new hn (exo_ok ht), rfl, h a hn⟩
end
/-- the law's call, its promise where no repr is under way -/
theorem law_callG {P : Program} {w : World} {K : PySem.W.Frag} {mg mb : Str → Option Value} {CX : CXT} {k : Nat} {fa a : Addr} {fd : FuncData} {x : Str} {sp : Sp} {s1 : Shared} {vs : List Value} {ns : List Int}
    (KX : K.In s1.heap) (hns : s1.heap.Ns mainGlobals mg) (hb : s1.heap.Ns builtinsNs mb) (hbb : ∀ x : Str, x ≠ "__name__" → mb x = bootBuiltins x) (hlim : s1.heap.NoLimit) (hg : s1.gens = #[])
    (ha : s1.heap.get? a = some { cls := .type "list", data := .seq vs.toArray }) (hi : IntsAre vs ns) (hl : ns.length ≤ sizeLine) (hr : Room k callerA)
    (F : ∀ base : Heap, K.In base → base.Ns mainGlobals mg → FnG P w K mg base CX k fa fd [x] sp) (hbind : ∀ (s : Shared) (u : Value), BindsTo s fd ⟨[u], []⟩ [(x, u)])
    (hsp : ∀ H : Hp, Only H → SqL K H a (ns.map V.int) → sp [.ref a] H (fun v _ => v = .bl true) fun _ _ _ => False)
    (hCX : ∀ H e s', CX [] H s1 (fun _ _ _ => False) e s' → False) :
    codeAny (model P w) callerA (.call (.ref fa) ⟨[.ref a], []⟩) (fun r s' => r = .ok (.ret (.bool true)) ∧ OldK s1.heap s'.heap ∧ s'.os = s1.os ∧ AllBare s'.gens) s1 := by
  have rv := vals_ints hi
  have lenV := hi.length
  have core : ∀ H : Hp, Only H → SqL K H a (ns.map V.int) → HOk P w H s1.heap → (∀ b, H b ≠ none → b = a) → (H a ≠ none → K.lookup a = none) →
      codeAny (model P w) callerA (.call (.ref fa) ⟨[.ref a], []⟩) (fun r s' => r = .ok (.ret (.bool true)) ∧ OldK s1.heap s'.heap ∧ s'.os = s1.os ∧ AllBare s'.gens) s1 := by
    intro H hO hS hok hA hK
    have isA : ∀ {b : Addr} {u : HO}, H b = some u → b = a := fun {b u} q => hA b (by rw [q]; simp)
    have nod : ∀ {b : Addr} {o : Obj} {es : Array DictEntry} {ep : Nat}, s1.heap.get? b = some o → o.data = .dict es ep → H b = none := fun {b o es ep} e d => by
      cases q : H b with
      | none => rfl
      | some u =>
        have e1 := isA q
        subst e1
        rw [ha] at e
        cases e
        cases (show Data.seq vs.toArray _ = Data.dict es ep from d)
    have nsK : ∀ {b : Addr} {m : Str → Option Value}, s1.heap.Ns b m → (hidT s1.heap H).Ns b m :=
      fun {b m} ⟨o, es, ep, e, d, r⟩ => ⟨o, es, ep, hidT_get e (nod e d), d, r⟩
    have hKb : K.In (hidT s1.heap H) := fun b o e => hidT_get (KX b o e) (by
      cases q : H b with
      | none => rfl
      | some u =>
        have e1 := isA q
        subst e1
        rw [hK (by rw [q]; simp)] at e
        cases e)
    have hM : Mod K mg (hidT s1.heap H) :=
      ⟨hKb, nsK hns, ⟨mb, nsK hb, hbb⟩, let ⟨mc, h1, h2⟩ := hlim; ⟨mc, nsK h1, h2⟩⟩
    have e0 : Env0 P w K mg (hidT s1.heap H) callerA [] s1 H :=
      ⟨rfl, hM, fun b o e => of_hidT e, Nat.le_of_eq (hidT_size _ _), trivial, fun b hb => absurd (show b ∈ ([] : List Addr) from hb) (by simp), hok, .of_eq hg⟩
    refine codeAny_mono ((F _ hKb (nsK hns)).run callerA [] s1 H ⟨[.ref a], []⟩ [.ref a] [.ref a] _ _ rfl hr e0 (hbind s1 (.ref a)) (.cons rfl .nil) (hsp H hO hS)) fun r s' h => ?_
    cases r with
    | error e => exact (hCX H e s' h).elim
    | ok fl =>
      cases fl with
      | next => exact False.elim h
      | brk => exact False.elim h
      | cont => exact False.elim h
      | ret u =>
        obtain ⟨v, H', os, bare, un, hok', r', q⟩ := h
        have qv : v = .bl true := q
        subst qv
        obtain rfl : u = Value.bool true := r'
        refine ⟨rfl, OldK.of_keep fun b o e => ?_, os, bare⟩
        cases q : H b with
        | none => exact un.keep b o e q (by intro z; exact absurd (show b ∈ ([] : List Addr) from z) (by simp)) (by simp)
        | some u =>
          rcases hO b with z | ⟨ob, xs, z⟩
          · rw [q] at z; cases z
          · have z2 := un.frzs b ob _ z
            obtain ⟨e1, _⟩ := hok b _ z
            obtain ⟨e2, _⟩ := hok' b _ z2
            rw [e] at e1
            cases e1
            exact e2
  cases hk : K.lookup a with
  | some o =>
    have e := KX a o hk
    rw [ha] at e
    cases e
    refine core (fun _ => none) (fun _ => .inl rfl) (.inr ⟨_, vs.toArray, _, hk, rfl, rfl, rfl, by rw [List.size_toArray, lenV]; exact hl, by simpa using rv⟩)
      (fun b u z => by cases (show (none : Option HO) = some u from z)) (fun b z => absurd rfl z) fun z => absurd rfl z
  | none =>
    refine core (fun b => if b = a then some (.frz { cls := .type "list", data := .seq vs.toArray } (.lst (ns.map V.int))) else none)
      (fun b => ?_) (.inl (.inr ⟨{ cls := .type "list", data := .seq vs.toArray }, if_pos rfl⟩)) (fun b u z => ?_) (fun b z => ?_) fun _ => hk
    · by_cases hb : b = a
      · exact .inr ⟨_, _, if_pos hb⟩
      · exact .inl (if_neg hb)
    · by_cases hb : b = a
      · have z1 := (if_pos hb).symm.trans z
        cases z1
        subst hb
        exact ⟨ha, by rw [List.length_map]; exact hl, vs, _, rv, ha⟩
      · have z1 := (if_neg hb).symm.trans z
        cases z1
    · by_cases hb : b = a
      · exact hb
      · exact absurd (if_neg hb) z
theorem walk_G {l : PySem.W.OpenLaw} {n k : Nat} {q : Program} {loose : List Str} {XP : (Str → Option Value) → Heap → Prop} {YP : World → Heap → Prop} {d : DefRec} {K : Params → PySem.W.Frag} {sp : PySem.W.Frag → Sp} {x : Str}
    (hn : l.most = some n) (hn2 : n ≤ sizeLine) (hdf : d.params.defaults = []) (hr : Room k callerA)
    (hY : ∀ (w : World) (h : Heap), YP w h → (K w.params).In h)
    (F : ∀ (w : World) (mg : Str → Option Value) (fa : Addr) (h : Heap), (K w.params).In h → h.Ns mainGlobals mg → mg d.name = some (.ref fa) →
      ∃ fd : FuncData, (∀ (s : Shared) (u : Value), BindsTo s fd ⟨[u], []⟩ [(x, u)]) ∧
        ∀ base : Heap, (K w.params).In base → base.Ns mainGlobals mg → FnG l.prog w (K w.params) mg base CX0 k fa fd [x] (sp (K w.params)))
    (hsp : ∀ (K : PySem.W.Frag) (H : Hp) (a : Addr) (ns : List Int), ns.length ≤ n → Only H → SqL K H a (ns.map V.int) → sp K [.ref a] H (fun v _ => v = .bl true) fun _ _ _ => False) :
    PySem.W.WalkO q loose XP YP l.row.toRowW d [] (fun f vs => PySem.call f vs) := by
  refine Att.attach_call hn hdf fun w s₀ s1 mg mb fa o pm cd doc a vs ns G Y ho hd hcd hmg hobj hints hlen hg => ?_
  have KX := hY w _ Y
  obtain ⟨fd, hb, hF⟩ := F w mg fa _ KX G.T.g hmg
  exact law_callG KX G.T.g G.T.b G.T.builtins G.T.nolimit hg hobj hints (Nat.le_trans hlen hn2) hr hF hb (fun H hO hS => hsp (K w.params) H a ns hlen hO hS) fun _ _ _ z => z
end L2
namespace L2
open PySem PySem.Spec PyProof.Rows PySem.GX
/-! sets of texts that can be walked: ys are the members, none twice -/
def keyS (e : Int × Value) : Str := match e.2 with | .str k _ => k | _ => Str.empty
def GoodS (w : World) (e : Int × Value) : Prop := ∃ k tk, e.2 = Value.str k tk ∧ e.1 = hashStr w k
def SetT (w : World) (h : Heap) (a : Addr) (ys : List Str) : Prop :=
  ∃ o es ep t, h.get? a = some o ∧ o.ExactSet ∧ o.data = .set es ep t ∧ (∀ e ∈ es.toList, GoodS w e) ∧ (es.toList.map keyS).Perm ys ∧ ys.Nodup ∧
    es.size < scanBound ∧ t.fits es.size = true ∧ Ris t.place.toList ∧ (w.params.followText "set-order" = true ∨ t.led = true)
/-- one more member -/
def ins (ys : List Str) (k : Str) : List Str := if k ∈ ys then ys else k :: ys
theorem ins_nodup {ys : List Str} {k : Str} (h : ys.Nodup) : (ins ys k).Nodup := by
  unfold ins
  split
  · exact h
  · exact List.nodup_cons.mpr ⟨‹_›, h⟩
theorem ins_len (ys : List Str) (k : Str) : (ins ys k).length ≤ ys.length + 1 := by
  unfold ins
  split
  · omega
  · rw [List.length_cons]; omega
section
variable {P : Program} {w : World} {h h' : Heap} {a : Addr} {ys : List Str}
theorem SetT.at (R : SetT w h a ys) (k : ∀ o, h.get? a = some o → h'.get? a = some o) : SetT w h' a ys := by
  obtain ⟨o, es, ep, t, ho, r⟩ := R
  exact ⟨o, es, ep, t, k o ho, r⟩
theorem goodS_elems {l : List (Int × Value)} (g : ∀ e ∈ l, GoodS w e) : ElemsOf (strKind P w) l := fun e he => by
  obtain ⟨k, tk, h1, h2⟩ := g e he
  exact ⟨⟨k, by rw [h1]; exact strKind_is P w k tk, h2⟩, by rw [h1] <;> rfl⟩
theorem goodS_is {e : Int × Value} (g : GoodS w e) (k : Str) : (strKind P w).is k e.2 = true ↔ keyS e = k := by
  obtain ⟨k0, tk, h1, _⟩ := g
  unfold keyS
  rw [h1]
  constructor
  · intro z
    obtain ⟨t, e2⟩ := Value.isStrOf_shape (x := k) (v := .str k0 tk) z
    cases e2
    rfl
  · intro z
    have z' : k0 = k := z
    rw [z']
    exact strKind_is P w k tk
theorem goodS_mem {l : List (Int × Value)} (g : ∀ e ∈ l, GoodS w e) (k : Str) : k ∈ l.map keyS ↔ ∃ e ∈ l, (strKind P w).is k e.2 = true := by
  rw [List.mem_map]
  constructor
  · rintro ⟨e, he, q⟩
    exact ⟨e, he, (goodS_is (g e he) k).2 q⟩
  · rintro ⟨e, he, q⟩
    exact ⟨e, he, (goodS_is (g e he) k).1 q⟩
end
section
variable {P : Program} {w : World} {A : Around} {E : Value → Shared → Prop} {s : Shared} {a : Addr} {ys : List Str}
theorem setT_tail {g : Bool → Sem Unit} (hg : ∀ (b : Bool) (s₁ : Shared) (Q' : Unit → Shared → Prop), Q' () s₁ → wpAny (model P w) A (g b) Q' E s₁)
    {o : Obj} {es : Array (Int × Value)} {ep : Nat} {t : SetTable} (ho : s.heap.get? a = some o) (hex : o.ExactSet) (hd : o.data = .set es ep t)
    {es1 : Array (Int × Value)} {t2 : SetTable} {zs : List Str} (g1 : ∀ e ∈ es1.toList, GoodS w e) (p1 : (es1.toList.map keyS).Perm zs) (nd1 : zs.Nodup)
    (hb1 : es1.size < scanBound) (hf2 : t2.fits es1.size = true) (hr : Ris t2.place.toList) (hl : w.params.followText "set-order" = true ∨ t2.led = true) {wd : Bool} {R : Option Bool → Shared → Prop}
    (hR : ∀ h', Heap.SameBut a s.heap h' → SetT w h' a zs → R (some true) { s with heap := h' }) :
    wpAny (model P w) A (do
        storeSet a es1 t2
        if (!wd && t2.tooFull) = true then do
            g (relayAll t2 es1 (SetTable.grown es1.size)).2.2
            storeSet a (relayAll t2 es1 (SetTable.grown es1.size)).1 (relayAll t2 es1 (SetTable.grown es1.size)).2.1
            pure (some true)
          else pure (some true)) R E s := by
  refine wpAny_bind (wpAny_storeSet_of ho hd ?_ (fits_of_scanBound hb1))
  have ho1 := store_at (es' := es1) (t' := t2) ho hd
  have sb1 := Heap.SameBut.update s.heap a (Obj.putSet es1 t2)
  split
  · have c1 := relayAll_perm t2 es1 (SetTable.grown es1.size)
    have c2 := relayAll_fits t2 es1 (SetTable.grown es1.size)
    have c3 := relayAll_ris t2 es1 (SetTable.grown es1.size)
    have c4 := relayAll_led t2 es1 (SetTable.grown es1.size)
    generalize relayAll t2 es1 (SetTable.grown es1.size) = Z at c1 c2 c3 c4 ⊢
    obtain ⟨es2, t3, gv⟩ := Z
    dsimp only at c1 c2 c3 c4 ⊢
    have hsz : es2.size = es1.size := by
      rw [← Array.length_toList, c1.length_eq, Array.length_toList]
    have hb2 : es2.size < scanBound := by rw [hsz]; exact hb1
    refine wpAny_bind (hg _ _ _ ?_)
    refine wpAny_bind (wpAny_storeSet_of ho1 rfl ?_ (fits_of_scanBound hb2))
    have ho2 := store_at (es' := es2) (t' := t3) ho1 rfl
    refine wpAny_pure (hR _ (sb1.trans (Heap.SameBut.update _ a _)) ?_)
    exact ⟨_, es2, _, t3, ho2, hex, rfl, fun e he => g1 e (c1.mem_iff.mp he), (c1.map keyS).trans p1, nd1, hb2, c2, c3, hl.imp id fun z => by rw [c4]; exact z⟩
  · exact wpAny_pure (hR _ sb1 ⟨_, es1, _, t2, ho1, hex, rfl, g1, p1, nd1, hb1, hf2, hr, hl⟩)
theorem setT_add {k : Str} {tk : Tok} {Q : Bool → Shared → Prop} (R : SetT w s.heap a ys) (room : ys.length + 1 < scanBound)
    (hQ : ∀ (b : Bool) h', Heap.SameBut a s.heap h' → SetT w h' a (ins ys k) → Q b { s with heap := h' }) :
    wpAny (model P w) A (setAddHashed a (.str k tk) ((strKind P w).hash k)) Q E s := by
  obtain ⟨o, es, ep, t, ho, hex, hd, g, pm0, nd, hb, hf, hr, hl⟩ := R
  have hkey : (strKind P w).is k (.str k tk) = true := strKind_is P w k tk
  have hsc : (Value.str k tk).scannable = true := rfl
  have hel : ElemsOf (strKind P w) es.toList := goodS_elems g
  unfold setAddHashed setAddHashedIn
  refine wpAny_holding (wpAny_bind (wpAny_setState_of ho hd hf ?_))
  dsimp only
  rw [byScan_of hsc hb hel]
  simp only [↓reduceIte]
  unfold setAddByScan
  refine wpAny_bind ?_
  refine wpAny_bind (wpAny_rule ?_)
  refine wpAny_bind (wpAny_setScan_of hkey ho hd hf hel ?_)
  cases hfi : List.findIdx? (fun e => (strKind P w).is k e.2) es.toList with
  | some j =>
    dsimp only
    obtain ⟨hj, pj, _⟩ := List.findIdx?_eq_some_iff_getElem.mp hfi
    have hk : k ∈ ys := pm0.mem_iff.mp ((goodS_mem (P := P) (w := w) g k).2 ⟨es.toList[j], List.getElem_mem hj, pj⟩)
    refine wpAny_pure (wpAny_pure ?_)
    exact hQ _ s.heap (Heap.SameBut.refl a s.heap) ⟨o, es, ep, t, ho, hex, hd, g, by unfold ins; rw [if_pos hk]; exact pm0, ins_nodup nd, hb, hf, hr, hl⟩
  | none =>
    dsimp only
    have hnk : k ∉ ys := fun z => by
      obtain ⟨e, he, q⟩ := (goodS_mem (P := P) (w := w) g k).1 (pm0.mem_iff.mpr z)
      have c := List.findIdx?_eq_none_iff.mp hfi e he
      rw [q] at c
      cases c
    have hgw : ∀ (b : Bool) {s₁ : Shared} {Q' : Unit → Shared → Prop}, Q' () s₁ → wpAny (model P w) A (match b with | true => rule "set.scan.the-table-gave-way" | false => pure ()) Q' E s₁ :=
      fun b s₁ Q' q => by cases b <;> first | exact wpAny_pure q | exact wpAny_rule q
    have c1 := layNew_perm t es ((strKind P w).hash k) (.str k tk)
    have c2 := layNew_fits t es ((strKind P w).hash k) (.str k tk)
    have c3 := layNew_ris t es ((strKind P w).hash k) (.str k tk) hr
    have c4 := layNew_led t es ((strKind P w).hash k) (.str k tk)
    generalize layNew t es ((strKind P w).hash k) (.str k tk) = Z at c1 c2 c3 c4 ⊢
    obtain ⟨es1, t1, wasDummy, gave⟩ := Z
    dsimp only at c1 c2 c3 c4 ⊢
    rw [Array.toList_push] at c1
    have pc : es1.toList.Perm (((strKind P w).hash k, Value.str k tk) :: es.toList) := c1.trans (List.perm_append_singleton _ _)
    have pk : (es1.toList.map keyS).Perm (ins ys k) := by
      unfold ins
      rw [if_neg hnk]
      exact (pc.map keyS).trans (List.Perm.cons k pm0)
    have g1 : ∀ e ∈ es1.toList, GoodS w e := fun e he => by
      rcases List.mem_cons.mp (pc.mem_iff.mp he) with z | z
      · rw [z]; exact ⟨k, tk, rfl, rfl⟩
      · exact g e z
    have hsz : es1.size = ys.length + 1 := by
      rw [← Array.length_toList, pc.length_eq, List.length_cons, ← pm0.length_eq, List.length_map]
    have hb1 : es1.size < scanBound := by rw [hsz]; exact room
    have hled : w.params.followText "set-order" = true ∨ t1.led = true := hl.imp id fun z => by rw [c4]; exact z
    refine wpAny_bind (hgw _ ?_)
    split
    · refine wpAny_bind ?_
      rw [hashByValue_scannable 8 hsc]
      refine wpAny_pure ?_
      refine setT_tail ?_ ho hex hd g1 pk (ins_nodup nd) hb1 ?_ ?_ ?_ ?_
      · intro b s₁ Q' q; cases b <;> first | exact wpAny_pure q | exact wpAny_rule q
      · first | (split <;> first | exact c2 | exact SetTable.fits_plain_off c2) | exact c2
      · first | (split <;> exact c3) | exact c3
      · first | (split <;> exact hled) | exact hled
      · intro h' sb r; dsimp only; exact wpAny_pure (hQ _ h' sb r)
    · refine wpAny_bind (wpAny_pure ?_)
      simp only [↓reduceIte]
      refine setT_tail ?_ ho hex hd g1 pk (ins_nodup nd) hb1 c2 c3 hled ?_
      · intro b s₁ Q' q; cases b <;> first | exact wpAny_pure q | exact wpAny_rule q
      · intro h' sb r; dsimp only; exact wpAny_pure (hQ _ h' sb r)
end
end L2
namespace L2
open PySem PySem.Spec PyProof.Rows PySem.GX
def setFold (xs : List Str) : List Str := xs.foldl ins []
theorem setFold_snoc (xs : List Str) (x : Str) : setFold (xs ++ [x]) = ins (setFold xs) x := by
  unfold setFold
  rw [List.foldl_append]
  rfl
theorem setFold_len : ∀ (n : Nat) (xs : List Str), xs.length = n → (setFold xs).length ≤ n
  | 0, xs, h => by
    have := List.length_eq_zero_iff.mp h
    subst this
    exact Nat.le_refl 0
  | n + 1, xs, h => by
    obtain ⟨ys, y, rfl⟩ : ∃ ys y, xs = ys ++ [y] := ⟨xs.dropLast, xs.getLast (by intro z; rw [z] at h; cases h), (List.dropLast_concat_getLast _).symm⟩
    rw [List.length_append, List.length_singleton] at h
    have h1 := setFold_len n ys (by omega)
    have h2 := ins_len (setFold ys) y
    rw [setFold_snoc]
    omega
section
variable {prog : Program} {w : World} {A : Around} {R : Result → Shared → Prop} {I : Addr} {fp wr : List Addr} {G : Array GenState → Array GenState → Prop} {n : Nat} {Pv : Nat → Value → Prop} {St : Nat → Shared → Prop}
theorem loopT (W : WalksS prog w A.in1 I fp wr G n Pv St) (S : Addr) (hSf : S ∉ fp) (xs : List Str) (hsz : xs.length = n) (hn : n + 1 < scanBound)
    (hval : ∀ i v, Pv i v → ∃ x t, xs[i]? = some x ∧ v = .str x t) :
    ∀ (k i : Nat) (s : Shared), n - i = k → i ≤ n → St i s → SetT w s.heap S (setFold (xs.take i)) →
      (∀ s', Moved (S :: wr) G s s' → SetT w s'.heap S (setFold xs) → R (.ok (.ret .none)) s') →
      codeAny (model prog w) A (.builtin "set.update.loop" ⟨[.ref S, .ref I], []⟩) R s := by
  have hSw : S ∉ wr := fun h => hSf (W.sub _ h)
  have up : ∀ b ∈ wr, b ∈ S :: wr := fun b hb => List.mem_cons_of_mem _ hb
  intro k
  induction k with
  | zero =>
    intro i s hk hi hst hS hR
    have hin : i = n := by omega
    subst hin
    refine codeAny_builtin PyProof.Rows.F.entry_set_update_loop ?_
    rw [Around.under_plainId PyProof.Rows.F.plain_set_update_loop _]
    show wpAny _ A.in1 (pyNext (.ref I) >>= _) _ _ s
    refine wpAny_bind (W.done s _ _ hst fun s' hm => ?_)
    show wpAny _ A.in1 (ret Value.none) _ _ s'
    rw [List.take_of_length_le (by omega)] at hS
    exact wpAny_pure (hR s' (hm.mono up) (hS.at fun o e => hm.heap S _ hSw e))
  | succ k ih =>
    intro i s hk hi hst hS hR
    have hlt : i < n := by omega
    refine codeAny_builtin PyProof.Rows.F.entry_set_update_loop ?_
    rw [Around.under_plainId PyProof.Rows.F.plain_set_update_loop _]
    show wpAny _ A.in1 (pyNext (.ref I) >>= _) _ _ s
    refine wpAny_bind (W.item i s _ _ hlt hst fun v s' hP hst' hm => ?_)
    obtain ⟨x, t, hx, rfl⟩ := hval i v hP
    have hS1 : SetT w s'.heap S (setFold (xs.take i)) := hS.at fun o e => hm.heap S _ hSw e
    show wpAny _ A.in1 (holding [Value.str x t] (setAdd S (.str x t)) >>= _) _ _ s'
    refine wpAny_bind (wpAny_holding ?_)
    unfold setAdd
    refine wpAny_holding ?_
    refine wpAny_bind ((PySem.strKind prog w).pyHash (k := x) (strKind_is _ _ _ _) ?_)
    have lf := setFold_len i (xs.take i) (by rw [List.length_take]; omega)
    refine setT_add (s := { s' with toks := s'.toks + 1 }) hS1 (by omega) fun b h' hsb hS2 => ?_
    have e1 : xs.take (i + 1) = xs.take i ++ [x] := by
      rw [List.take_succ, hx]
      rfl
    have hS3 : SetT w h' S (setFold (xs.take (i + 1))) := by
      rw [e1, setFold_snoc]
      exact hS2
    refine wpAny_pure ⟨plainId_quiet PyProof.Rows.F.plain_set_update_loop _, ih (i + 1) _ (by omega) hlt (W.frame _ s' _ _ hst' (Nat.le_succ _) fun b hb o e => ?_) hS3 fun s'' hm'' hS'' => ?_⟩
    · rw [hsb.2 b (fun h : b = S => hSf (by rw [← h]; exact hb))]
      exact e
    · refine hR s'' (Moved.trans W.gtrans ((hm.mono up).then_heap (Nat.le_succ _) fun b o hb e => ?_) hm'') hS''
      rw [hsb.2 b (fun h : b = S => hb (by rw [h]; exact List.mem_cons_self))]
      exact e
end
section
variable {prog : Program} {w : World} {A : Around} {E : Value → Shared → Prop} {s : Shared}
abbrev newSet (w : World) : Obj := { cls := .type "set", dict := none, data := .set #[] 0 (.fresh 0 0 (!w.params.followText "set-order")) }
theorem setT_fresh {h : Heap} (w : World) : SetT w (h.push (newSet w)) h.objs.size [] :=
  ⟨_, #[], 0, _, Heap.get?_push_size _ rfl, ⟨rfl, rfl, rfl⟩, rfl, (fun e he => by simp at he), List.Perm.refl _, List.nodup_nil, (by decide), (by rfl), List.Pairwise.nil, by
    show _ ∨ (!w.params.followText "set-order") = true
    cases w.params.followText "set-order"
    · exact .inr rfl
    · exact .inl rfl⟩
theorem code_setNew (a : Value) {Q1 : Value → Shared → Prop} (h : Q1 (.ref s.heap.objs.size) { s with heap := s.heap.push (newSet w) }) :
    codeAny (model prog w) A (.call (.builtin "set.__new__") ⟨[.type "set", a], []⟩) (wants Q1 E) s := by
  refine codeAny_of_tree ?_
  show wpAny _ A.in1 (do checkBuiltinCall "set.__new__" ⟨[.type "set", a], []⟩; again (.builtin "set.__new__" ⟨[.type "set", a], []⟩)) _ _ s
  refine wpAny_bind (wpAny_of_eq (F.newCall_set_1 a) (wpAny_pure ⟨plainId_quiet F.plain_set_new _, codeAny_builtin F.entry_set_new ?_⟩))
  rw [Around.under_plainId F.plain_set_new _]
  unfold Builtin.«set.__new__» Builtin.Frozenset.newClass
  have hsub := sub_set_self
  obtain ⟨hp, g, d, tk, os⟩ := s
  dsimp only
  wp_walk
  refine wpAny_askSetting (wpAny_pure ?_)
  dsimp only
  simp only [newObj]
  refine wpAny_bind (wpAny_alloc (wpAny_pure ?_))
  exact wpAny_pure h
theorem sub_str_set : isSubtype (.type "str") (.type "set") = pure false := by
  rw [isSubtype_type]; kernel_rfl
theorem sub_str_frozenset : isSubtype (.type "str") (.type "frozenset") = pure false := by
  rw [isSubtype_type]; kernel_rfl
/-- set(x): the new set, then the iterable's items (hinit: what set.__init__ does) -/
theorem call_set1 {v : Value} {ys : List Str} {Q : Value → Shared → Prop}
    (hinit : ∀ (R : Result → Shared → Prop), (∀ h' tk, SetT w h' s.heap.objs.size ys → (∀ b o, b < s.heap.objs.size → s.heap.get? b = some o → h'.get? b = some o) → R (.ok (.ret .none)) { s with heap := h', toks := tk }) →
      wpAny (model prog w) A.in1.in1 (Builtin.«set.__init__» ⟨[.ref s.heap.objs.size, v], []⟩) (fun fin s' => match fin with | .done f => R (.ok f) s' | .again c => c.quiet = true ∧ codeAny (model prog w) A.in1 c R s')
        (fun e s' => R (.error e) s') { s with heap := s.heap.push (newSet w) })
    (h : ∀ (h' : Heap) (tk : Nat), SetT w h' s.heap.objs.size ys → (∀ b o, b < s.heap.objs.size → s.heap.get? b = some o → h'.get? b = some o) → Q (.ref s.heap.objs.size) { s with heap := h', toks := tk }) :
    wpAny (model prog w) A (call (.type "set") [v]) Q E s := by
  obtain ⟨c, tl, hmro⟩ := PySem.F.called_set.mro
  have z1 := PySem.F.called_set.made
  have z2 := PySem.F.called_set.sub
  refine wpAny_call (codeAny_of_tree ?_)
  show wpAny _ _ (callAny (.type "set") _) _ _ _
  refine wpAny_pure ⟨Code.quiet_builtin _ (by decide +kernel), codeAny_builtin PySem.F.entry_type_call ?_⟩
  rw [Around.under_plain (weight_type_call_type "set" [v] []) rfl]
  have z3 := PySem.F.called_set.notType
  have z4 := PySem.F.called_set.canCreate
  have z5 := F.typeCall_set_1 v
  repeat (any_goals (first | assumption | wp_step))
  refine codeAny_mono (code_setNew v (E := E) (Q1 := fun obj s₁ => obj = .ref s.heap.objs.size ∧ s₁ = { s with heap := s.heap.push (newSet w) }) ⟨rfl, rfl⟩) fun r s₁ hr => ?_
  cases r with
  | error e => exact hr
  | ok fl =>
    cases fl with
    | ret obj =>
      obtain ⟨rfl, rfl⟩ := hr
      have hS : (s.heap.push (newSet w)).get? s.heap.objs.size = some (newSet w) := Heap.get?_push_size _ rfl
      have hT : Shared.TypeIs { s with heap := s.heap.push (newSet w) } (.ref s.heap.objs.size) "set" := ⟨_, hS, rfl⟩
      have z6 := PySem.F.called_set.init.lookup
      have z7 := PySem.F.called_set.init.bind (.ref s.heap.objs.size)
      repeat (any_goals (first | assumption | wp_step))
      refine codeAny_mono (codeAny_call_builtin (R := wants (fun r s₂ => r = .none ∧ ∃ h' tk, s₂ = { s with heap := h', toks := tk } ∧ SetT w h' s.heap.objs.size ys ∧ (∀ b o, b < s.heap.objs.size → s.heap.get? b = some o → h'.get? b = some o)) E)
        PySem.F.called_set.init.plain PySem.F.entry_set_init (check_set_init_1 hT ?_)) fun r₂ s₂ hr₂ => ?_
      · refine hinit (wants (fun r s₂ => r = .none ∧ ∃ h' tk, s₂ = { s with heap := h', toks := tk } ∧ SetT w h' s.heap.objs.size ys ∧ (∀ b o, b < s.heap.objs.size → s.heap.get? b = some o → h'.get? b = some o)) E) ?_
        exact fun h' tk a1 a2 => ⟨rfl, h', tk, rfl, a1, a2⟩
      · cases r₂ with
        | error e => exact hr₂
        | ok fl₂ =>
          cases fl₂ with
          | ret r =>
            obtain ⟨rfl, h', tk, rfl, b1, b2⟩ := hr₂
            repeat (any_goals (first | assumption | wp_step))
            exact h _ _ b1 b2
          | _ => exact hr₂.elim
    | _ => exact hr.elim
end
end L2
namespace L2
open PySem PySem.Spec PyProof.Rows PySem.GX
section
variable {prog : Program} {w : World} {A : Around} {E : Value → Shared → Prop} {s : Shared}
theorem init_str {x : Str} {t : Tok} (hh : A.handled = none) (hz : x.length + 1 < scanBound) (R : Result → Shared → Prop)
    (hR : ∀ h' tk, SetT w h' s.heap.objs.size (setFold (x.cps.toList.map fun c => ⟨#[c]⟩)) → (∀ b o, b < s.heap.objs.size → s.heap.get? b = some o → h'.get? b = some o) → R (.ok (.ret .none)) { s with heap := h', toks := tk }) :
    wpAny (model prog w) A.in1.in1 (Builtin.«set.__init__» ⟨[.ref s.heap.objs.size, .str x t], []⟩) (fun fin s' => match fin with | .done f => R (.ok f) s' | .again c => c.quiet = true ∧ codeAny (model prog w) A.in1 c R s')
      (fun e s' => R (.error e) s') { s with heap := s.heap.push (newSet w) } := by
  have hS : (s.heap.push (newSet w)).get? s.heap.objs.size = some (newSet w) := Heap.get?_push_size _ rfl
  have y1 := sub_str_set
  have y2 := sub_str_frozenset
  have y3 : (Value.type "str" == Value.type "dict") = false := by decide
  have hT0 : Shared.TypeIs { s with heap := s.heap.push (newSet w) } (.str x t) "str" := typeIs_str _ _ _
  unfold Builtin.«set.__init__» noKeywords Builtin.Frozenset.updateFrom
  generalize hPI : pyIter = PI
  wp_walk
  subst hPI
  refine wpAny_pyIter_str (s := { s with heap := s.heap.push (newSet w) }) (fun o St W hst => ?_)
  refine wpAny_bind (wpAny_runValue ?_)
  have z1 : (s.heap.push (newSet w)).objs.size = s.heap.objs.size + 1 := Heap.size_push _ _
  have hSf : s.heap.objs.size ∉ [(s.heap.push (newSet w)).objs.size] := by
    rw [z1]
    simp only [List.mem_singleton]
    omega
  have hsz : (x.cps.toList.map fun c => (⟨#[c]⟩ : Str)).length = x.cps.size := by
    rw [List.length_map, Array.length_toList]
  refine loopT ((W A.in1.in1.in1 (by simp [hh])).toS) s.heap.objs.size hSf (x.cps.toList.map fun c => ⟨#[c]⟩) hsz hz (fun i v hv => ?_) (x.cps.size - 0) 0 _ (by omega) (Nat.zero_le _) hst ?_ ?_
  · obtain ⟨c, u, hc, rfl⟩ := hv
    exact ⟨_, u, by rw [List.getElem?_map, Array.getElem?_toList, hc]; rfl, rfl⟩
  · exact (setT_fresh w).at fun u e => Heap.get?_push_of_some _ e
  · intro s' hm hS'
    obtain ⟨h', g', d', tk', os'⟩ := s'
    have eg : g' = s.gens := hm.gens
    have ed : d' = s.drawn := hm.drawn
    have eo : os' = s.os := hm.os
    subst eg; subst ed; subst eo
    show wpAny _ _ _ _ _ _
    refine wpAny_pure ?_
    show wpAny _ _ (ret Value.none) _ _ _
    refine wpAny_pure (hR h' tk' hS' fun b u hb e => ?_)
    refine hm.heap b u (fun hmem => ?_) (Heap.get?_push_of_some _ (Heap.get?_push_of_some _ e))
    rcases List.mem_cons.mp hmem with q | q
    · exact absurd (q ▸ hb) (Nat.lt_irrefl _)
    · have q2 := List.mem_singleton.mp q
      rw [z1] at q2
      exact absurd (Nat.lt_succ_of_lt (q2 ▸ hb)) (Nat.lt_irrefl _)
theorem init_list {l : Addr} {items : Array Value} {xs : List Str} (hh : A.handled = none) (hl : s.heap.IsList l items) (hi : PyProof.Rows.StrsAre items.toList xs) (hz : xs.length + 1 < scanBound) (R : Result → Shared → Prop)
    (hR : ∀ h' tk, SetT w h' s.heap.objs.size (setFold xs) → (∀ b o, b < s.heap.objs.size → s.heap.get? b = some o → h'.get? b = some o) → R (.ok (.ret .none)) { s with heap := h', toks := tk }) :
    wpAny (model prog w) A.in1.in1 (Builtin.«set.__init__» ⟨[.ref s.heap.objs.size, .ref l], []⟩) (fun fin s' => match fin with | .done f => R (.ok f) s' | .again c => c.quiet = true ∧ codeAny (model prog w) A.in1 c R s')
      (fun e s' => R (.error e) s') { s with heap := s.heap.push (newSet w) } := by
  have hS : (s.heap.push (newSet w)).get? s.heap.objs.size = some (newSet w) := Heap.get?_push_size _ rfl
  obtain ⟨ol, hol, hcl, nl, hdl⟩ := hl
  obtain ⟨ocls, odict, odata, oslots⟩ := ol
  simp only at hcl hdl
  subst hcl; subst hdl
  have hol1 : (s.heap.push (newSet w)).get? l = some { cls := .type "list", dict := odict, data := .seq items nl, slots := oslots } := Heap.get?_push_of_some _ hol
  have y1 := F.sub_list_set
  have y2 := F.sub_list_frozenset
  have y3 : (Value.type "list" == Value.type "dict") = false := by decide
  have hl1 : (s.heap.push (newSet w)).IsList l items := ⟨_, hol1, rfl, nl, rfl⟩
  unfold Builtin.«set.__init__» noKeywords Builtin.Frozenset.updateFrom
  generalize hPI : pyIter = PI
  wp_walk
  subst hPI
  refine wpAny_pyIter_list hl1 ?_
  refine wpAny_bind (wpAny_runValue ?_)
  have z1 : (s.heap.push (newSet w)).objs.size = s.heap.objs.size + 1 := Heap.size_push _ _
  have hlS : l < s.heap.objs.size := Heap.lt_size hol
  have hneI : l ≠ (s.heap.push (newSet w)).objs.size := by
    rw [z1]; exact Nat.ne_of_lt (Nat.lt_succ_of_lt hlS)
  have hSf : s.heap.objs.size ∉ [(s.heap.push (newSet w)).objs.size, l] := by
    rw [z1]
    simp only [List.mem_cons, List.mem_singleton, List.not_mem_nil, or_false, not_or]
    exact ⟨Nat.ne_of_lt (Nat.lt_succ_self _), Nat.ne_of_gt hlS⟩
  have hsz : xs.length = items.size := by
    rw [← StrsAre.len_eq hi, Array.length_toList]
  have hval : ∀ (i : Nat) (v : Value), items[i]? = some v → ∃ x t, xs[i]? = some x ∧ v = .str x t := fun i v hv => by
    have hlt : i < items.size := (Array.getElem?_eq_some_iff.mp hv).1
    obtain ⟨t, e⟩ := SS.strs_at hi i v (by rw [Array.getElem?_toList]; exact hv)
    have hx : xs[i]? = some (xs.getD i Str.empty) := by
      rw [List.getD_eq_getElem?_getD, List.getElem?_eq_getElem (by omega)]
      rfl
    exact ⟨_, t, hx, e⟩
  refine loopT ((Walks.list (A := A.in1.in1.in1) (by simp [hh]) _ l hneI items).toS) s.heap.objs.size hSf xs hsz (by omega) hval (items.size - 0) 0 _ (by omega) (Nat.zero_le _) ⟨⟨_, Heap.get?_push_size _ rfl, rfl, rfl⟩, (hl1.push _)⟩ ?_ ?_
  · exact (setT_fresh w).at fun u e => Heap.get?_push_of_some _ e
  · intro s' hm hS'
    obtain ⟨h', g', d', tk', os'⟩ := s'
    have eg : g' = s.gens := hm.gens
    have ed : d' = s.drawn := hm.drawn
    have eo : os' = s.os := hm.os
    subst eg; subst ed; subst eo
    show wpAny _ _ _ _ _ _
    refine wpAny_pure ?_
    show wpAny _ _ (ret Value.none) _ _ _
    refine wpAny_pure (hR h' tk' hS' fun b u hb e => ?_)
    refine hm.heap b u (fun hmem => ?_) (Heap.get?_push_of_some _ (Heap.get?_push_of_some _ e))
    rcases List.mem_cons.mp hmem with q | q
    · exact absurd (q ▸ hb) (Nat.lt_irrefl _)
    · have q2 := List.mem_singleton.mp q
      rw [z1] at q2
      exact absurd (Nat.lt_succ_of_lt (q2 ▸ hb)) (Nat.lt_irrefl _)
end
end L2
namespace L2
open PySem PySem.Spec PyProof.Rows PySem.GX
/-- the signs of a text, each as a text -/
def signsOf (x : Str) : List Str := x.cps.toList.map fun c => ⟨#[c]⟩
/-- the set of texts at a, its members ys -/
def SetTx (w : World) (a : Addr) (ys : List Str) : HO := .ext fun h => SetT w h a ys
theorem setTx_new {w : World} {P : Program} {H : Hp} {h : Heap} {a : Addr} {ys : List Str} (R : SetT w h a ys) : ObjOk P w H h a (SetTx w a ys) := by
  have ⟨o, _, _, _, ho, _⟩ := R
  exact ⟨R, ⟨o, ho⟩, fun h1 h2 p k => p.at k⟩
theorem strs_list : ∀ {l : List Value}, (∀ v ∈ l, ∃ k tk, v = Value.str k tk) → ∃ ss, StrsAre l ss ∧ ss = l.map (fun v => keyS (0, v))
  | [], _ => ⟨[], .nil, rfl⟩
  | v :: l, h => by
    obtain ⟨k, tk, rfl⟩ := h v List.mem_cons_self
    obtain ⟨ss, a, b⟩ := strs_list (l := l) fun u hu => h u (List.mem_cons_of_mem _ hu)
    exact ⟨k :: ss, .cons k tk a, by rw [b]; rfl⟩
section
variable {P : Program} {w : World} {A : Around} {E : Value → Shared → Prop} {s : Shared} {a : Addr} {ys : List Str}
theorem sorted_setT {Q : Value → Shared → Prop} (R : SetT w s.heap a ys) (hh : A.handled = none)
    (hQ : ∀ s' p (out : Array Value) (c : Nat) (zs : List Str), (∀ b o, s.heap.get? b = some o → s'.heap.get? b = some o) → s'.gens = s.gens → s'.os = s.os → s.heap.objs.size ≤ p →
      s'.heap.get? p = some (seqObj "list" out c) → StrsAre out.toList zs → zs.Perm ys → sortedS zs = true → Q (.ref p) s') :
    wpAny (model P w) A (call (.builtin "sorted") [.ref a]) Q E s := by
  obtain ⟨o, es, ep, t, ho, hex, hd, g, pm0, nd, hb, hf, hr, hl⟩ := R
  refine Calls.call_function_entry kind_sorted plain_sorted entry_sorted (args_sorted1 _) ?_
  unfold Builtin.«sorted»
  refine wpAny_bind (m := checkCount "sorted" 1 1 _) (wpAny_pure ?_)
  refine wpAny_bind (collect_set (A := A.in1) hh ⟨o, ho, hex.1, hd⟩ hf hb hr hl fun s1 vs k1 hz g1 o1 pm => ?_)
  have hvl : vs.length = es.size := by
    rw [pm.length_eq, List.length_map, Array.length_toList]
  obtain ⟨ss, hS, hss⟩ := strs_list (l := vs) fun v hv => by
    obtain ⟨e, he, q⟩ := List.mem_map.mp (pm.mem_iff.mp hv)
    obtain ⟨k, tk, h1, _⟩ := g e he
    exact ⟨k, tk, by rw [← q]; exact h1⟩
  have ps : ss.Perm ys := by
    have q := pm.map (fun v => keyS (0, v))
    rw [List.map_map, ← hss] at q
    exact q.trans pm0
  have small : vs.length ≤ sizeLine := by
    rw [hvl]
    exact fits_of_scanBound hb
  refine wpAny_bind (wpAny_newList ?_ small)
  have hoL : (s1.heap.push (seqObj "list" vs.toArray 0)).get? s1.heap.objs.size = some (seqObj "list" vs.toArray 0) := Heap.get?_push_size _ rfl
  refine wpAny_bind (wpAny_holding (wpAny_call_entry slot_list_sort ⟨_, hoL, rfl⟩ entry_list_sort
    (list_sort_treeKAny PyProof.Rows.strKind_oneLt hoL hS.keysOf (fun v₁ v₂ rest e => keyKind_strs (by rw [← e]; exact hS)) small fun st' a1 a2 => ⟨_, rfl, ?_⟩) (args_list_sort _)))
  obtain ⟨zs, h1, h2, h3⟩ := sorted_out_str hS a1 a2
  obtain ⟨c, hc⟩ := sortedHeap_at (vs := vs) (out := (arrOf st').map (·.2)) hoL
  refine wpAny_pure ⟨_, rfl, hQ _ s1.heap.objs.size _ c zs (fun b u e => ?_) g1 o1 hz hc h1 (h2.trans ps) h3⟩
  have q := k1 b u e
  have hlt := Heap.lt_size q
  show (sortedHeap (s1.heap.push (seqObj "list" vs.toArray 0)) s1.heap.objs.size vs _).get? b = some u
  rw [sortedHeap_old (Nat.ne_of_lt hlt) (by rw [size_push']; exact Nat.lt_succ_of_lt hlt)]
  exact Heap.get?_push_of_some _ q
end
section
variable {X : Cx}
/-- set(text) -/
def rSetS (w : World) : List V → Hp → VK → Prop := fun xs H Q => ∃ x : Str, xs = [.str x] ∧ x.length < 4000 ∧ ∀ p, H p = none → Q (.ref p) (upd H p (SetTx w p (setFold (signsOf x))))
theorem cr_setS (hc : X.calm = true) : CallR X (.type "set") (rSetS X.w) := by
  intro pins s σ H xs us Q I r h
  obtain ⟨x, rfl, hz, q⟩ := h
  obtain ⟨u, rfl, t, rfl⟩ := vals1 r
  refine call_set1 (ys := setFold (signsOf x)) (fun R hR => init_str (I.ok.hd hc) (by unfold scanBound; omega) R hR) fun h' tk hS k => ?_
  exact ⟨.ref _, upd H s.heap.objs.size (SetTx X.w s.heap.objs.size (setFold (signsOf x))), I.laid (t' := tk) (fun b u e => k b u (Heap.lt_size e) e) (Nat.le_refl _) (setTx_new hS), rfl, q _ (I.hok.fresh (Nat.le_refl _))⟩
/-- set(list of texts) -/
def rSetTxL (K : PySem.W.Frag) (w : World) : List V → Hp → VK → Prop := fun vs H Q => ∃ (l : Addr) (xs : List Str), vs = [.ref l] ∧ SqL K H l (xs.map V.str) ∧ xs.length < 4000 ∧ ∀ p, H p = none → Q (.ref p) (upd H p (SetTx w p (setFold xs)))
theorem cr_setL (hc : X.calm = true) : CallR X (.type "set") (rSetTxL X.K X.w) := by
  intro pins s σ H vs us Q I r h
  obtain ⟨l, xs, rfl, hq, hz, q⟩ := h
  obtain ⟨its, rv, pl, _⟩ := I.list hq
  rw [Vals.ref1 r]
  refine call_set1 (ys := setFold xs) (fun R hR => init_list (I.ok.hd hc) pl.isList (by simpa using strsAre_of rv) (by unfold scanBound; omega) R hR) fun h' tk hS k => ?_
  exact ⟨.ref _, upd H s.heap.objs.size (SetTx X.w s.heap.objs.size (setFold xs)), I.laid (t' := tk) (fun b u e => k b u (Heap.lt_size e) e) (Nat.le_refl _) (setTx_new hS), rfl, q _ (I.hok.fresh (Nat.le_refl _))⟩
/-- len(set of texts) -/
def rLenSet (w : World) : List V → Hp → VK → Prop := fun vs H Q => ∃ (a : Addr) (ys : List Str), vs = [.ref a] ∧ H a = some (SetTx w a ys) ∧ Q (.int ys.length) H
theorem cr_lenSet : CallR X (.builtin "len") (rLenSet X.w) := by
  intro pins s σ H vs us Q I r h
  obtain ⟨a, ys, rfl, ha, q⟩ := h
  rw [Vals.ref1 r]
  obtain ⟨o, es, ep, t, ho, hex, hd, g, pm0, nd, hb, hf, hr, hl⟩ := (I.hok a _ ha).1
  have hn : es.size = ys.length := by
    rw [← pm0.length_eq, List.length_map, Array.length_toList]
  refine call_len_set ho hex hd hf (by unfold scanBound at hb; omega) ⟨.int ys.length, H, I.tok _, ⟨_, by rw [hn]⟩, q⟩
/-- sorted(set of texts) -/
def rSortedTx (w : World) : List V → Hp → VK → Prop := fun vs H Q => ∃ (a : Addr) (ys : List Str), vs = [.ref a] ∧ H a = some (SetTx w a ys) ∧
  ∀ (zs : List Str) (p : Addr), zs.Perm ys → sortedS zs = true → H p = none → Q (.ref p) (upd H p (.lst (zs.map V.str)))
theorem cr_sortedTx (hc : X.calm = true) : CallR X (.builtin "sorted") (rSortedTx X.w) := by
  intro pins s σ H vs us Q I r h
  obtain ⟨a, ys, rfl, ha, q⟩ := h
  rw [Vals.ref1 r]
  have R : SetT X.w s.heap a ys := (I.hok a _ ha).1
  have small : ys.length ≤ sizeLine := by
    obtain ⟨o, es, ep, t, ho, hex, hd, g, pm0, nd, hb, _⟩ := R
    rw [← pm0.length_eq, List.length_map, Array.length_toList]
    exact fits_of_scanBound hb
  refine sorted_setT R (I.ok.hd hc) fun s' p out c zs k g1 o1 hp he hS pm so => ?_
  obtain ⟨h', g', d', tk', os'⟩ := s'
  have hlen : (zs.map V.str).length ≤ sizeLine := by
    rw [List.length_map, pm.length_eq]; exact small
  have J : Inv X pins σ (upd H p (.lst (zs.map V.str))) ⟨h', g', d', tk', os'⟩ := by
    have hn := I.hok.fresh hp
    have u : Un (frs X.stack) [] H (upd H p (.lst (zs.map V.str))) s.heap h' := Un.laid k hp hn
    refine I.call' (ch := []) o1 u ?_ ?_ (fun b z => absurd z (by simp))
    · exact I.hok.laid k hp ⟨hlen, out.toList, c, vals_of_strs hS, he⟩
    · have e : g' = s.gens := g1
      rw [e]; exact I.bare
  exact ⟨.ref p, _, J, rfl, q zs p pm so (I.hok.fresh hp)⟩
end
end L2
namespace L2
open PySem PySem.Spec PyProof.Rows PySem.GX
/-! a dict comprehension whose keys are tuples of ints and texts -/
section
variable {X : Cx} {pl : List (Addr × Obj)} {σ : St} {H : Hp} {s : Shared} {D t : Addr} {kvs : List (List Key × V)} {k : List Key} {v : V}
/-- the store of one turn -/
theorem dictSet_tup {Er : Value → Shared → Prop} {kv vv : Value} {Q : Unit → Shared → Prop} (room : X.A.units < cLine) (I : Inv X pl σ H s) (eD : H D = some (.dT kvs)) (et : H t = some (.tup (k.map kV))) (few : kvs.length < sizeLine)
    (rk : RelV (.ref t) kv) (rv : RelV v vv) (go : ∀ s', Inv X pl σ (upd H D (.dT (putK kvs k v))) s' → Q () s') : wpAny (model X.prog X.w) X.A (dictSet D kv vv) Q Er s := by
  have ekv : kv = Value.ref t := rk
  subst ekv
  obtain ⟨len0, nosys, xs, rel, dict⟩ := dt_of I.hok eD
  have len1 : xs.length ≤ sizeLine := by
    rw [← Paired.length rel]
    exact len0
  have len2 : (putK kvs k v).length ≤ sizeLine := by
    have grows := length_putK kvs k v
    omega
  have hroom : (tupleKind (mixKind X.prog X.w)).room X.A := room
  refine wpAny_dictSet_heap (hsz := len1) hroom (key_of I.hok et) dict fun h' dict' same => go _ ?_
  obtain ⟨o, es, ep, ho, c1, c2, c3, _, c4⟩ := dict'
  refine d_write I (by rw [eD]; trivial) same ⟨o, ho⟩ ⟨len2, nosys, _, (rel.put k et rv).keeps fun c ys ec => ?_, o, es, ep, ho, c1, c2, c3, c4⟩
  rw [upd_ne (ne_of ec eD (fun z => nomatch z))]
  exact ec
end
/-- {(..): v for target in iter if ..}: D is the new dict -/
def tDcT (wi : TI) (g : TG) (tt : TT) (tk tv : TE) (vs : List Nat) : TE := fun σ H Q => wi σ H fun J H1 => ∀ D, H1 D = none → ∃ W : Nat → Nat → Hp → Prop, (∃ m, W 0 m (upd H1 D (.dT []))) ∧ ∀ i m H, W i m H →
  (J.stop i H ∧ Q (.ref D) H) ∨ (J.go i H ∧ ∃ On : Hp → Prop, (∀ H', On H' → ∃ m', m' < m ∧ W (i + 1) m' H') ∧ ∀ x H', J.yld i H x H' → g x (wipe σ vs) H' fun σ2 H2 => wipe σ2 vs = wipe σ vs ∧ tt σ2 H2 fun b H3 =>
    if b = true then tk σ2 H3 fun y H4 => tv σ2 H4 fun z H5 => ∃ kvs k t, y = .ref t ∧ H5 t = some (.tup (k.map kV)) ∧ H5 D = some (.dT kvs) ∧ kvs.length < sizeLine ∧ On (upd H5 D (.dT (putK kvs k z))) else On H3)
section
variable {X : Cx} {kx vx tg iter : Expr} {ifs : List Expr} {scope : Scope} {own : List (Str × Nat)} {pos : Pos} {wi : TI} {g : TG} {tt : TT} {tk tv : TE}
theorem pe_dcT (hr : X.A.units + 64 < cLine) (calm : X.calm = true) (hN : X.N.Nodup) (hi : PI X tg iter wi) (ok : BlkOk X.N X.env.scope scope own)
    (hg : ∀ (s : Shared) (H : Hp) (C : Addr) (cl : List (Str × Addr)) (fp : List Addr), PG (X.blk s H scope (compEnvC scope cl C X.env) fp) tg g)
    (ht : ∀ (s : Shared) (H : Hp) (C : Addr) (cl : List (Str × Addr)) (fp : List Addr), PTs (X.blk s H scope (compEnvC scope cl C X.env) fp) ifs tt)
    (hk : ∀ (s : Shared) (H : Hp) (C : Addr) (cl : List (Str × Addr)) (fp : List Addr), PE (X.blk s H scope (compEnvC scope cl C X.env) fp) kx tk)
    (hv : ∀ (s : Shared) (H : Hp) (C : Addr) (cl : List (Str × Addr)) (fp : List Addr), PE (X.blk s H scope (compEnvC scope cl C X.env) fp) vx tv)
    (hs : ∀ x, foldedSetIterable iter X.env x = pure x := by intro _; rfl) :
    PE X (.DictComp kx vx [⟨tg, iter, ifs, 0⟩] scope pos) (tDcT wi g tt tk tv (own.map (·.2))) := by
  refine ⟨fun pl s σ H Q I h => ?_⟩
  rw [arm_eval_DictComp]
  have frees : ∀ y ∈ scope.names, y.2 = .free → ∃ c, X.env.cells.lookup y.1 = some c := fun y hy e => by
    rcases ok.free y hy e with k | k
    · exact I.ok.has _ (.inl k)
    · exact I.ok.has _ (.inr k)
  refine wpAny_comprehension_free rfl hs (closure_ok frees) ok.kind (fun y hy e => by rw [ok.uniq y hy, e]) (thn (hi.run pl s σ H _ I h) fun _ sa ha => thn ha fun _ sb hb => ?_)
  obtain ⟨it, fp, tn, J, Hb, rfl, Ib, T, tb, okb, want⟩ := hb
  refine wpAny_newObj_type (newEnv_comp ?_)
  -- the new dict
  generalize eD : sb.heap.objs.size = D
  have freeD : Hb D = none := Ib.hok.fresh (Nat.le_of_eq eD)
  obtain ⟨W, ⟨m0, begins⟩, turn⟩ := want D freeD
  generalize esc : ({ sb with heap := sb.heap.push { cls := .type "dict", data := .dict #[] } } : Shared) = sc
  have hsc : sc.heap = sb.heap.push { cls := .type "dict", data := .dict #[] } := by rw [← esc]
  have Ic : Inv X pl σ (upd Hb D (.dT [])) sc := by
    rw [← esc]
    refine Ib.laid (t' := sb.toks) (fun b o e => Heap.get?_push_of_some _ e) (Nat.le_of_eq eD) ?_
    rw [← eD]
    exact dt_empty sb.heap Ib.big
  have old : ∀ b ∈ fp, b < sb.heap.objs.size := fun b hb => by
    obtain ⟨o, e, _⟩ := T.obj _ _ tb b hb
    exact Heap.lt_size e
  have okc : ∀ b ∈ fp, FpOk X pl (upd Hb D (.dT [])) b ∧ b < sc.heap.objs.size := fun b hb => by
    have lt := old b hb
    refine ⟨⟨?_, (okb b hb).2⟩, ?_⟩
    · rw [upd_ne (by rw [← eD]; exact Nat.ne_of_lt lt)]
      exact (okb b hb).1
    · rw [hsc, Heap.size_push]
      exact Nat.lt_succ_of_lt lt
  have tc : tn 0 sc.heap := T.keep _ _ _ tb fun b _ o e => by
    rw [hsc]
    exact Heap.get?_push_of_some _ e
  -- the block
  have Id := block_start Ic ok hN okc
  have g1 := hg sc (upd Hb D (.dT [])) sc.heap.objs.size (cellsFrom (sc.heap.objs.size + 1) scope.names (cloFrom X.env.cells scope.names [])) fp
  have g2 := ht sc (upd Hb D (.dT [])) sc.heap.objs.size (cellsFrom (sc.heap.objs.size + 1) scope.names (cloFrom X.env.cells scope.names [])) fp
  have g3 := hk sc (upd Hb D (.dT [])) sc.heap.objs.size (cellsFrom (sc.heap.objs.size + 1) scope.names (cloFrom X.env.cells scope.names [])) fp
  have g4 := hv sc (upd Hb D (.dT [])) sc.heap.objs.size (cellsFrom (sc.heap.objs.size + 1) scope.names (cloFrom X.env.cells scope.names [])) fp
  show codeAny _ _ (.compStart (.DictComp kx vx [⟨tg, iter, ifs, 0⟩] scope pos) 0 (.ref it) (.ref D) (compEnvC scope (cellsFrom (sc.heap.objs.size + 1) scope.names (cloFrom X.env.cells scope.names [])) sc.heap.objs.size X.env)) _
    { sc with heap := pushCells (sc.heap.push { cls := .type "dict", data := .dict #[] }) scope.names }
  have hid : ∀ b ∈ fp, (upd Hb D (.dT [])) b = none := fun b hb => (okc b hb).1.1
  generalize eenv : compEnvC scope (cellsFrom (sc.heap.objs.size + 1) scope.names (cloFrom X.env.cells scope.names [])) sc.heap.objs.size X.env = env at Id g1 g2 g3 g4 ⊢
  have eloc : env.locals = sc.heap.objs.size := by subst eenv; rfl
  generalize eHc : upd Hb D (.dT []) = Hc at Ic Id g1 g2 g3 g4 begins hid okc
  generalize esd : ({ sc with heap := pushCells (sc.heap.push { cls := .type "dict", data := .dict #[] }) scope.names } : Shared) = sd at Id ⊢
  have td : tn 0 sd.heap := T.keep _ _ _ tc fun b _ o e => by
    rw [← esd]
    exact pushCells_keeps _ _ _ _ (Heap.get?_push_of_some _ e)
  have fpOk : ∀ {σ' : St} {H' : Hp} {s' : Shared}, Inv (X.blk sc Hc scope env fp) [] σ' H' s' → (∀ b ∈ fp, H' b = none) → ∀ b ∈ fp, FpOk (X.blk sc Hc scope env fp) [] H' b := fun {σ' H' s'} I' free b hb => by
    refine ⟨free b hb, (I'.ok.exf b hb).1, I'.ok.exfs b hb, .inl hb, fun x c e => (I'.ok.exf b hb).2 x c e, fun p hp => ?_⟩
    exact absurd (show p ∈ ([] : List (Addr × Obj)) ++ [] from hp) (by simp)
  refine codeAny_compStart_dict ?lp (T.self X.A 0 _ _ _ td ?lp)
  refine compLoop_anyD (fun n s' => ∃ i H', Inv (X.blk sc Hc scope env fp) [] (wipe σ (own.map (·.2))) H' s' ∧ tn i s'.heap ∧ (∀ b ∈ fp, H' b = none) ∧ W i n H') ?_ m0 ⟨0, Hc, Id, td, hid, begins⟩
  rintro n se ⟨i, He, Ie, te, free, at_⟩
  rcases turn i n He at_ with ⟨stop, wish⟩ | ⟨goes, On, next, step⟩
  · refine thnF (T.done (X.blk sc Hc scope env fp) rfl rfl rfl calm i [] se _ He (fun _ _ => False) Ie (fpOk Ie free) te stop) fun r sf ⟨hr, If⟩ => ?_
    subst hr
    have back : Inv X pl σ He sf := Ic.call' (ch := fp) If.os If.base If.hok If.bare fun b hb => ⟨(okc b hb).1.2.2.2.1, (okc b hb).1.2.1, (okc b hb).1.2.2.2.2.1, (okc b hb).1.2.2.2.2.2⟩
    have noC : He sc.heap.objs.size = none := by
      have z : He env.locals = none := If.free
      rw [eloc] at z
      exact z
    obtain ⟨m, hn, _⟩ := If.loc
    have hn' : sf.heap.Ns env.locals m := hn
    rw [eloc] at hn'
    obtain ⟨f0, f1, f2, f3, f4, f5⟩ := Ic.fpOk (Nat.le_refl _) noC
    exact ⟨m, hn', fun h'' sb' => ⟨.ref D, He, back.turned (t' := sf.toks) (fun b o hb e => (sb'.2 b hb).trans e) f0 f1 f3 f4 f5, rfl, wish⟩⟩
  · refine thnF (T.item (X.blk sc Hc scope env fp) rfl rfl rfl calm i [] se _ He (fun _ _ => False) Ie (fpOk Ie free) te goes) fun r sf ⟨u, hr, hf⟩ => ?_
    subst hr
    refine thnF hf fun _ sg ⟨x, Hg, Ig, rg, yg, tg', freeg⟩ => ?_
    have pinned := Ig.pinned (fpOk Ig freeg) (T.obj _ _ tg')
    refine thnF (g1.run _ sg _ Hg x u _ pinned rg (step x Hg yg)) fun _ sh ⟨σh, Hh, Ih, wh, qh⟩ => ?_
    refine thnF (g2.run _ sh σh Hh _ Ih qh) fun b si ⟨Hi, Ii, qi⟩ => ?_
    have ends : ∀ {s' : Shared} {H' : Hp}, Inv (X.blk sc Hc scope env fp) ([] ++ pinsAt fp sg.heap) σh H' s' → On H' →
        ∃ m, m < n ∧ ∃ i H', Inv (X.blk sc Hc scope env fp) [] (wipe σ (own.map (·.2))) H' s' ∧ tn i s'.heap ∧ (∀ b ∈ fp, H' b = none) ∧ W i m H' := fun {s' H'} I' on => by
      obtain ⟨m', lt, at'⟩ := next H' on
      have kept : ∀ b ∈ fp, ∀ o, sg.heap.get? b = some o → s'.heap.get? b = some o ∧ H' b = none := fun b hb o e => by
        have z := I'.pin (b, o) (List.mem_append_right _ (List.mem_append_right _ (mem_pinsAt hb e)))
        exact ⟨z.1, z.2.1⟩
      have len : (wipe σ (own.map (·.2))).length = σh.length := by
        rw [← wh, wipe_length]
      refine ⟨m', lt, i + 1, H', (I'.unpinned (pins := [])).weak len (fun j y e => ?_), T.keep _ _ _ tg' fun b hb o e => (kept b hb o e).1, fun b hb => ?_, at'⟩
      · rw [← wh] at e
        exact (wipe_some e).1
      · obtain ⟨o, e, _⟩ := T.obj _ _ tg' b hb
        exact (kept b hb o e).2
    cases b with
    | false =>
      simp only [Bool.false_eq_true, if_false] at qi ⊢
      exact ends Ii qi
    | true =>
      simp only [if_true] at qi ⊢
      refine thnF (g3.run _ si σh Hi _ Ii qi) fun _ sj ⟨yk, Hj, Ij, rj, qj⟩ => ?_
      refine thnF (g4.run _ sj σh Hj _ Ij qj) fun _ sk ⟨yv, Hk, Ik, rk, kvs, k, t, ek, et, eDk, few, on⟩ => ?_
      subst ek
      exact dictSet_tup (X := X.blk sc Hc scope env fp) (by show X.A.units < cLine; omega) Ik eDk et few rj rk fun _ Il => ends Il on
end
end L2
namespace L2
open PySem PySem.Spec PyProof.Rows PySem.GX
theorem same_new {H : Hp} {p : Addr} {o : HO} (h : H p = none) : Same H (upd H p o) := fun b u e => by
  rw [upd_ne (ne_of_none e h)]
  exact e
theorem keep1 {H : Hp} {q t : Addr} {o u : HO} (e : H t = some u) (h : H q = none) : upd H q o t = some u := by
  rw [upd_ne (ne_of_none e h)]
  exact e
section
variable {J : It} {n : Nat} {G : Hp → Prop} {Y : Nat → Hp → V → Hp → Prop} {g : TG} {tt : TT} {te : TE} {vs : List Nat} {σ : St} {H1 : Hp} {D : Addr} {Qd : Hp → Prop}
theorem same_del {H H' : Hp} {p : Addr} (s : Same H H') : Same (del H p) (del H' p) := fun b o e => by
  by_cases hb : b = p
  · rw [hb, del_same] at e; cases e
  · rw [del_ne hb] at e ⊢
    exact s b o e
theorem del_upd (H : Hp) (p : Addr) (o : HO) : del (upd H p o) p = del H p := by
  funext b
  by_cases hb : b = p
  · rw [hb, del_same, del_same]
  · rw [del_ne hb, del_ne hb, upd_ne hb]
theorem del_none {H : Hp} {p : Addr} (h : H p = none) : del H p = H := by
  funext b
  by_cases hb : b = p
  · rw [hb, del_same, h]
  · rw [del_ne hb]
/-- what the turn asks of the new list -/
def lcK (I : List V → Hp → Prop) (H1 : Hp) (D : Addr) (Nx : Hp → Prop) (ys : List V) : Option V → Hp → Prop
  | some y, H4 => ∃ acc, H4 D = some (.lst acc) ∧ acc.length < sizeLine ∧ Nx (upd H4 D (.lst (acc ++ [y])))
  | none, H4 => Nx H4
/-- [e for x in .. if t]: I says of the items so far and of the other objects what stays true -/
theorem lcR (w : Walk J n G Y) (I : Nat → List V → Hp → Prop) (st : ∀ i ys H H', Same H H' → I i ys H → I i ys H') (i0 : I 0 [] H1) (hz : n ≤ 16000000) (hD : H1 D = none) (hY : ∀ i H x H', Y i H x H' → Same H H') (hG : ∀ H', Same H1 H' → G H')
    (turn : ∀ (i : Nat) (x : V) (ys : List V) (H' H'' : Hp) (k : Option V → Hp → Prop), i < n → Same H1 H' → H' D = some (.lst ys) → I i ys (del H' D) → Y i H' x H'' → (∀ y H4, Same H'' H4 → I (i + 1) (ys ++ [y]) (del H4 D) → k (some y) H4) →
      (∀ H4, Same H'' H4 → I (i + 1) ys (del H4 D) → k none H4) → g x (wipe σ vs) H'' fun σ2 H2 => wipe σ2 vs = wipe σ vs ∧ tt σ2 H2 fun b H3 => if b = true then te σ2 H3 fun y H4 => k (some y) H4 else k none H3)
    (hd : ∀ ys H', ys.length ≤ n → Same H1 H' → H' D = some (.lst ys) → I n ys (del H' D) → Qd H') :
    ∃ W : Nat → Nat → Hp → Prop, (∃ m, W 0 m (upd H1 D (.lst []))) ∧ ∀ i m H, W i m H →
      (J.stop i H ∧ Qd H) ∨ (J.go i H ∧ ∃ Nx : Hp → Prop, (∀ H', Nx H' → ∃ m', m' < m ∧ W (i + 1) m' H') ∧ ∀ x H', J.yld i H x H' → g x (wipe σ vs) H' fun σ2 H2 => wipe σ2 vs = wipe σ vs ∧ tt σ2 H2 fun b H3 =>
        if b = true then te σ2 H3 fun y H4 => ∃ acc, H4 D = some (.lst acc) ∧ acc.length < sizeLine ∧ Nx (upd H4 D (.lst (acc ++ [y]))) else Nx H3) := by
  refine lc_it w (fun i H' => ∃ ys : List V, ys.length ≤ i ∧ Same H1 H' ∧ H' D = some (.lst ys) ∧ I i ys (del H' D)) ⟨[], Nat.le_refl _, same_new hD, upd_same, by rw [del_upd, del_none hD]; exact i0⟩ (fun i H' _ ⟨_, _, s, _⟩ => hG H' s) (fun i x H' H'' hi h hy => ?_) (fun H' ⟨ys, l, s, e, h⟩ => hd ys H' l s e h)
  obtain ⟨ys, l, s, e, h⟩ := h
  have sy := hY _ _ _ _ hy
  refine turn i x ys H' H'' (lcK (I i) H1 D _ ys) hi s e h hy (fun y H4 s4 h4 => ?_) (fun H4 s4 h4 => ?_)
  · have e4 := s4 _ _ (sy _ _ e)
    refine ⟨_, e4, by rw [sizeLine_eq]; omega, _, ?_, fun b o z => ?_, upd_same, by rw [del_upd]; exact h4⟩
    · rw [List.length_append]; simp; omega
    · rw [upd_ne (ne_of_none z hD)]
      exact s4 _ _ (sy _ _ (s b o z))
  · exact ⟨ys, by omega, (s.trans sy).trans s4, s4 _ _ (sy _ _ e), h4⟩
/-- [e for x in .. if t]: the i-th item is taken (as f i says) or not; what was tracked stays -/
theorem lcS (w : Walk J n G Y) (f : Nat → Option V) (hz : n ≤ 16000000) (hD : H1 D = none) (hY : ∀ i H x H', Y i H x H' → Same H H') (hG : ∀ H', Same H1 H' → G H')
    (turn : ∀ (i : Nat) (x : V) (H' H'' : Hp) (k : Option V → Hp → Prop), i < n → Same H1 H' → Y i H' x H'' → (∀ H4, Same H'' H4 → k (f i) H4) →
      g x (wipe σ vs) H'' fun σ2 H2 => wipe σ2 vs = wipe σ vs ∧ tt σ2 H2 fun b H3 => if b = true then te σ2 H3 fun y H4 => k (some y) H4 else k none H3)
    (hd : ∀ H', Same H1 H' → H' D = some (.lst ((List.range n).filterMap f)) → Qd H') :
    ∃ W : Nat → Nat → Hp → Prop, (∃ m, W 0 m (upd H1 D (.lst []))) ∧ ∀ i m H, W i m H →
      (J.stop i H ∧ Qd H) ∨ (J.go i H ∧ ∃ Nx : Hp → Prop, (∀ H', Nx H' → ∃ m', m' < m ∧ W (i + 1) m' H') ∧ ∀ x H', J.yld i H x H' → g x (wipe σ vs) H' fun σ2 H2 => wipe σ2 vs = wipe σ vs ∧ tt σ2 H2 fun b H3 =>
        if b = true then te σ2 H3 fun y H4 => ∃ acc, H4 D = some (.lst acc) ∧ acc.length < sizeLine ∧ Nx (upd H4 D (.lst (acc ++ [y]))) else Nx H3) := by
  refine lcR w (fun i ys _ => ys = (List.range i).filterMap f) (fun _ _ _ _ _ h => h) rfl hz hD hY hG (fun i x ys H' H'' k hi s e h hy k1 k2 => ?_) (fun ys H' _ s e h => hd H' s (by rw [e, h]))
  refine turn i x H' H'' k hi s hy fun H4 s4 => ?_
  cases ef : f i with
  | some y =>
    refine k1 y H4 s4 ?_
    rw [h, List.range_succ, List.filterMap_append]
    simp [ef]
  | none =>
    refine k2 H4 s4 ?_
    rw [h, List.range_succ, List.filterMap_append]
    simp [ef]
end
section
variable {X : Cx} {o : Expr} {to : TE} {f : Str} {pos : Pos}
/-- the target o.f of an own instance -/
def gFld (K : PySem.W.Frag) (to : TE) (f : Str) : TG := fun v σ H Q => to σ H fun x H1 => ∃ (p C dx : Addr) (fs : List (Str × V)), x = .ref p ∧ H1 p = some (.ins C dx fs) ∧ Cls K C ∧ NoAttr K C f ∧ fs.length < 1000 ∧ Q σ (upd H1 p (.ins C dx (putF f v fs)))
theorem pg_fld (ho : PE X o to) : PG X (.Attribute o f pos) (gFld X.K to f) := by
  refine ⟨fun pl s σ H v u Q I r h => ?_⟩
  rw [arm_assign_Attribute]
  refine wpAny_bind (wpAny_holding (thn (ho.run pl s σ H _ I h) fun ov s1 ⟨x, H1, I1, r1, p, C, dx, fs, ex, ep, c, n, l, q⟩ => ?_))
  subst ex
  obtain rfl : ov = Value.ref p := r1
  refine wpAny_bind (wpAny_standAt (wpAny_bind (wpAny_holding (setattr_ok I1 ep c n l r fun s3 I3 => ?_))))
  exact wpAny_release ⟨σ, _, I3, q⟩
end
end L2
namespace L2
open PySem PySem.Spec PyProof.Rows PySem.GX
theorem range_fm {α β : Type} (g : α → Option β) : ∀ xs : List α, (List.range xs.length).filterMap (fun i => xs[i]?.bind g) = xs.filterMap g := by
  intro xs
  have e : (List.range xs.length).filterMap (fun i => xs[i]?) = xs := by
    induction xs with
    | nil => rfl
    | cons a t ih =>
      rw [List.length_cons, List.range_succ_eq_map, List.filterMap_cons, List.filterMap_map]
      simp only [List.getElem?_cons_zero]
      congr 1
  conv => rhs; rw [← e, List.filterMap_filterMap]
section
variable {α : Type} {J : It} {G : Hp → Prop} {Y : Nat → Hp → V → Hp → Prop} {g : TG} {tt : TT} {te tk tv : TE} {vs : List Nat} {σ : St} {H1 : Hp} {D : Addr} {Qd : Hp → Prop}
/-- [e for x in .. if t] over things that stand for the items of xs -/
theorem lcG (xs : List α) (f : α → Option V) (w : Walk J xs.length G Y) (hz : xs.length ≤ 16000000) (hD : H1 D = none) (hY : ∀ i H x H', Y i H x H' → Same H H') (hG : ∀ H', Same H1 H' → G H')
    (turn : ∀ (i : Nat) (a : α) (x : V) (H' H'' : Hp) (k : Option V → Hp → Prop), xs[i]? = some a → Same H1 H' → Y i H' x H'' → (∀ H4, Same H'' H4 → k (f a) H4) →
      g x (wipe σ vs) H'' fun σ2 H2 => wipe σ2 vs = wipe σ vs ∧ tt σ2 H2 fun b H3 => if b = true then te σ2 H3 fun y H4 => k (some y) H4 else k none H3)
    (hd : ∀ H', Same H1 H' → H' D = some (.lst (xs.filterMap f)) → Qd H') :
    ∃ W : Nat → Nat → Hp → Prop, (∃ m, W 0 m (upd H1 D (.lst []))) ∧ ∀ i m H, W i m H →
      (J.stop i H ∧ Qd H) ∨ (J.go i H ∧ ∃ Nx : Hp → Prop, (∀ H', Nx H' → ∃ m', m' < m ∧ W (i + 1) m' H') ∧ ∀ x H', J.yld i H x H' → g x (wipe σ vs) H' fun σ2 H2 => wipe σ2 vs = wipe σ vs ∧ tt σ2 H2 fun b H3 =>
        if b = true then te σ2 H3 fun y H4 => ∃ acc, H4 D = some (.lst acc) ∧ acc.length < sizeLine ∧ Nx (upd H4 D (.lst (acc ++ [y]))) else Nx H3) := by
  refine lcS w (fun i => xs[i]?.bind f) hz hD hY hG (fun i x H' H'' k hi s hy k1 => ?_) (fun H' s e => hd H' s (by rw [e, range_fm]))
  have ei : xs[i]? = some xs[i] := List.getElem?_eq_getElem hi
  refine turn i xs[i] x H' H'' k ei s hy fun H4 s4 => ?_
  have := k1 H4 s4
  rw [ei] at this
  exact this
/-- the generic walk of a dict comprehension, of either sort -/
theorem dc_it {n : Nat} (w : Walk J n G Y) {nx : Nat → Hp → Prop} {body : Nat → V → Hp → (Hp → Prop) → Prop} (h0 : nx 0 H1) (hG : ∀ i H, i ≤ n → nx i H → G H)
    (hs : ∀ i x H H', i < n → nx i H → Y i H x H' → body i x H' (nx (i + 1))) (hd : ∀ H, nx n H → Qd H) :
    ∃ W : Nat → Nat → Hp → Prop, (∃ m, W 0 m H1) ∧ ∀ i m H, W i m H →
      (J.stop i H ∧ Qd H) ∨ (J.go i H ∧ ∃ Nx : Hp → Prop, (∀ H', Nx H' → ∃ m', m' < m ∧ W (i + 1) m' H') ∧ ∀ x H', J.yld i H x H' → body i x H' Nx) := by
  refine ⟨fun i m H => m = n - i ∧ i ≤ n ∧ nx i H, ⟨n, by simp, Nat.zero_le _, h0⟩, ?_⟩
  rintro i m H ⟨rfl, hi, p⟩
  have q := hG i H hi p
  by_cases hlt : i < n
  · exact .inr ⟨w.goes i H hlt q, nx (i + 1), fun H' p' => ⟨n - (i + 1), by omega, rfl, hlt, p'⟩, fun x H' y => hs i x H H' hlt p (w.yields i H x H' hlt q y)⟩
  · have e : i = n := by omega
    subst e
    exact .inl ⟨w.stops H q, hd H p⟩
end
section
variable {α κ : Type} [DecidableEq κ]
/-- the entries of {key a: val a for a in xs} -/
def dOf (key : α → κ) (val : α → V) (xs : List α) : List (κ × V) := xs.foldl (fun kvs a => putK kvs (key a) (val a)) []
theorem dOf_snoc (key : α → κ) (val : α → V) (xs : List α) (a : α) : dOf key val (xs ++ [a]) = putK (dOf key val xs) (key a) (val a) := by
  unfold dOf
  rw [List.foldl_append]
  rfl
theorem dOf_take {key : α → κ} {val : α → V} {xs : List α} {i : Nat} {a : α} (h : xs[i]? = some a) : dOf key val (xs.take (i + 1)) = putK (dOf key val (xs.take i)) (key a) (val a) := by
  rw [List.take_add_one, h]
  exact dOf_snoc _ _ _ _
theorem dOf_len (key : α → κ) (val : α → V) (xs : List α) : (dOf key val xs).length ≤ xs.length := by
  suffices h : ∀ (ys : List α) (kvs : List (κ × V)), (ys.foldl (fun kvs a => putK kvs (key a) (val a)) kvs).length ≤ kvs.length + ys.length by
    have := h xs []
    simpa [dOf] using this
  intro ys
  induction ys with
  | nil => intro kvs; simp
  | cons a t ih =>
    intro kvs
    have h1 := ih (putK kvs (key a) (val a))
    have h2 := length_putK kvs (key a) (val a)
    rw [List.foldl_cons, List.length_cons]
    omega
theorem dOf_val (key : α → κ) (val : α → V) : ∀ (xs : List α) (k : κ), (valV (dOf key val xs) k).isSome = decide (k ∈ xs.map key) := by
  suffices h : ∀ (n : Nat) (xs : List α) (k : κ), xs.length = n → (valV (dOf key val xs) k).isSome = decide (k ∈ xs.map key) from fun xs k => h _ xs k rfl
  intro n
  induction n with
  | zero =>
    intro xs k h
    have : xs = [] := List.eq_nil_of_length_eq_zero h
    subst this
    rfl
  | succ n ih =>
    intro xs k h
    have hne : xs ≠ [] := by intro z; subst z; cases h
    obtain ⟨ys, a, rfl⟩ : ∃ ys a, xs = ys ++ [a] := ⟨xs.dropLast, xs.getLast hne, (List.dropLast_concat_getLast hne).symm⟩
    have hl : ys.length = n := by rw [List.length_append] at h; simpa using h
    rw [dOf_snoc, valV_put]
    by_cases e : k = key a
    · rw [if_pos e, e]; simp
    · rw [if_neg e, ih ys k hl, List.map_append]
      simp [e]
/-- keys that differ: the entries stand as they come -/
theorem dOf_nodup (key : α → κ) (val : α → V) : ∀ (xs : List α), (xs.map key).Nodup → dOf key val xs = xs.map fun a => (key a, val a) := by
  suffices h : ∀ (n : Nat) (xs : List α), xs.length = n → (xs.map key).Nodup → dOf key val xs = xs.map fun a => (key a, val a) from fun xs => h _ xs rfl
  intro n
  induction n with
  | zero =>
    intro xs h _
    have : xs = [] := List.eq_nil_of_length_eq_zero h
    subst this
    rfl
  | succ n ih =>
    intro xs h nd
    have hne : xs ≠ [] := by intro z; subst z; cases h
    obtain ⟨ys, a, rfl⟩ : ∃ ys a, xs = ys ++ [a] := ⟨xs.dropLast, xs.getLast hne, (List.dropLast_concat_getLast hne).symm⟩
    have hl : ys.length = n := by rw [List.length_append] at h; simpa using h
    rw [List.map_append, List.nodup_append] at nd
    have hn : valV (dOf key val ys) (key a) = none := by
      have := dOf_val key val ys (key a)
      rw [decide_eq_false (fun z => nd.2.2 _ z (key a) (by simp) rfl)] at this
      exact Option.isNone_iff_eq_none.mp (by simpa using this)
    rw [dOf_snoc, putK_new _ hn, ih ys hl nd.1, List.map_append]
    rfl
end
section
variable {α : Type} {J : It} {G : Hp → Prop} {Y : Nat → Hp → V → Hp → Prop} {g : TG} {tt : TT} {tk tv : TE} {vs : List Nat} {σ : St} {H1 : Hp} {D : Addr} {Qd : Hp → Prop}
/-- {k: v for x in ..}, keys ints or texts -/
theorem dcG (xs : List α) (key : α → Key) (val : α → V) (w : Walk J xs.length G Y) (hz : xs.length ≤ 16000000) (hD : H1 D = none) (hY : ∀ i H x H', Y i H x H' → Same H H') (hG : ∀ H', Same H1 H' → G H')
    (turn : ∀ (i : Nat) (a : α) (x : V) (H' H'' : Hp) (k : V → V → Hp → Prop) (k0 : Hp → Prop), xs[i]? = some a → Same H1 H' → Y i H' x H'' → (∀ H4, Same H'' H4 → k (kV (key a)) (val a) H4) →
      g x (wipe σ vs) H'' fun σ2 H2 => wipe σ2 vs = wipe σ vs ∧ tt σ2 H2 fun b H3 => if b = true then tk σ2 H3 fun y H4 => tv σ2 H4 fun z H5 => k y z H5 else k0 H3)
    (hd : ∀ H', Same H1 H' → H' D = some (.dK (dOf key val xs)) → Qd H') :
    ∃ W : Nat → Nat → Hp → Prop, (∃ m, W 0 m (upd H1 D (.dK []))) ∧ ∀ i m H, W i m H →
      (J.stop i H ∧ Qd H) ∨ (J.go i H ∧ ∃ Nx : Hp → Prop, (∀ H', Nx H' → ∃ m', m' < m ∧ W (i + 1) m' H') ∧ ∀ x H', J.yld i H x H' → g x (wipe σ vs) H' fun σ2 H2 => wipe σ2 vs = wipe σ vs ∧ tt σ2 H2 fun b H3 =>
        if b = true then tk σ2 H3 fun y H4 => tv σ2 H4 fun z H5 => ∃ kvs k, y = kV k ∧ H5 D = some (.dK kvs) ∧ kvs.length < sizeLine ∧ Nx (upd H5 D (.dK (putK kvs k z))) else Nx H3) := by
  refine dc_it w (nx := fun i H' => Same H1 H' ∧ H' D = some (.dK (dOf key val (xs.take i)))) (body := fun i x H' Nx => g x (wipe σ vs) H' fun σ2 H2 => wipe σ2 vs = wipe σ vs ∧ tt σ2 H2 fun b H3 =>
        if b = true then tk σ2 H3 fun y H4 => tv σ2 H4 fun z H5 => ∃ kvs k, y = kV k ∧ H5 D = some (.dK kvs) ∧ kvs.length < sizeLine ∧ Nx (upd H5 D (.dK (putK kvs k z))) else Nx H3)
    ⟨same_new hD, upd_same⟩ (fun i H _ h => hG H h.1) (fun i x H H' hi h hy => ?_) (fun H h => hd H h.1 (by rw [h.2, List.take_length]))
  have ei : xs[i]? = some xs[i] := List.getElem?_eq_getElem hi
  have sy := hY _ _ _ _ hy
  refine turn i xs[i] x H H' (fun y z H5 => ∃ kvs k, y = kV k ∧ H5 D = some (.dK kvs) ∧ kvs.length < sizeLine ∧ _) _ ei h.1 hy fun H4 s4 => ⟨_, _, rfl, s4 _ _ (sy _ _ h.2), ?_, fun b o z => ?_, ?_⟩
  · have := dOf_len key val (xs.take i)
    rw [List.length_take] at this
    rw [sizeLine_eq]
    omega
  · rw [upd_ne (ne_of_none z hD)]
    exact s4 _ _ (sy _ _ (h.1 b o z))
  · rw [upd_same, dOf_take ei]
/-- {(..): v for x in ..}, keys tuples -/
theorem dcGT (xs : List α) (key : α → List Key) (val : α → V) (w : Walk J xs.length G Y) (hz : xs.length ≤ 16000000) (hD : H1 D = none) (hY : ∀ i H x H', Y i H x H' → Same H H') (hG : ∀ H', Same H1 H' → G H')
    (turn : ∀ (i : Nat) (a : α) (x : V) (H' H'' : Hp) (k : V → V → Hp → Prop) (k0 : Hp → Prop), xs[i]? = some a → Same H1 H' → Y i H' x H'' → (∀ t H4, Same H'' H4 → H4 t = some (.tup ((key a).map kV)) → k (.ref t) (val a) H4) →
      g x (wipe σ vs) H'' fun σ2 H2 => wipe σ2 vs = wipe σ vs ∧ tt σ2 H2 fun b H3 => if b = true then tk σ2 H3 fun y H4 => tv σ2 H4 fun z H5 => k y z H5 else k0 H3)
    (hd : ∀ H', Same H1 H' → H' D = some (.dT (dOf key val xs)) → Qd H') :
    ∃ W : Nat → Nat → Hp → Prop, (∃ m, W 0 m (upd H1 D (.dT []))) ∧ ∀ i m H, W i m H →
      (J.stop i H ∧ Qd H) ∨ (J.go i H ∧ ∃ Nx : Hp → Prop, (∀ H', Nx H' → ∃ m', m' < m ∧ W (i + 1) m' H') ∧ ∀ x H', J.yld i H x H' → g x (wipe σ vs) H' fun σ2 H2 => wipe σ2 vs = wipe σ vs ∧ tt σ2 H2 fun b H3 =>
        if b = true then tk σ2 H3 fun y H4 => tv σ2 H4 fun z H5 => ∃ kvs k t, y = .ref t ∧ H5 t = some (.tup (k.map kV)) ∧ H5 D = some (.dT kvs) ∧ kvs.length < sizeLine ∧ Nx (upd H5 D (.dT (putK kvs k z))) else Nx H3) := by
  refine dc_it w (nx := fun i H' => Same H1 H' ∧ H' D = some (.dT (dOf key val (xs.take i)))) (body := fun i x H' Nx => g x (wipe σ vs) H' fun σ2 H2 => wipe σ2 vs = wipe σ vs ∧ tt σ2 H2 fun b H3 =>
        if b = true then tk σ2 H3 fun y H4 => tv σ2 H4 fun z H5 => ∃ kvs k t, y = .ref t ∧ H5 t = some (.tup (k.map kV)) ∧ H5 D = some (.dT kvs) ∧ kvs.length < sizeLine ∧ Nx (upd H5 D (.dT (putK kvs k z))) else Nx H3)
    ⟨same_new hD, upd_same⟩ (fun i H _ h => hG H h.1) (fun i x H H' hi h hy => ?_) (fun H h => hd H h.1 (by rw [h.2, List.take_length]))
  have ei : xs[i]? = some xs[i] := List.getElem?_eq_getElem hi
  have sy := hY _ _ _ _ hy
  refine turn i xs[i] x H H' (fun y z H5 => ∃ (kvs : List (List Key × V)) (k : List Key) (t : Addr), y = .ref t ∧ H5 t = some (.tup (k.map kV)) ∧ H5 D = some (.dT kvs) ∧ kvs.length < sizeLine ∧ _) _ ei h.1 hy fun t H4 s4 et => ⟨_, _, t, rfl, et, s4 _ _ (sy _ _ h.2), ?_, fun b o z => ?_, ?_⟩
  · have := dOf_len key val (xs.take i)
    rw [List.length_take] at this
    rw [sizeLine_eq]
    omega
  · rw [upd_ne (ne_of_none z hD)]
    exact s4 _ _ (sy _ _ (h.1 b o z))
  · rw [upd_same, dOf_take ei]
end
/-! lists of texts, lists of lists of texts, as data -/
abbrev dTx (ws : List Str) : PyData := .list (ws.map .str)
abbrev dTab (rs : List (List Str)) : PyData := .list (rs.map dTx)
theorem eqv_strs : ∀ a b : List Str, PyData.eqvAll (a.map .str) (b.map .str) = decide (a = b)
  | [], [] => rfl
  | [], _ :: _ => rfl
  | _ :: _, [] => rfl
  | x :: xs, y :: ys => by
    show (PyData.eqv (.str x) (.str y) && PyData.eqvAll (xs.map .str) (ys.map .str)) = _
    rw [eqv_strs xs ys]
    show ((x == y) && _) = _
    by_cases h : x = y
    · subst h; simp
    · simp [h]
theorem eqv_dTx (a b : List Str) : PyData.eqv (dTx a) (dTx b) = decide (a = b) := eqv_strs a b
theorem eqv_tabs : ∀ a b : List (List Str), PyData.eqvAll (a.map dTx) (b.map dTx) = decide (a = b)
  | [], [] => rfl
  | [], _ :: _ => rfl
  | _ :: _, [] => rfl
  | x :: xs, y :: ys => by
    show (PyData.eqv (dTx x) (dTx y) && PyData.eqvAll (xs.map dTx) (ys.map dTx)) = _
    rw [eqv_tabs xs ys, eqv_dTx]
    by_cases h : x = y
    · subst h; simp
    · simp [h]
theorem eqv_dTab (a b : List (List Str)) : PyData.eqv (dTab a) (dTab b) = decide (a = b) := eqv_tabs a b
theorem lay_strs : ∀ {a : List Str}, (∀ x ∈ a, PyData.strOk x = true) → PyData.canLayAll0 (a.map .str) = true ∧ PyData.depthAll (a.map .str) = 0
  | [], _ => ⟨rfl, rfl⟩
  | x :: xs, h => by
    have ih := lay_strs (a := xs) fun y hy => h y (List.mem_cons_of_mem _ hy)
    refine ⟨?_, ?_⟩
    · show (PyData.strOk x && PyData.canLayAll0 (xs.map .str)) = true
      rw [h x (List.mem_cons_self ..), ih.1]
      rfl
    · show max 0 (PyData.depthAll (xs.map .str)) = 0
      rw [ih.2]
      rfl
theorem shaped_dTx {a : List Str} (h : ∀ x ∈ a, PyData.strOk x = true) : SeqAt.shaped (dTx a) = true := by
  have l := lay_strs h
  have d1 : (dTx a).canLay0 = true := l.1
  have d2 : (dTx a).depth = 1 := by
    show PyData.depthAll _ + 1 = 1
    rw [l.2]
  unfold SeqAt.shaped
  rw [d1, d2]
  rfl
theorem lay_tabs : ∀ {a : List (List Str)}, (∀ r ∈ a, ∀ x ∈ r, PyData.strOk x = true) → PyData.canLayAll0 (a.map dTx) = true ∧ PyData.depthAll (a.map dTx) ≤ 1
  | [], _ => ⟨rfl, Nat.zero_le _⟩
  | r :: rs, h => by
    have ih := lay_tabs (a := rs) fun y hy => h y (List.mem_cons_of_mem _ hy)
    have l := lay_strs (h r (List.mem_cons_self ..))
    refine ⟨?_, ?_⟩
    · show (PyData.canLayAll0 (r.map .str) && PyData.canLayAll0 (rs.map dTx)) = true
      rw [l.1, ih.1]
      rfl
    · show max (PyData.depthAll (r.map .str) + 1) (PyData.depthAll (rs.map dTx)) ≤ 1
      rw [l.2]
      have := ih.2
      omega
theorem shaped_dTab {a : List (List Str)} (h : ∀ r ∈ a, ∀ x ∈ r, PyData.strOk x = true) : SeqAt.shaped (dTab a) = true := by
  have l := lay_tabs h
  have d1 : (dTab a).canLay0 = true := l.1
  have d2 : (dTab a).depth ≤ 2 := by
    show PyData.depthAll _ + 1 ≤ 2
    have := l.2
    omega
  unfold SeqAt.shaped
  rw [d1]
  simp
  omega
theorem dpStrs {K : PySem.W.Frag} {H : Hp} : ∀ ws : List Str, DpAll K H (ws.map V.str) (ws.map PyData.str)
  | [] => .nil
  | x :: xs => .cons (.str x) (dpStrs xs)
theorem dp_dTx {K : PySem.W.Frag} {H : Hp} {p : Addr} {ws : List Str} (h : H p = some (.lst (ws.map V.str))) : Dp K H (.ref p) (dTx ws) := .lst (SqL.of h) (dpStrs ws)
/-- the lists at as hold the rows -/
inductive Rw (H : Hp) : List Addr → List (List Str) → Prop
  | nil : Rw H [] []
  | cons {a : Addr} {r : List Str} {as : List Addr} {rs : List (List Str)} : H a = some (.lst (r.map V.str)) → Rw H as rs → Rw H (a :: as) (r :: rs)
theorem Rw.same {H H' : Hp} (s : Same H H') : ∀ {as : List Addr} {rs : List (List Str)}, Rw H as rs → Rw H' as rs
  | _, _, .nil => .nil
  | _, _, .cons e t => .cons (s _ _ e) (Rw.same s t)
theorem Rw.len {H : Hp} : ∀ {as : List Addr} {rs : List (List Str)}, Rw H as rs → as.length = rs.length
  | _, _, .nil => rfl
  | _, _, .cons _ t => by simp [Rw.len t]
theorem Rw.snoc {H : Hp} {a : Addr} {r : List Str} (e : H a = some (.lst (r.map V.str))) : ∀ {as : List Addr} {rs : List (List Str)}, Rw H as rs → Rw H (as ++ [a]) (rs ++ [r])
  | _, _, .nil => .cons e .nil
  | _, _, .cons e1 t => .cons e1 (Rw.snoc e t)
theorem Rw.get {H : Hp} : ∀ {as : List Addr} {rs : List (List Str)} {i : Nat} {a : Addr} {r : List Str}, Rw H as rs → as[i]? = some a → rs[i]? = some r → H a = some (.lst (r.map V.str))
  | _, _, _, _, _, .nil, e, _ => by simp at e
  | _, _, 0, _, _, .cons e _, e1, e2 => by simp at e1 e2; subst e1; subst e2; exact e
  | _, _, i + 1, a, r, .cons _ t, e1, e2 => Rw.get (i := i) t (by simpa using e1) (by simpa using e2)
theorem Rw.drop {H : Hp} : ∀ {as : List Addr} {rs : List (List Str)} (n : Nat), Rw H as rs → Rw H (as.drop n) (rs.drop n)
  | _, _, 0, t => t
  | _, _, _ + 1, .nil => .nil
  | _, _, n + 1, .cons _ t => Rw.drop n t
theorem Rw.take {H : Hp} : ∀ {as : List Addr} {rs : List (List Str)} (n : Nat), Rw H as rs → Rw H (as.take n) (rs.take n)
  | _, _, 0, _ => .nil
  | _, _, _ + 1, .nil => .nil
  | _, _, n + 1, .cons e t => .cons e (Rw.take n t)
theorem dpTabs {K : PySem.W.Frag} {H : Hp} : ∀ {as : List Addr} {rs : List (List Str)}, Rw H as rs → DpAll K H (as.map V.ref) (rs.map dTx)
  | _, _, .nil => .nil
  | _, _, .cons e t => .cons (dp_dTx e) (dpTabs t)
theorem dp_dTab {K : PySem.W.Frag} {H : Hp} {p : Addr} {as : List Addr} {rs : List (List Str)} (h : H p = some (.lst (as.map V.ref))) (t : Rw H as rs) : Dp K H (.ref p) (dTab rs) := .lst (SqL.of h) (dpTabs t)
end L2

namespace My
open PySem PySem.Spec PyProof.Rows L2
/-- the def x is there, and keeps the promise -/
structure Hv (P : Program) (w : World) (K : PySem.W.Frag) (mg : Str → Option Value) (base : Heap) (k : Nat) (x : Str) (ps : List Str) (sp : Sp) : Prop where
  ex : ∃ (f : Addr) (fd : FuncData), FnOk P w K mg base CX0 k f fd ps sp ∧ Binds K fd ps [] ∧ mg x = some (.ref f) ∧ PySem.W.keepIn K (.ref f) = true
theorem pe_cl {X : Cx} {k : Nat} {x : Str} {ps : List Str} {sp : Sp} {p pos : Pos} {e : Expr} {es : List Expr} {t : TA} {E : XK} (h : Hv X.prog X.w X.K X.mg X.base k x ps sp) (hr : Room k X.A) (hg : Gl X x) (hx : Passes CX0 X E) (ha : PA X (e :: es) t)
    (hdb : (x == ("__debug__" : Str)) = false := by decide) (he : starEach (e :: es) X.env = (false, eval e X.env) :: starEach es X.env := by rfl) (hpl : (backTo pos (starEach es X.env)).any (·.1) = false := by rfl) :
    PE X (.Call (.Name x p) (e :: es) [] pos) (tCall sp [] E t) := by
  obtain ⟨f, fd, F, b, g, kp⟩ := h.ex
  exact pe_call F hr hg g kp b .nil hx ha hdb he hpl
abbrev abc : Str := "abcdefghijklmnopqrstuvwxyz"
def madeL (x y : Str) : Bool := (x.cps.toList.map fun c => decide (c ∈ y.cps.toList)).all id
def spMade : Sp := fun vs H Q _ => ∃ x y : Str, vs = [.str x, .str y] ∧ x.length ≤ 16000000 ∧ ∀ H', Same H H' → Q (.bl (madeL x y)) H'
section
variable {P : Program} {w : World} {K : PySem.W.Frag} {mg : Str → Option Value} {base : Heap}
theorem scMade : FnScope ["text", "letters", "letter"] ["text", "letters"] (defScope sMade) := ⟨rfl, rfl, rfl, by decide +kernel, rfl, by decide +kernel, by decide +kernel⟩
theorem ok_made {f : Addr} {fd : FuncData} (F : Fun K "made_of" "made_of" sMade f fd) (hA : mg "all" = none) : FnOk P w K mg base CX0 1 f fd ["text", "letters"] spMade := by
  refine F.ok scMade (fun vs H Q E h => ?_) (fun cdv A outer s H vs Q E hr h => ?_)
  · obtain ⟨x, y, rfl, _⟩ := h
    rfl
  · obtain ⟨x, y, rfl, hx, k⟩ := h
    refine ⟨_, pss_one (ps_ret (pe_callB (cr_all rfl) (by rfl) hA (by decide +kernel) (pa_cons (pe_lc (own := [("letter", 2)]) (g := gName 2) (tt := tYes) rfl scMade.nd (pi_str (pv 0))
      (blkOk_by (N := ["text", "letters", "letter"]) (sc := defScope sMade) (by decide +kernel)) (fun _ _ _ _ _ => pg_name (i := 2) scMade.nd rfl (Or.inl rfl)) (fun _ _ _ _ _ => pts_nil) (fun _ _ _ _ _ => pe_cmpR op_in_sign (pv 2) (pv 1) (by rfl))) pa_nil))), ?_⟩
    refine ⟨_, rfl, x, rfl, fun D hD => ?_⟩
    refine lcG (x.cps.toList) (fun c => some (.bl (decide (c ∈ y.cps.toList)))) (by rw [Array.length_toList]; exact walk_str) (by rw [Array.length_toList]; exact hx) hD (fun i H x H' h => by rw [h.1]; exact Same.refl _) (fun _ _ => trivial) (fun i c z H' H'' k1 hc _ hy k2 => ?_) (fun H' s' e => ?_)
    · obtain ⟨rfl, c', hc', rfl⟩ := hy
      rw [← Array.getElem?_toList, hc] at hc'
      cases hc'
      exact ⟨rfl, _, rfl, _, rfl, c, _, rfl, rfl, k2 _ (Same.refl _)⟩
    · refine ⟨D, x.cps.toList.map fun c => decide (c ∈ y.cps.toList), rfl, SqL.of ?_, k _ s'⟩
      rw [e, List.filterMap_eq_map', List.map_map]
      rfl
end
end My
namespace My
open PySem PySem.Spec PyProof.Rows L2
/-! what the program says of texts, as plain functions -/
def isWordL (x : Str) : Bool := decide (1 ≤ x.length) && decide (x.length ≤ 8) && madeL x abc
def spWord : Sp := fun vs H Q _ => ∃ x : Str, vs = [.str x] ∧ x.length ≤ 16000000 ∧ ∀ H', Same H H' → Q (.bl (isWordL x)) H'
section
variable {P : Program} {w : World} {K : PySem.W.Frag} {mg : Str → Option Value} {base : Heap}
theorem scWord : FnScope ["text"] ["text"] (defScope sWord) := ⟨rfl, rfl, rfl, by decide +kernel, rfl, by decide +kernel, by decide +kernel⟩
theorem ok_word {f : Addr} {fd : FuncData} {tA tB : Tok} (F : Fun K "is_word" "is_word" sWord f fd) (hO : Hv P w K mg base 1 "made_of" ["text", "letters"] spMade) (hL : mg "len" = none) (gL : mg "LONGEST_WORD" = some (.int 8 tA)) (gA : mg "LETTERS" = some (.str abc tB)) : FnOk P w K mg base CX0 2 f fd ["text"] spWord := by
  refine F.ok scWord (fun vs H Q E h => ?_) (fun cdv A outer s H vs Q E hr h => ?_)
  · obtain ⟨x, rfl, _⟩ := h
    rfl
  · obtain ⟨x, rfl, hx, k⟩ := h
    refine ⟨_, pss_one (ps_ret (pe_and (pe_chain op_le op_le pe_int (pe_callB call_len_str (by rfl) hL PySem.boot_len (pa_cons (pv 0) pa_nil)) (pe_glob (v := .int 8) rfl gL ⟨_, rfl⟩)) (pe_one (pe_cl hO hr rfl pass0 (pa_cons (pv 0) (pa_cons (pe_glob (v := .str abc) rfl gA ⟨_, rfl⟩) pa_nil)))))), ?_⟩
    refine ⟨_, rfl, x, rfl, (by rw [sizeLine_eq]; omega), _, _, rfl, rfl, _, rfl, ?_⟩
    refine ite2 (fun c1 => ?_) (fun c1 => ?_)
    · refine ⟨_, _, rfl, rfl, _, rfl, ite2 (fun c2 => ⟨_, rfl, x, abc, rfl, hx, fun H' s => ?_⟩) (fun c2 => ?_)⟩
      · have e : isWordL x = madeL x abc := by
          have h1 := of_decide_eq_true c1
          have h2 := of_decide_eq_true c2
          unfold isWordL
          rw [decide_eq_true (by omega), decide_eq_true (by omega)]
          simp
        rw [← e]
        exact k _ s
      · have e : isWordL x = false := by
          have h2 := of_decide_eq_false (Bool.eq_false_iff.mpr c2)
          unfold isWordL
          rw [decide_eq_false (by omega : ¬ x.length ≤ 8)]
          simp
        rw [e] at k
        exact k _ (Same.refl _)
    · have e : isWordL x = false := by
        have h2 := of_decide_eq_false (Bool.eq_false_iff.mpr c1)
        unfold isWordL
        rw [decide_eq_false (by omega : ¬ 1 ≤ x.length)]
        simp
      rw [e] at k
      exact ⟨_, rfl, iteF (k _ (Same.refl _))⟩
end
end My
namespace My
open PySem PySem.Spec PyProof.Rows L2 PySem.GX
theorem mem_ins {ys : List Str} {k z : Str} : z ∈ ins ys k ↔ z = k ∨ z ∈ ys := by
  unfold ins
  by_cases h : k ∈ ys
  · rw [if_pos h]
    constructor
    · intro m; exact .inr m
    · rintro (rfl | m)
      · exact h
      · exact m
  · rw [if_neg h, List.mem_cons]
theorem setFold_all : ∀ (n : Nat) (xs : List Str), xs.length = n → (setFold xs).Nodup ∧ (∀ z, z ∈ setFold xs ↔ z ∈ xs) ∧ (xs.Nodup → (setFold xs).Perm xs) ∧ (¬ xs.Nodup → (setFold xs).length < xs.length) := by
  intro n
  induction n with
  | zero =>
    intro xs h
    have : xs = [] := List.eq_nil_of_length_eq_zero h
    subst this
    exact ⟨List.nodup_nil, fun _ => Iff.rfl, fun _ => List.Perm.refl _, fun h => absurd List.nodup_nil h⟩
  | succ n ih =>
    intro xs h
    have hne : xs ≠ [] := by intro z; subst z; cases h
    obtain ⟨ys, a, rfl⟩ : ∃ ys a, xs = ys ++ [a] := ⟨xs.dropLast, xs.getLast hne, (List.dropLast_concat_getLast hne).symm⟩
    have hl : ys.length = n := by rw [List.length_append] at h; simpa using h
    obtain ⟨i1, i2, i3, i4⟩ := ih ys hl
    have len := setFold_len n ys hl
    rw [setFold_snoc]
    refine ⟨ins_nodup i1, fun z => ?_, fun nd => ?_, fun nd => ?_⟩
    · rw [mem_ins, i2, List.mem_append]
      simp
      constructor
      · rintro (h | h) <;> simp [h]
      · rintro (h | h) <;> simp [h]
    · rw [List.nodup_append] at nd
      have ha : a ∉ setFold ys := fun z => nd.2.2 a ((i2 a).mp z) a (by simp) rfl
      unfold ins
      rw [if_neg ha]
      exact ((i3 nd.1).cons a).trans (List.perm_append_singleton a ys).symm
    · unfold ins
      by_cases ha : a ∈ setFold ys
      · rw [if_pos ha, List.length_append]
        simp; omega
      · rw [if_neg ha, List.length_append]
        have : ¬ ys.Nodup := fun z => nd (by
          rw [List.nodup_append]
          refine ⟨z, by simp, fun b hb c hc e => ?_⟩
          simp at hc
          subst hc; subst e
          exact ha ((i2 b).mpr hb))
        have := i4 this
        simp; omega
theorem setFold_eqlen (xs : List Str) : decide ((setFold xs).length = xs.length) = decide xs.Nodup := by
  obtain ⟨_, _, i3, i4⟩ := setFold_all _ xs rfl
  by_cases h : xs.Nodup
  · rw [decide_eq_true h, decide_eq_true (i3 h).length_eq]
  · rw [decide_eq_false h, decide_eq_false (Nat.ne_of_lt (i4 h))]
/-- the sign c as a text -/
abbrev sg (c : Nat) : Str := ⟨#[c]⟩
theorem sg_inj {a b : Nat} (h : sg a = sg b) : a = b := by
  have := congrArg (fun s : Str => s.cps.toList) h
  simpa using this
theorem str_ext {x y : Str} (h : x.cps.toList = y.cps.toList) : x = y := by
  cases x; cases y
  simp at h
  rw [h]
theorem asc_eq : ∀ {a b : List Nat}, a.Pairwise (· < ·) → b.Pairwise (· < ·) → (∀ z, z ∈ a ↔ z ∈ b) → a = b
  | [], [], _, _, _ => rfl
  | [], y :: _, _, _, h => by have := (h y).mpr (by simp); simp at this
  | x :: _, [], _, _, h => by have := (h x).mp (by simp); simp at this
  | x :: xs, y :: ys, h1, h2, h => by
    rw [List.pairwise_cons] at h1 h2
    have e : x = y := by
      have m1 := (h x).mp (by simp)
      have m2 := (h y).mpr (by simp)
      simp at m1 m2
      rcases m1 with m1 | m1
      · exact m1
      · rcases m2 with m2 | m2
        · exact m2.symm
        · have a1 := h1.1 _ m2
          have a2 := h2.1 _ m1
          omega
    subst e
    congr 1
    refine asc_eq h1.2 h2.2 fun z => ?_
    constructor
    · intro m
      have := (h z).mp (by simp [m])
      simp at this
      rcases this with rfl | t
      · exact absurd (h1.1 _ m) (Nat.lt_irrefl _)
      · exact t
    · intro m
      have := (h z).mpr (by simp [m])
      simp at this
      rcases this with rfl | t
      · exact absurd (h2.1 _ m) (Nat.lt_irrefl _)
      · exact t
theorem rising_asc : ∀ (cs : List Nat) (p : Nat), risingS (sg p) (cs.map sg) = true → (p :: cs).Nodup → (p :: cs).Pairwise (· < ·)
  | [], p, _, _ => by simp
  | c :: cs, p, h, nd => by
    unfold risingS at h
    rw [List.map_cons] at h
    simp only [Bool.and_eq_true] at h
    have nd' := (List.nodup_cons.mp nd)
    have ih := rising_asc cs c h.2 nd'.2
    have h1 : ¬ c < p := by
      have := h.1
      simp [ltCps] at this
      omega
    have h2 : p ≠ c := fun z => nd'.1 (by simp [z])
    rw [List.pairwise_cons] at ih ⊢
    refine ⟨fun z hz => ?_, List.pairwise_cons.mpr ih⟩
    simp at hz
    rcases hz with rfl | hz
    · omega
    · have := ih.1 z hz
      omega
theorem join_signs : ∀ cs : List Nat, (Str.join Str.empty (cs.map sg)).cps.toList = cs
  | [] => rfl
  | [c] => rfl
  | c :: d :: cs => by
    have ih := join_signs (d :: cs)
    show ((sg c ++ Str.empty ++ Str.join Str.empty ((d :: cs).map sg)).cps).toList = _
    show (((#[c] ++ #[]) ++ (Str.join Str.empty ((d :: cs).map sg)).cps)).toList = _
    rw [Array.toList_append, ih]
    rfl
/-- the text is its own signs in their order, each once -/
theorem asc_join {x : Str} {zs : List Str} (hp : zs.Perm (setFold (signsOf x))) (hs : sortedS zs = true) : decide (V.str x = V.str (Txt.join Str.empty zs)) = decide (x.cps.toList.Pairwise (· < ·)) := by
  obtain ⟨i1, i2, i3, i4⟩ := setFold_all _ (signsOf x) rfl
  have nd : zs.Nodup := hp.nodup_iff.mpr i1
  have hm : ∀ z, z ∈ zs ↔ z ∈ signsOf x := fun z => (hp.mem_iff).trans (i2 z)
  obtain ⟨cs, rfl⟩ : ∃ cs : List Nat, zs = cs.map sg := by
    have all : ∀ z ∈ zs, ∃ c, z = sg c := fun z hz => by
      have := (hm z).mp hz
      unfold signsOf at this
      obtain ⟨c, _, rfl⟩ := List.mem_map.mp this
      exact ⟨c, rfl⟩
    clear hp hs nd hm i1 i2 i3 i4
    induction zs with
    | nil => exact ⟨[], rfl⟩
    | cons z t ih =>
      obtain ⟨c, rfl⟩ := all z (by simp)
      obtain ⟨cs, e⟩ := ih fun y hy => all y (by simp [hy])
      exact ⟨c :: cs, by rw [e]; rfl⟩
  have ndc : cs.Nodup := by
    unfold List.Nodup at nd
    rw [List.pairwise_map] at nd
    exact nd.imp fun h z => h (congrArg sg z)
  have asc : cs.Pairwise (· < ·) := by
    cases cs with
    | nil => simp
    | cons c t => exact rising_asc t c hs ndc
  have mem : ∀ c, c ∈ cs ↔ c ∈ x.cps.toList := fun c => by
    have := hm (sg c)
    unfold signsOf at this
    constructor
    · intro h
      obtain ⟨d, hd, e⟩ := List.mem_map.mp (this.mp (List.mem_map.mpr ⟨c, h, rfl⟩))
      rw [← sg_inj e]; exact hd
    · intro h
      obtain ⟨d, hd, e⟩ := List.mem_map.mp (this.mpr (List.mem_map.mpr ⟨c, h, rfl⟩))
      rw [← sg_inj e]; exact hd
  have ej : (Txt.join Str.empty (cs.map sg)).cps.toList = cs := by rw [TL.join_eq, join_signs]
  by_cases h : x.cps.toList.Pairwise (· < ·)
  · rw [decide_eq_true h, decide_eq_true]
    congr 1
    exact str_ext (by rw [ej]; exact asc_eq h asc fun z => (mem z).symm)
  · rw [decide_eq_false h, decide_eq_false]
    intro e
    have e' : x = _ := V.str.inj e
    apply h
    rw [e', ej]
    exact asc
end My
namespace My
open PySem PySem.Spec PyProof.Rows L2 PySem.GX
def areSignsL : List Str → Bool
  | [x] => decide (1 ≤ x.length) && decide (x.length ≤ 3) && madeL x abc && decide (x.cps.toList.Pairwise (· < ·))
  | _ => false
def areMoodsL (ws : List Str) : Bool := decide (1 ≤ ws.length) && decide (ws.length ≤ 300) && ws.all isWordL && decide ws.Nodup
def areGoodL (ws ms : List Str) : Bool := decide (ws = ms.filter fun m => decide (m ∈ ws))
end My
namespace My
open PySem PySem.Spec PyProof.Rows L2 PySem.GX
theorem areS1 (x : Str) : areSignsL [x] = (decide (1 ≤ x.length) && decide (x.length ≤ 3) && madeL x abc && decide (x.cps.toList.Pairwise (· < ·))) := rfl
def spSigns (K : PySem.W.Frag) : Sp := fun vs H Q _ => ∃ (l : Addr) (ws : List Str), vs = [.ref l] ∧ H l = some (.lst (ws.map V.str)) ∧ (∀ x ∈ ws, x.length ≤ 16000000) ∧ ∀ H', Same H H' → Q (.bl (areSignsL ws)) H'
def spMoods (K : PySem.W.Frag) : Sp := fun vs H Q _ => ∃ (l : Addr) (ws : List Str), vs = [.ref l] ∧ H l = some (.lst (ws.map V.str)) ∧ (∀ x ∈ ws, x.length ≤ 16000000) ∧ ∀ H', Same H H' → Q (.bl (areMoodsL ws)) H'
section
variable {P : Program} {w : World} {K : PySem.W.Frag} {mg : Str → Option Value} {base : Heap}
theorem scSigns : FnScope ["words"] ["words"] (defScope sSigns) := ⟨rfl, rfl, rfl, by decide +kernel, rfl, by decide +kernel, by decide +kernel⟩
theorem ok_signs {f : Addr} {fd : FuncData} {tA tB : Tok} (F : Fun K "are_signs" "are_signs" sSigns f fd) (hO : Hv P w K mg base 1 "made_of" ["text", "letters"] spMade) (gA : mg "LETTERS" = some (.str abc tB)) (hL : mg "len" = none) (hS : mg "set" = none) (hT : mg "sorted" = none) (gM : mg "MOST_SIGNS" = some (.int 3 tA)) :
    FnOk P w K mg base CX0 2 f fd ["words"] (spSigns K) := by
  refine F.ok scSigns (fun vs H Q E h => ?_) (fun cdv A outer s H vs Q E hr h => ?_)
  · obtain ⟨l, ws, rfl, _⟩ := h
    rfl
  · obtain ⟨l, ws, rfl, hl, hx, k⟩ := h
    refine ⟨_, pss_cons (ps_if (PW.pt (pw_or (pt_cmpR op_ne (pe_callB call_len_seq (by rfl) hL PySem.boot_len (pa_cons (pv 0) pa_nil)) pe_int (nomark _))
        (pw_or1 (pt_not (pt_chain op_le op_le pe_int (pe_callB call_len_str (by rfl) hL PySem.boot_len (pa_cons (pe_ix ix_list (pv 0) pe_int (fun _ _ => rfl)) pa_nil)) (pe_glob (v := .int 3) rfl gM ⟨_, rfl⟩))))))
        (pss_one (ps_ret pe_bl)) pss_nil)
      (pss_one (ps_ret (pe_and (pe_cl hO hr rfl pass0 (pa_cons (pe_ix ix_list (pv 0) pe_int (fun _ _ => rfl)) (pa_cons (pe_glob (v := .str abc) rfl gA ⟨_, rfl⟩) pa_nil)))
        (pe_one (pe_cmpR op_eq (pe_ix ix_list (pv 0) pe_int (fun _ _ => rfl)) (pe_join pe_str (pe_callB (cr_sortedTx rfl) (by rfl) hT (by decide +kernel) (pa_cons (pe_callTy (cr_setS rfl) (by rfl) hS (by decide +kernel) (pa_cons (pe_ix ix_list (pv 0) pe_int (fun _ _ => rfl)) pa_nil)) pa_nil))) (nomark _)))))), ?_⟩
    refine ⟨_, rfl, l, _, rfl, .inl (SqL.of hl), rfl, _, rfl, ?_⟩
    rw [List.length_map]
    match ws, hl, hx, k with
    | [], hl, hx, k => exact iteT (iteT (k _ (Same.refl _)))
    | _ :: _ :: _, hl, hx, k =>
      refine ite2 (fun c => iteT (k _ (Same.refl _))) (fun c => ?_)
      exfalso
      apply c
      simp
      omega
    | [x], hl, hx, k =>
      refine iteF ?_
      have hz := hx x (by simp)
      refine ⟨_, rfl, l, _, _, _, rfl, rfl, SqL.of hl, atI_nat (j := 0) rfl, x, rfl, (by rw [sizeLine_eq]; omega), _, _, rfl, rfl, _, rfl, ?_⟩
      refine ite2 (fun c1 => ?_) (fun c1 => ?_)
      · refine ⟨_, _, rfl, rfl, _, rfl, ?_⟩
        have h1 := of_decide_eq_true c1
        refine ite2 (fun c2 => ?_) (fun c2 => ?_)
        · have e : areSignsL [x] = false := by
            have h2 : (3 : Int) < (x.length : Int) := by simpa using c2
            rw [areS1]
            rw [decide_eq_false (by omega : ¬ x.length ≤ 3)]
            simp
          rw [e] at k
          exact k _ (Same.refl _)
        · have h2 : (x.length : Int) ≤ 3 := by simpa using c2
          have e : areSignsL [x] = (madeL x abc && decide (x.cps.toList.Pairwise (· < ·))) := by
            rw [areS1, decide_eq_true (show 1 ≤ x.length by omega), decide_eq_true (show x.length ≤ 3 by omega)]
            simp
          rw [e] at k
          refine ⟨_, rfl, l, _, _, _, rfl, rfl, SqL.of hl, atI_nat (j := 0) rfl, x, abc, rfl, hz, fun H1 s1 => ⟨_, rfl, ite2 (fun c3 => ?_) (fun c3 => ?_)⟩⟩
          · have hl1 := s1 _ _ hl
            refine ⟨_, rfl, l, _, _, _, rfl, rfl, SqL.of hl1, atI_nat (j := 0) rfl, ⟨_, rfl⟩, _, rfl, l, _, _, _, rfl, rfl, SqL.of hl1, atI_nat (j := 0) rfl, x, rfl, (by omega), fun p hp => ⟨p, _, rfl, upd_same, fun zs q pz sz hq => ?_⟩⟩
            have hlen : zs.length ≤ 3 := by
              rw [pz.length_eq]
              have := setFold_len _ (signsOf x) rfl
              have e2 : (signsOf x).length = x.length := by unfold signsOf; rw [List.length_map, Array.length_toList]; rfl
              omega
            have hone : ∀ z ∈ zs, z.length = 1 := fun z hz => by
              have := (setFold_all _ (signsOf x) rfl).2.1 z |>.mp (pz.mem_iff.mp hz)
              unfold signsOf at this
              obtain ⟨c, _, rfl⟩ := List.mem_map.mp this
              rfl
            refine ⟨_, q, zs, rfl, rfl, .inl (SqL.of upd_same), ?_, rfl, ?_⟩
            · have : (zs.map (·.length)).sum = zs.length := by
                clear pz sz hq hlen
                induction zs with
                | nil => rfl
                | cons z t ih => 
                  rw [List.map_cons, List.sum_cons, ih (fun y hy => hone y (by simp [hy])), hone z (by simp), List.length_cons]
                  omega
              rw [this]
              have e0 : (Str.ofString "").length = 0 := rfl
              rw [e0]
              omega
            · have := asc_join pz sz
              rw [c3, Bool.true_and] at k
              rw [← this] at k
              exact k _ ((s1.trans (same_new hp)).trans (same_new hq))
          · rw [Bool.eq_false_iff.mpr c3] at k
            exact k _ s1
      · refine ⟨_, rfl, iteT ?_⟩
        have e : areSignsL [x] = false := by
          have h2 := of_decide_eq_false (Bool.eq_false_iff.mpr c1)
          rw [areS1]
          rw [decide_eq_false (by omega : ¬ 1 ≤ x.length)]
          simp
        rw [e] at k
        exact k _ (Same.refl _)
end
end My
namespace My
open PySem PySem.Spec PyProof.Rows L2
theorem len_app (a b : Str) : (a ++ b).length = a.length + b.length := Str.length_append a b
theorem cps_app (a b : Str) : (a ++ b).cps.toList = a.cps.toList ++ b.cps.toList := by
  show (a.cps ++ b.cps).toList = _
  exact Array.toList_append
theorem ok_low {y : Str} (h : ∀ c ∈ y.cps.toList, c < 256) : PyData.strOk y = true := by
  unfold PyData.strOk
  rw [Array.all_eq_true_iff_forall_mem]
  intro c hc
  have := h c (by simpa using hc)
  simp
  omega
theorem yat_same (xs : List V) : ∀ i H x H', YAt xs i H x H' → Same H H' := fun i H x H' h => by rw [h.1]; exact Same.refl _
theorem map_get {α : Type} {xs : List α} {f : α → V} {i : Nat} {a : α} {x : V} (ha : xs[i]? = some a) (h : (xs.map f)[i]? = some x) : x = f a := by
  rw [List.getElem?_map, ha] at h
  exact (Option.some.inj h).symm
theorem walk_listL {K : PySem.W.Frag} {a : Addr} {α : Type} (xs : List α) (f : α → V) : Walk (Itl K a) xs.length (fun H => SqL K H a (xs.map f)) (YAt (xs.map f)) := by
  have := walk_list (K := K) (a := a) (xs := xs.map f)
  rw [List.length_map] at this
  exact this
theorem in_strs (x : Str) : ∀ ys : List Str, inV (.str x) (ys.map V.str) = decide (x ∈ ys)
  | [] => rfl
  | y :: t => by
    have ih := in_strs x t
    unfold inV at ih ⊢
    rw [List.map_cons, List.any_cons, ih]
    have e : eqV (.str y) (.str x) = decide (y = x) := by
      show (y == x) = _
      by_cases h : y = x
      · subst h; simp
      · simp [h]
    rw [e]
    by_cases h : y = x
    · subst h; simp
    · simp [h, Ne.symm h]
theorem flat_strs (ys : List Str) : (ys.map V.str).all flatV = true := by
  rw [List.all_map]
  exact List.all_eq_true.mpr fun _ _ => rfl
end My
namespace My
open PySem PySem.Spec PyProof.Rows L2 PySem.GX
section
variable {P : Program} {w : World} {K : PySem.W.Frag} {mg : Str → Option Value} {base : Heap}
theorem scMoods : FnScope ["words", "word"] ["words"] (defScope sMoods) := ⟨rfl, rfl, rfl, by decide +kernel, rfl, by decide +kernel, by decide +kernel⟩
theorem ok_moods {f : Addr} {fd : FuncData} {tA : Tok} (F : Fun K "are_moods" "are_moods" sMoods f fd) (hW : Hv P w K mg base 2 "is_word" ["text"] spWord) (hL : mg "len" = none) (hS : mg "set" = none) (hA : mg "all" = none) (gM : mg "MOST_MOODS" = some (.int 300 tA)) :
    FnOk P w K mg base CX0 3 f fd ["words"] (spMoods K) := by
  refine F.ok scMoods (fun vs H Q E h => ?_) (fun cdv A outer s H vs Q E hr h => ?_)
  · obtain ⟨l, ws, rfl, _⟩ := h
    rfl
  · obtain ⟨l, ws, rfl, hl, hx, k⟩ := h
    refine ⟨_, pss_cons (ps_if (pt_not (pt_chain op_le op_le pe_int (pe_callB call_len_seq (by rfl) hL PySem.boot_len (pa_cons (pv 0) pa_nil)) (pe_glob (v := .int 300) rfl gM ⟨_, rfl⟩)))
        (pss_one (ps_ret pe_bl)) pss_nil)
      (pss_one (ps_ret (pe_and (pe_callB (cr_all rfl) (by rfl) hA (by decide +kernel) (pa_cons (pe_lc (own := [("word", 1)]) (g := gName 1) (tt := tYes) rfl scMoods.nd (pi_list (pv 0))
          (blkOk_by (N := ["words", "word"]) (sc := defScope sMoods) (by decide +kernel)) (fun _ _ _ _ _ => pg_name (i := 1) scMoods.nd rfl (Or.inl rfl)) (fun _ _ _ _ _ => pts_nil) (fun _ _ _ _ _ => pe_cl hW hr rfl pass0 (pa_cons (pv 1) pa_nil))) pa_nil))
        (pe_one (pe_cmpR op_eq (pe_callB cr_lenSet (by rfl) hL PySem.boot_len (pa_cons (pe_callTy (cr_setL rfl) (by rfl) hS (by decide +kernel) (pa_cons (pv 0) pa_nil)) pa_nil)) (pe_callB call_len_seq (by rfl) hL PySem.boot_len (pa_cons (pv 0) pa_nil)) (nomark _)))))), ?_⟩
    refine ⟨_, rfl, l, _, rfl, .inl (SqL.of hl), _, _, rfl, rfl, _, rfl, ?_⟩
    rw [List.length_map]
    refine ite2 (fun c1 => ?_) (fun c1 => ?_)
    · refine ⟨_, _, rfl, rfl, _, rfl, ?_⟩
      have h1 := of_decide_eq_true c1
      refine ite2 (fun c2 => ?_) (fun c2 => ?_)
      · have e : areMoodsL ws = false := by
          have h2 : (300 : Int) < (ws.length : Int) := by simpa using c2
          unfold areMoodsL
          rw [decide_eq_false (by omega : ¬ ws.length ≤ 300)]
          simp
        rw [e] at k
        exact k _ (Same.refl _)
      · have h2 : (ws.length : Int) ≤ 300 := by simpa using c2
        have e : areMoodsL ws = (ws.all isWordL && decide ws.Nodup) := by
          unfold areMoodsL
          rw [decide_eq_true (show 1 ≤ ws.length by omega), decide_eq_true (show ws.length ≤ 300 by omega)]
          simp
        rw [e] at k
        refine ⟨_, rfl, l, rfl, ⟨_, SqL.of hl⟩, fun D hD => ?_⟩
        refine lcG ws (fun x => some (.bl (isWordL x))) (by have := walk_list (K := K) (a := l) (xs := ws.map V.str); rw [List.length_map] at this; exact this) (by omega) hD (yat_same _) (fun H' s => SqL.of (s _ _ hl)) (fun i x y H' H'' k1 hx' s1 hy k2 => ?_) (fun H1 s1 e1 => ?_)
        · obtain ⟨rfl, hy⟩ := hy
          obtain rfl := map_get hx' hy
          refine ⟨rfl, _, rfl, x, rfl, hx x (List.mem_of_getElem? hx'), fun H4 s4 => k2 _ s4⟩
        · refine ⟨D, ws.map isWordL, rfl, SqL.of ?_, _, rfl, ?_⟩
          · rw [e1, List.filterMap_eq_map', List.map_map]
            rfl
          · have ea : (ws.map isWordL).all id = ws.all isWordL := by rw [List.all_map]; rfl
            rw [ea]
            refine ite2 (fun c3 => ?_) (fun c3 => ?_)
            · have hl1 := s1 _ _ hl
              refine ⟨_, rfl, l, ws, rfl, SqL.of hl1, (by omega), fun p hp => ⟨p, _, rfl, upd_same, _, rfl, l, _, rfl, .inl (SqL.of (keep1 hl1 hp)), rfl, ?_⟩⟩
              rw [c3, Bool.true_and, ← setFold_eqlen] at k
              rw [List.length_map]
              have ed : decide (V.int ((setFold ws).length : Nat) = V.int (ws.length : Nat)) = decide ((setFold ws).length = ws.length) := by
                rw [dec_int]
                by_cases hc : (setFold ws).length = ws.length
                · rw [hc]; simp
                · rw [decide_eq_false hc]
                  simp
                  omega
              rw [ed]
              exact k _ (s1.trans (same_new hp))
            · rw [Bool.eq_false_iff.mpr c3] at k
              exact k _ s1
    · have e : areMoodsL ws = false := by
        have h2 := of_decide_eq_false (Bool.eq_false_iff.mpr c1)
        unfold areMoodsL
        rw [decide_eq_false (by omega : ¬ 1 ≤ ws.length)]
        simp
      rw [e] at k
      exact ⟨_, rfl, iteT (k _ (Same.refl _))⟩
end
end My
namespace My
open PySem PySem.Spec PyProof.Rows L2 PySem.GX
def spGood (K : PySem.W.Frag) : Sp := fun vs H Q _ => ∃ (l m : Addr) (ws ms : List Str), vs = [.ref l, .ref m] ∧ H l = some (.lst (ws.map V.str)) ∧ H m = some (.lst (ms.map V.str)) ∧ ws.length ≤ 16000000 ∧ ms.length ≤ 16000000 ∧
  (∀ x ∈ ws, PyData.strOk x = true) ∧ (∀ x ∈ ms, PyData.strOk x = true) ∧ ∀ H', Same H H' → Q (.bl (areGoodL ws ms)) H'
/-- the dict {x: True for x in ws} -/
abbrev dTrue (ws : List Str) : List (Key × V) := dOf (fun x => (Sum.inr x : Key)) (fun _ => V.bl true) ws
theorem dTrue_val (ws : List Str) (m : Str) : (valV (dTrue ws) (Sum.inr m)).isSome = decide (m ∈ ws) := by
  rw [dOf_val]
  congr 1
  simp
theorem fm_filter (p : Str → Bool) : ∀ ms : List Str, (ms.filterMap fun m => if p m = true then some (V.str m) else none) = (ms.filter p).map V.str
  | [] => rfl
  | m :: t => by
    rw [List.filterMap_cons, List.filter_cons]
    cases h : p m with
    | true => simp [fm_filter p t]
    | false => simp [fm_filter p t]
section
variable {P : Program} {w : World} {K : PySem.W.Frag} {mg : Str → Option Value} {base : Heap}
theorem scGood : FnScope ["words", "moods", "chosen", "word", "mood"] ["words", "moods"] (defScope sGood) := ⟨rfl, rfl, rfl, by decide +kernel, rfl, by decide +kernel, by decide +kernel⟩
theorem ok_good {f : Addr} {fd : FuncData} (F : Fun K "are_good" "are_good" sGood f fd) : FnOk P w K mg base CX0 1 f fd ["words", "moods"] (spGood K) := by
  refine F.ok scGood (fun vs H Q E h => ?_) (fun cdv A outer s H vs Q E hr h => ?_)
  · obtain ⟨l, m, ws, ms, rfl, _⟩ := h
    rfl
  · obtain ⟨l, m, ws, ms, rfl, hl, hm, z1, z2, o1, o2, k⟩ := h
    refine ⟨_, pss_cons (ps_set (i := 2) scGood.nd rfl (Or.inr rfl) (pe_dc (own := [("word", 3)]) (g := gName 3) (tt := tYes) rfl scGood.nd (pi_list (pv 0))
          (blkOk_by (N := ["words", "moods", "chosen", "word", "mood"]) (sc := defScope sGood) (by decide +kernel)) (fun _ _ _ _ _ => pg_name (i := 3) scGood.nd rfl (Or.inl rfl)) (fun _ _ _ _ _ => pts_nil) (fun _ _ _ _ _ => pv 3) (fun _ _ _ _ _ => pe_bl)))
      (pss_one (ps_ret (pe_cmpR (op_eqD hr.units) (pv 0) (pe_lc (own := [("mood", 4)]) (g := gName 4) rfl scGood.nd (pi_list (pv 1))
          (blkOk_by (N := ["words", "moods", "chosen", "word", "mood"]) (sc := defScope sGood) (by decide +kernel)) (fun _ _ _ _ _ => pg_name (i := 4) scGood.nd rfl (Or.inl rfl)) (fun _ _ _ _ _ => pts_one (pt_cmp (pc_din (hu_of hr) (pv 4) (pv 2)))) (fun _ _ _ _ _ => pv 4)) (nomark _)))), ?_⟩
    refine ⟨_, rfl, l, rfl, ⟨_, SqL.of hl⟩, fun D hD => ?_⟩
    refine dcG ws (fun x => (Sum.inr x : Key)) (fun _ => V.bl true) (by have := walk_list (K := K) (a := l) (xs := ws.map V.str); rw [List.length_map] at this; exact this) z1 hD (yat_same _) (fun H' s => SqL.of (s _ _ hl)) (fun i x y H' H'' k1 k0 hx s1 hy k2 => ?_) (fun H1 s1 e1 => ?_)
    · obtain ⟨rfl, hy⟩ := hy
      obtain rfl := map_get hx hy
      exact ⟨rfl, _, rfl, k2 _ (Same.refl _)⟩
    · have hl1 := s1 _ _ hl
      have hm1 := s1 _ _ hm
      refine ⟨_, rfl, _, rfl, m, rfl, ⟨_, SqL.of hm1⟩, fun E' hE => ?_⟩
      refine lcG ms (fun x => if decide (x ∈ ws) = true then some (V.str x) else none) (by have := walk_list (K := K) (a := m) (xs := ms.map V.str); rw [List.length_map] at this; exact this) z2 hE (yat_same _) (fun H' s => SqL.of (s _ _ hm1)) (fun i x y H' H'' k1 hx s2 hy k2 => ?_) (fun H2 s2 e2 => ?_)
      · obtain ⟨rfl, hy⟩ := hy
        obtain rfl := map_get hx hy
        have kk := k2 _ (Same.refl _)
        refine ⟨rfl, _, rfl, _, rfl, D, _, rfl, DGet.k (k := Sum.inr x) (s2 _ _ e1), _, rfl, ?_⟩
        rw [dTrue_val]
        refine ite2 (fun c => ?_) (fun c => ?_)
        · rw [if_pos c] at kk
          exact ⟨_, rfl, kk⟩
        · rw [if_neg c] at kk
          exact kk
      · rw [fm_filter] at e2
        refine ⟨dTx ws, dTx (ms.filter fun x => decide (x ∈ ws)), dp_dTx (s2 _ _ hl1), dp_dTx e2, shaped_dTx o1, shaped_dTx fun x hx => o2 x ((List.mem_filter.mp hx).1), ?_⟩
        rw [eqv_dTx]
        exact k _ (s1.trans s2)
end
end My
namespace L2
open PySem PySem.Spec PyProof.Rows PySem.GX
theorem del_same_of (H : Hp) (p : Addr) : Same (del H p) H := fun b o e => by
  by_cases hb : b = p
  · rw [hb, del_same] at e; cases e
  · rw [del_ne hb] at e
    exact e
/-- the new list D holds new lists with these rows; all that was in H1 stands -/
structure Pr (H1 : Hp) (D : Addr) (H' : Hp) (rs : List (List Str)) : Prop where
  ex : ∃ as : List Addr, Same H1 H' ∧ H' D = some (.lst (as.map V.ref)) ∧ Rw (del H' D) as rs
section
variable {H1 H' H'' : Hp} {D p : Addr} {rs : List (List Str)} {r : List Str}
theorem Pr.zero (hD : H1 D = none) : Pr H1 D (upd H1 D (.lst [])) [] := ⟨[], same_new hD, upd_same, .nil⟩
theorem Pr.keeps (h : Pr H1 D H' rs) : Same H1 H' := let ⟨_, s, _, _⟩ := h.ex; s
theorem Pr.same (h : Pr H1 D H' rs) (s : Same H' H'') : Pr H1 D H'' rs := by
  obtain ⟨as, s1, e, t⟩ := h.ex
  exact ⟨as, s1.trans s, s _ _ e, t.same (same_del s)⟩
theorem Pr.push (h : Pr H1 D H' rs) (hD : H1 D = none) (hp : H' p = none) (hl : rs.length < 16000000) :
    ∃ acc, (upd H' p (.lst (r.map V.str))) D = some (.lst acc) ∧ acc.length < sizeLine ∧ Pr H1 D (upd (upd H' p (.lst (r.map V.str))) D (.lst (acc ++ [.ref p]))) (rs ++ [r]) := by
  obtain ⟨as, s1, e, t⟩ := h.ex
  have ne : D ≠ p := ne_of_none e hp
  refine ⟨as.map V.ref, by rw [upd_ne ne]; exact e, ?_, ⟨as ++ [p], fun b o z => ?_, ?_, ?_⟩⟩
  · rw [List.length_map, t.len, sizeLine_eq]
    omega
  · rw [upd_ne (ne_of_none z hD), upd_ne (ne_of_none (s1 _ _ z) hp)]
    exact s1 _ _ z
  · rw [upd_same, List.map_append]
    rfl
  · rw [del_upd]
    refine Rw.snoc ?_ (t.same (same_del (same_new hp)))
    rw [del_ne ne.symm, upd_same]
theorem Pr.rw_ (h : Pr H1 D H' rs) : ∃ as : List Addr, Same H1 H' ∧ H' D = some (.lst (as.map V.ref)) ∧ Rw H' as rs := by
  obtain ⟨as, s1, e, t⟩ := h.ex
  exact ⟨as, s1, e, t.same (del_same_of _ _)⟩
end
theorem cut_to (ws : List Str) (n : Nat) (hn : n < 2 ^ 62) : cutV (ws.map V.str) none (some (n : Int)) = (ws.take n).map V.str := by
  unfold cutV
  have e0 : HT.sIx (ws.map V.str).length 0 none = 0 := rfl
  have e1 : HT.sIx (ws.map V.str).length (ws.map V.str).length (some (n : Int)) = min n (ws.map V.str).length := by
    unfold HT.sIx
    simp
    omega
  rw [e0, e1, List.drop_zero, Nat.sub_zero, List.map_take]
  apply List.ext_getElem?
  intro i
  simp only [List.getElem?_take]
  by_cases h : i < n
  · by_cases h2 : i < (ws.map V.str).length
    · rw [if_pos h, if_pos (by omega)]
    · rw [if_pos h, if_neg (by omega), List.getElem?_eq_none (by omega)]
  · rw [if_neg h, if_neg (by omega)]
theorem cut_fromV (xs : List V) (n : Nat) (hn : n < 2 ^ 62) : cutV xs (some (n : Int)) none = xs.drop n := by
  unfold cutV
  have e1 : HT.sIx xs.length xs.length none = xs.length := rfl
  have e0 : HT.sIx xs.length 0 (some (n : Int)) = min n xs.length := by
    unfold HT.sIx
    simp
    omega
  rw [e0, e1]
  apply List.ext_getElem?
  intro i
  simp only [List.getElem?_take, List.getElem?_drop]
  by_cases h : i < xs.length - min n xs.length
  · rw [if_pos h]
    congr 1
    omega
  · rw [if_neg h, List.getElem?_eq_none (by omega)]
theorem cut_toV (xs : List V) (n : Nat) (hn : n < 2 ^ 62) : cutV xs none (some (n : Int)) = xs.take n := by
  unfold cutV
  have e0 : HT.sIx xs.length 0 none = 0 := rfl
  have e1 : HT.sIx xs.length xs.length (some (n : Int)) = min n xs.length := by
    unfold HT.sIx
    simp
    omega
  rw [e0, e1, List.drop_zero, Nat.sub_zero]
  apply List.ext_getElem?
  intro i
  simp only [List.getElem?_take]
  by_cases h : i < n
  · by_cases h2 : i < xs.length
    · rw [if_pos h, if_pos (by omega)]
    · rw [if_pos h, if_neg (by omega), List.getElem?_eq_none (by omega)]
  · rw [if_neg h, if_neg (by omega)]
end L2
namespace My
open PySem PySem.Spec PyProof.Rows L2 PySem.GX
/-- the beginnings of the rows of goals, in their order -/
def pairsL (x : Str) (ms : List Str) : List (List Str) := ms.flatMap fun m => x.cps.toList.map fun c => [m, sg c]
def rowOkL (ms : List Str) (r : List Str) : Bool := decide (r.length = 3) && decide (r.getD 2 Str.empty ∈ ms)
def goalsOkL (x : Str) (ms : List Str) (rs : List (List Str)) : Bool := decide (rs.map (List.take 2) = pairsL x ms) && rs.all (rowOkL ms)
/-- the dict that the rows write -/
def goalsD (rs : List (List Str)) : List (List Key × V) := dOf (fun r => [Sum.inr (r.getD 0 Str.empty), Sum.inr (r.getD 1 Str.empty)]) (fun r => V.str (r.getD 2 Str.empty)) rs
def spGoals : Sp := fun vs H Q _ => ∃ (x : Str) (m l : Addr) (ms : List Str) (as : List Addr) (rs : List (List Str)), vs = [.str x, .ref m, .ref l] ∧ H m = some (.lst (ms.map V.str)) ∧ H l = some (.lst (as.map V.ref)) ∧ Rw H as rs ∧
  x.length ≤ 3 ∧ ms.length ≤ 300 ∧ rs.length ≤ 16000000 ∧ PyData.strOk x = true ∧ (∀ y ∈ ms, PyData.strOk y = true) ∧ (∀ r ∈ rs, ∀ y ∈ r, PyData.strOk y = true) ∧
  (goalsOkL x ms rs = false → ∀ H', Same H H' → Q .non H') ∧ (goalsOkL x ms rs = true → ∀ D H', H D = none → Same H H' → H' D = some (.dT (goalsD rs)) → Q (.ref D) H')
theorem pairs_take {x : Str} {ms : List Str} {i : Nat} {m : Str} (h : ms[i]? = some m) : pairsL x (ms.take (i + 1)) = pairsL x (ms.take i) ++ x.cps.toList.map fun c => [m, sg c] := by
  unfold pairsL
  rw [List.take_add_one, h, List.flatMap_append]
  simp
theorem pairs_len (x : Str) (ms : List Str) : (pairsL x ms).length = ms.length * x.length := by
  unfold pairsL
  induction ms with
  | nil => simp
  | cons m t ih =>
    rw [List.flatMap_cons, List.length_append, ih, List.length_map, Array.length_toList, List.length_cons, Nat.succ_mul]
    show x.length + _ = _
    omega
theorem pairs_ok {x : Str} {ms : List Str} (hx : PyData.strOk x = true) (hm : ∀ y ∈ ms, PyData.strOk y = true) : ∀ r ∈ pairsL x ms, ∀ y ∈ r, PyData.strOk y = true := by
  intro r hr y hy
  unfold pairsL at hr
  obtain ⟨m, h1, h2⟩ := List.mem_flatMap.mp hr
  obtain ⟨c, h3, rfl⟩ := List.mem_map.mp h2
  simp at hy
  rcases hy with rfl | rfl
  · exact hm _ h1
  · unfold PyData.strOk at hx ⊢
    rw [Array.all_eq_true_iff_forall_mem] at hx
    have := hx c (by simpa using h3)
    simpa using this
def rLenK (K : PySem.W.Frag) : List V → Hp → VK → Prop := fun xs H Q => ∃ p ys, xs = [.ref p] ∧ (SqL K H p ys ∨ SqT K H p ys) ∧ Q (.int ys.length) H
section
variable {P : Program} {w : World} {K : PySem.W.Frag} {mg : Str → Option Value} {base : Heap}
abbrev nGoals : List Str := ["signs", "moods", "rows", "known", "mood", "row", "sign", "goal"]
theorem scGoals : FnScope nGoals ["signs", "moods", "rows"] (defScope sGoals) := ⟨rfl, rfl, rfl, by decide +kernel, rfl, by decide +kernel, by decide +kernel⟩
theorem ok_goals {f : Addr} {fd : FuncData} (F : Fun K "read_goals" "read_goals" sGoals f fd) (hL : mg "len" = none) (hA : mg "all" = none) : FnOk P w K mg base CX0 1 f fd ["signs", "moods", "rows"] spGoals := by
  refine F.ok scGoals (fun vs H Q E h => ?_) (fun cdv A outer s H vs Q E hr h => ?_)
  · obtain ⟨x, m, l, ms, as, rs, rfl, _⟩ := h
    rfl
  · obtain ⟨x, m, l, ms, as, rs, rfl, hm, hl, hR, z1, z2, z3, o1, o2, o3, kN, kY⟩ := h
    refine ⟨_, pss_cons (ps_set (i := 3) scGoals.nd rfl (Or.inr rfl) (pe_dc (own := [("mood", 4)]) (g := gName 4) (tt := tYes) rfl scGoals.nd (pi_list (pv 1))
          (blkOk_by (N := nGoals) (sc := defScope sGoals) (by decide +kernel)) (fun _ _ _ _ _ => pg_name (i := 4) scGoals.nd rfl (Or.inl rfl)) (fun _ _ _ _ _ => pts_nil) (fun _ _ _ _ _ => pv 4) (fun _ _ _ _ _ => pe_bl)))
      (pss_cons (ps_if (pt_cmpR (op_neD hr.units) (pe_lc (own := [("row", 5)]) (g := gName 5) (tt := tYes) rfl scGoals.nd (pi_list (pv 2))
            (blkOk_by (N := nGoals) (sc := defScope sGoals) (by decide +kernel)) (fun _ _ _ _ _ => pg_name (i := 5) scGoals.nd rfl (Or.inl rfl)) (fun _ _ _ _ _ => pts_nil) (te := tSl (rSlL K) (tVar 5) tNoPart (tPart (tC (.int 2)))) (fun _ _ _ _ _ => pe_slice sl_list (pv 5) po_none (po_some pe_int)))
          (pe_lc2 (own := [("mood", 4), ("sign", 6)]) (vs1 := [6]) (g := gName 4) (tt := tYes) (g1 := gName 6) (tt1 := tYes) rfl scGoals.nd (pi_list (pv 1)) (blkOk_by (N := nGoals) (sc := defScope sGoals) (by decide +kernel)) (by decide)
            (fun _ _ _ _ _ => pg_name (i := 4) scGoals.nd rfl (Or.inl rfl)) (fun _ _ _ _ _ => pts_nil) (fun _ _ _ _ _ => pi_str (pv 0)) (fun _ _ _ _ _ => pg_name (i := 6) scGoals.nd rfl (Or.inl rfl)) (fun _ _ _ _ _ => pts_nil) (fun _ _ _ _ _ => pe_lst (pa_cons (pv 4) (pa_cons (pv 6) pa_nil)))) (nomark _))
        (pss_one (ps_ret pe_non)) pss_nil)
      (pss_cons (ps_if (pt_not (pt_val (pe_callB (cr_all rfl) (by rfl) hA (by decide +kernel) (pa_cons (pe_lc (own := [("row", 5)]) (g := gName 5) (tt := tYes) rfl scGoals.nd (pi_list (pv 2))
            (blkOk_by (N := nGoals) (sc := defScope sGoals) (by decide +kernel)) (fun _ _ _ _ _ => pg_name (i := 5) scGoals.nd rfl (Or.inl rfl)) (fun _ _ _ _ _ => pts_nil)
            (te := tAndV (tOp rEq (tCB (rLenK K) (tCons (tVar 5) tNil)) (tC (.int 3))) (tDIn (tOp (rIxL K) (tVar 5) (tC (.int 2))) (tVar 3))) (fun _ _ _ _ _ => pe_and (pe_cmpR op_eq (pe_callB call_len_seq (by rfl) hL PySem.boot_len (pa_cons (pv 5) pa_nil)) pe_int (nomark _)) (pe_one (pe_cmp (pc_din (hu_of hr) (pe_ix ix_list (pv 5) pe_int (fun _ _ => rfl)) (pv 3)) rfl)))) pa_nil))))
        (pss_one (ps_ret pe_non)) pss_nil)
      (pss_one (ps_ret (pe_dcT (own := [("mood", 4), ("sign", 6), ("goal", 7)]) (g := gUnl K 3 (gCons (gName 4) (gCons (gName 6) (gCons (gName 7) gNil)))) (tt := tYes) hr.units rfl scGoals.nd (pi_list (pv 2)) (blkOk_by (N := nGoals) (sc := defScope sGoals) (by decide +kernel))
            (fun _ _ _ _ _ => pg_unl (n := 3) rfl (pgs_cons (pg_name (i := 4) scGoals.nd rfl (Or.inl rfl)) (pgs_cons (pg_name (i := 6) scGoals.nd rfl (Or.inl rfl)) (pgs_cons (pg_name (i := 7) scGoals.nd rfl (Or.inl rfl)) pgs_nil))))
            (fun _ _ _ _ _ => pts_nil) (fun _ _ _ _ _ => pe_tup (pa_cons (pv 4) (pa_cons (pv 6) pa_nil))) (fun _ _ _ _ _ => pv 7)))))), ?_⟩
    refine ⟨_, rfl, m, rfl, ⟨_, SqL.of hm⟩, fun D0 hD0 => ?_⟩
    refine dcG ms (fun x => (Sum.inr x : Key)) (fun _ => V.bl true) (walk_listL ms V.str) (by omega) hD0 (yat_same _) (fun H' s => SqL.of (s _ _ hm)) (fun i x y H' H'' k1 k0 hx s1 hy k2 => ?_) (fun H1 s1 e1 => ?_)
    · obtain ⟨rfl, hy⟩ := hy
      obtain rfl := map_get hx hy
      exact ⟨rfl, _, rfl, k2 _ (Same.refl _)⟩
    have hl1 := s1 _ _ hl
    have hR1 := hR.same s1
    -- the beginnings of the rows
    refine ⟨_, rfl, l, rfl, ⟨_, SqL.of hl1⟩, fun D1 hD1 => ?_⟩
    refine lc_it (walk_listL as V.ref) (fun i H' => Pr H1 D1 H' ((rs.map (List.take 2)).take i)) (Pr.zero hD1) (fun i H' _ h => SqL.of (h.keeps _ _ hl1)) (fun i y H' H'' hi h hy => ?_) (fun H2 h2 => ?_)
    · obtain ⟨rfl, hy⟩ := hy
      have ha : as[i]? = some as[i] := List.getElem?_eq_getElem hi
      obtain rfl := map_get ha hy
      have hi' : i < rs.length := by rw [← hR.len]; exact hi
      have hr' : rs[i]? = some rs[i] := List.getElem?_eq_getElem hi'
      have et : (rs.map (List.take 2)).take (i + 1) = (rs.map (List.take 2)).take i ++ [rs[i].take 2] := by
        rw [List.take_add_one, List.getElem?_map, hr']
        rfl
      refine ⟨rfl, _, rfl, 2, rfl, as[i], _, rfl, SqL.of (h.keeps _ _ (hR1.get ha hr')), fun p hp => ?_⟩
      rw [et, show (2 : Int) = ((2 : Nat) : Int) from rfl, cut_to _ 2 (by decide)]
      exact h.push hD1 hp (by rw [List.length_take, List.length_map]; omega)
    have s2 := h2.keeps
    have hm2 := s2 _ _ (s1 _ _ hm)
    -- what they must be
    refine ⟨_, rfl, m, rfl, ⟨_, SqL.of hm2⟩, fun D2 hD2 => ?_⟩
    refine dc_it (walk_listL ms V.str) (nx := fun i H' => Pr H2 D2 H' (pairsL x (ms.take i))) (Pr.zero hD2) (fun i H' _ h => SqL.of (h.keeps _ _ hm2)) (fun i y H' H'' hi h hy => ?_) (fun H3 h3 => ?_)
    · obtain ⟨rfl, hy⟩ := hy
      have ha : ms[i]? = some ms[i] := List.getElem?_eq_getElem hi
      obtain rfl := map_get ha hy
      refine ⟨rfl, _, rfl, x, rfl, ?_⟩
      refine dc_it walk_str (nx := fun j H' => Pr H2 D2 H' (pairsL x (ms.take i) ++ (x.cps.toList.take j).map fun c => [ms[i], sg c])) (by rw [List.take_zero, List.map_nil, List.append_nil]; exact h) (fun _ _ _ _ => trivial) (fun j y H4 H5 hj h4 hy => ?_) (fun H4 h4 => ?_)
      · obtain ⟨rfl, c, hc, rfl⟩ := hy
        have et : (x.cps.toList.take (j + 1)).map (fun c => [ms[i], sg c]) = (x.cps.toList.take j).map (fun c => [ms[i], sg c]) ++ [[ms[i], sg c]] := by
          rw [List.take_add_one, Array.getElem?_toList, hc, List.map_append]
          rfl
        refine ⟨rfl, _, rfl, _, rfl, (by show 2 ≤ sizeLine; decide), fun p hp => ?_⟩
        rw [et, ← List.append_assoc]
        refine h4.push (r := [ms[i], sg c]) hD2 hp ?_
        have a1 : (pairsL x (ms.take i)).length ≤ 900 := by
          rw [pairs_len, List.length_take]
          exact Nat.le_trans (Nat.mul_le_mul (by omega : min i ms.length ≤ 300) z1) (by decide)
        have a2 : ((x.cps.toList.take j).map fun c => [ms[i], sg c]).length ≤ j := by
          rw [List.length_map, List.length_take]
          omega
        have z5 : x.cps.size ≤ 3 := z1
        rw [List.length_append]
        omega
      · show Pr H2 D2 H4 _
        rw [pairs_take ha]
        have : x.cps.toList.take x.cps.size = x.cps.toList := by rw [← Array.length_toList, List.take_length]
        rw [this] at h4
        exact h4
    rw [List.take_length] at h3
    have h2' := h2
    rw [hR.len, ← List.length_map (f := List.take 2), List.take_length] at h2'
    obtain ⟨bs, sb, eb, rb⟩ := (h2'.same h3.keeps).rw_
    obtain ⟨cs, sc, ec, rc⟩ := h3.rw_
    have s3 := (s1.trans s2).trans h3.keeps
    refine ⟨dTab (rs.map (List.take 2)), dTab (pairsL x ms), dp_dTab eb rb, dp_dTab ec rc, shaped_dTab (fun r hr y hy => ?_), shaped_dTab (pairs_ok o1 o2), _, rfl, ?_⟩
    · obtain ⟨r', h1, rfl⟩ := List.mem_map.mp hr
      exact o3 r' h1 y (List.mem_of_mem_take hy)
    rw [eqv_dTab]
    refine ite2 (fun c => ?_) (fun c => ?_)
    · refine kN ?_ _ s3
      unfold goalsOkL
      have : decide (rs.map (List.take 2) = pairsL x ms) = false := by simpa using c
      rw [this]
      rfl
    have ep : rs.map (List.take 2) = pairsL x ms := by simpa using c
    have hl3 := s3 _ _ hl
    have hR3 := hR.same s3
    have e3 := h3.keeps _ _ (s2 _ _ e1)
    refine ⟨_, rfl, l, rfl, ⟨_, SqL.of hl3⟩, fun D3 hD3 => ?_⟩
    refine lcG (as.zip rs) (fun ar => some (.bl (rowOkL ms ar.2))) (by rw [List.length_zip, ← hR.len, Nat.min_self]; exact walk_listL as V.ref) (by rw [List.length_zip]; omega) hD3 (yat_same _) (fun H' s => SqL.of (s _ _ hl3)) (fun i ar y H' H'' k1 hz sz hy k2 => ?_) (fun H4 s4 e4 => ?_)
    · obtain ⟨rfl, hy⟩ := hy
      rw [List.getElem?_zip_eq_some] at hz
      obtain rfl := map_get hz.1 hy
      have hrow := sz _ _ (hR3.get hz.1 hz.2)
      have kk := k2 _ (Same.refl _)
      refine ⟨rfl, _, rfl, ar.1, _, rfl, .inl (SqL.of hrow), rfl, _, rfl, ?_⟩
      rw [List.length_map, dec_int]
      have ed : ((ar.2.length : Int) == 3) = decide (ar.2.length = 3) := by
        by_cases hc : ar.2.length = 3
        · rw [hc]; rfl
        · rw [decide_eq_false hc]
          simp
          omega
      rw [ed]
      unfold rowOkL at kk
      refine ite2 (fun c3 => ?_) (fun c3 => ?_)
      · have h3' := of_decide_eq_true c3
        have hg : ar.2[2]? = some (ar.2.getD 2 Str.empty) := by
          rw [List.getD_eq_getElem?_getD, List.getElem?_eq_getElem (by omega)]
          rfl
        refine ⟨_, rfl, ar.1, _, _, V.str (ar.2.getD 2 Str.empty), rfl, rfl, SqL.of hrow, atI_nat (j := 2) (by rw [List.getElem?_map, hg]; rfl), _, rfl, D0, _, rfl, DGet.k (k := Sum.inr (ar.2.getD 2 Str.empty)) (sz _ _ e3), ?_⟩
        rw [dTrue_val]
        rw [c3, Bool.true_and] at kk
        exact kk
      · rw [Bool.eq_false_iff.mpr c3, Bool.false_and] at kk
        exact kk
    have ez : (as.zip rs).filterMap (fun ar => some (V.bl (rowOkL ms ar.2))) = (rs.map (rowOkL ms)).map V.bl := by
      rw [List.filterMap_eq_map', List.map_map]
      have : (as.zip rs).map Prod.snd = rs := List.map_snd_zip (by rw [hR.len]; exact Nat.le_refl _)
      conv => rhs; rw [← this, List.map_map]
      rfl
    rw [ez] at e4
    refine ⟨D3, _, rfl, SqL.of e4, _, rfl, ?_⟩
    have ea : (rs.map (rowOkL ms)).all id = rs.all (rowOkL ms) := by rw [List.all_map]; rfl
    rw [ea]
    have eg : goalsOkL x ms rs = rs.all (rowOkL ms) := by
      unfold goalsOkL
      rw [decide_eq_true ep, Bool.true_and]
    refine ite2 (fun c4 => ?_) (fun c4 => ?_)
    · refine kN ?_ _ (s3.trans s4)
      rw [eg]
      simpa using c4
    have c5 : rs.all (rowOkL ms) = true := by simpa using c4
    have hl4 := s4 _ _ hl3
    have hR4 := hR3.same s4
    refine ⟨_, rfl, l, rfl, ⟨_, SqL.of hl4⟩, fun D4 hD4 => ?_⟩
    refine dcGT (as.zip rs) (fun ar => [Sum.inr (ar.2.getD 0 Str.empty), Sum.inr (ar.2.getD 1 Str.empty)]) (fun ar => V.str (ar.2.getD 2 Str.empty)) (by rw [List.length_zip, ← hR.len, Nat.min_self]; exact walk_listL as V.ref) (by rw [List.length_zip]; omega) hD4 (yat_same _) (fun H' s => SqL.of (s _ _ hl4)) (fun i ar y H' H'' k1 k0 hz sz hy k2 => ?_) (fun H5 s5 e5 => ?_)
    · obtain ⟨rfl, hy⟩ := hy
      rw [List.getElem?_zip_eq_some] at hz
      obtain rfl := map_get hz.1 hy
      have hrow := sz _ _ (hR4.get hz.1 hz.2)
      have ok := List.all_eq_true.mp c5 ar.2 (List.mem_of_getElem? hz.2)
      unfold rowOkL at ok
      have h3' : ar.2.length = 3 := by simpa using (Bool.and_eq_true_iff.mp ok).1
      obtain ⟨u, v, z, huv⟩ : ∃ u v z, ar.2 = [u, v, z] := by
        match ar.2, h3' with
        | [u, v, z], _ => exact ⟨u, v, z, rfl⟩
      rw [huv] at hrow k2
      refine ⟨ar.1, _, rfl, SqL.of hrow, rfl, _, _, rfl, _, _, rfl, _, _, rfl, rfl, rfl, _, rfl, _, rfl, (by show 2 ≤ sizeLine; decide), fun t ht => ⟨_, rfl, k2 t _ (same_new ht) upd_same⟩⟩
    · refine kY (by rw [eg]; exact c5) D4 H5 ((s3.trans s4).free hD4) ((s3.trans s4).trans s5) ?_
      rw [e5]
      congr 2
      unfold goalsD dOf
      have : (as.zip rs).map Prod.snd = rs := List.map_snd_zip (by rw [hR.len]; exact Nat.le_refl _)
      conv => rhs; rw [← this, List.foldl_map]
end
end My
namespace My
open PySem PySem.Spec PyProof.Rows L2 PySem.GX
theorem join_mem (y : Str) : ∀ (parts : List Str) (p : Str), p ∈ parts → ∀ c ∈ p.cps.toList, c ∈ (Str.join y parts).cps.toList
  | [], _, h, _, _ => by simp at h
  | [x], p, h, c, hc => by
    simp at h; subst h
    exact hc
  | x :: z :: r, p, h, c, hc => by
    show c ∈ (x ++ y ++ Str.join y (z :: r)).cps.toList
    rw [cps_app, cps_app]
    simp only [List.mem_append]
    rcases List.mem_cons.mp h with rfl | h
    · exact .inl (.inl hc)
    · exact .inr (join_mem y (z :: r) p h c hc)
theorem ok_of_mem {x p : Str} (h : ∀ c ∈ p.cps.toList, c ∈ x.cps.toList) (ho : PyData.strOk x = true) : PyData.strOk p = true := by
  unfold PyData.strOk at ho ⊢
  rw [Array.all_eq_true_iff_forall_mem] at ho ⊢
  intro c hc
  exact ho c (by simpa using h c (by simpa using hc))
theorem split_ok {x y p : Str} (h : p ∈ Txt.split x y) (ho : PyData.strOk x = true) : PyData.strOk p = true := by
  refine ok_of_mem (fun c hc => ?_) ho
  have := join_mem y _ p h c hc
  rw [StrLaws.join_split] at this
  exact this
theorem mem_le_sum : ∀ {l : List Nat} {a : Nat}, a ∈ l → a ≤ l.sum
  | b :: t, a, h => by
    rw [List.sum_cons]
    rcases List.mem_cons.mp h with rfl | h
    · omega
    · have := mem_le_sum h
      omega
theorem split_small {x p : Str} {c : Nat} (h : p ∈ Txt.split x (sg c)) : p.length ≤ x.length := by
  have := split_weight x (sg c) (Nat.le_refl 1)
  have h1 := mem_le_sum (List.mem_map.mpr ⟨p, h, rfl⟩ : p.length ∈ (Txt.split x (sg c)).map (·.length))
  have h2 : 0 < (Txt.split x (sg c)).length := List.length_pos_of_mem h
  omega
theorem split_few (x : Str) (c : Nat) : (Txt.split x (sg c)).length ≤ x.length + 1 := by
  have := split_weight x (sg c) (Nat.le_refl 1)
  omega
theorem split_ne (x : Str) (c : Nat) : Txt.split x (sg c) ≠ [] := fun e => by
  have := split_len x c
  rw [e] at this
  simp at this
  have h : ∀ l : List Nat, 0 ≤ cnt c l := by
    intro l
    induction l with
    | nil => exact Int.le_refl 0
    | cons n t ih =>
      rw [cnt_cons]
      split <;> omega
  have := h x.cps.toList
  omega
end My
namespace My
open PySem PySem.Spec PyProof.Rows L2 PySem.GX
abbrev nl : Str := sg 10
abbrev sp : Str := sg 32
def rowsL (t : Str) : List (List Str) := (Txt.split t nl).map fun y => Txt.split y sp
abbrev titles : List Str := ["signs", "moods", "good"]
structure Parts where
  sg : Str
  ms : List Str
  gs : List Str
  rs : List (List Str)
/-- what a text writes, from its rows of words -/
def partsL : List (List Str) → Option Parts
  | (t0 :: s0) :: (t1 :: m0) :: (t2 :: g0) :: rs =>
    if [t0, t1, t2] = titles ∧ areSignsL s0 = true ∧ areMoodsL m0 = true ∧ areGoodL g0 m0 = true ∧ goalsOkL (s0.getD 0 Str.empty) m0 rs = true then some ⟨s0.getD 0 Str.empty, m0, g0, rs⟩ else none
  | _ => none
def parseL (t : Str) : Option Parts := partsL (rowsL t)
/-- the parts stand as the tuple T -/
def PartsAt (H : Hp) (T : Addr) (p : Parts) : Prop := ∃ M G D, H T = some (.tup [.str p.sg, .ref M, .ref G, .ref D]) ∧ H M = some (.tup (p.ms.map V.str)) ∧ H G = some (.tup (p.gs.map V.str)) ∧ H D = some (.dT (goalsD p.rs))
def spRead : Sp := fun vs H Q _ => ∃ t : Str, vs = [.str t] ∧ t.length ≤ 1000000 ∧ PyData.strOk t = true ∧ (parseL t = none → ∀ H', Same H H' → Q .non H') ∧ ∀ p, parseL t = some p → ∀ T H', Same H H' → PartsAt H' T p → Q (.ref T) H'
theorem rows_ne {t : Str} : ∀ r ∈ rowsL t, r ≠ [] := fun r hr => by
  obtain ⟨y, _, rfl⟩ := List.mem_map.mp hr
  exact split_ne y 32
theorem rows_ok {t : Str} (ht : PyData.strOk t = true) : ∀ r ∈ rowsL t, ∀ y ∈ r, PyData.strOk y = true := fun r hr y hy => by
  obtain ⟨z, hz, rfl⟩ := List.mem_map.mp hr
  exact split_ok hy (split_ok hz ht)
theorem rows_small {t : Str} : ∀ r ∈ rowsL t, r.length ≤ t.length + 1 ∧ ∀ y ∈ r, y.length ≤ t.length := fun r hr => by
  obtain ⟨z, hz, rfl⟩ := List.mem_map.mp hr
  have h1 := split_small hz
  have h2 : (Txt.split z sp).length ≤ z.length + 1 := split_few z 32
  exact ⟨by omega, fun y hy => Nat.le_trans (split_small hy) h1⟩
theorem rows_few (t : Str) : (rowsL t).length ≤ t.length + 1 := by
  unfold rowsL
  rw [List.length_map]
  exact split_few t 10
theorem heads_is {rs : List (List Str)} (hne : ∀ r ∈ rs, r ≠ []) (h : (rs.take 3).map (fun r => r.headD Str.empty) = titles) : ∃ s0 m0 g0 rest, rs = (("signs" : Str) :: s0) :: (("moods" : Str) :: m0) :: (("good" : Str) :: g0) :: rest := by
  match rs, hne, h with
  | [], _, h => cases h
  | [_], _, h => simp at h
  | [_, _], _, h => simp at h
  | a :: b :: c :: rest, hne, h =>
    have na := hne a (by simp)
    have nb := hne b (by simp)
    have nc := hne c (by simp)
    obtain ⟨x, xs, rfl⟩ := List.exists_cons_of_ne_nil na
    obtain ⟨y, ys, rfl⟩ := List.exists_cons_of_ne_nil nb
    obtain ⟨z, zs, rfl⟩ := List.exists_cons_of_ne_nil nc
    have h' : [x, y, z] = titles := h
    injection h' with e1 h'
    injection h' with e2 h'
    injection h' with e3 h'
    subst e1 e2 e3
    exact ⟨xs, ys, zs, rest, rfl⟩
theorem parts_none {rs : List (List Str)} (h : ¬ (rs.take 3).map (fun r => r.headD Str.empty) = titles) : partsL rs = none := by
  unfold partsL
  split
  · rename_i t0 s0 t1 m0 t2 g0 rs'
    rw [if_neg]
    intro z
    exact h z.1
  · rfl
theorem parts_is (s0 m0 g0 : List Str) (rest : List (List Str)) : partsL ((("signs" : Str) :: s0) :: (("moods" : Str) :: m0) :: (("good" : Str) :: g0) :: rest) =
    if areSignsL s0 = true ∧ areMoodsL m0 = true ∧ areGoodL g0 m0 = true ∧ goalsOkL (s0.getD 0 Str.empty) m0 rest = true then some ⟨s0.getD 0 Str.empty, m0, g0, rest⟩ else none := by
  unfold partsL
  simp only [true_and]
theorem signs_one {s0 : List Str} (h : areSignsL s0 = true) : ∃ x, s0 = [x] ∧ x.length ≤ 3 := by
  match s0, h with
  | [x], h =>
    rw [areS1] at h
    simp only [Bool.and_eq_true] at h
    exact ⟨x, rfl, of_decide_eq_true h.1.1.2⟩
theorem moods_few {m0 : List Str} (h : areMoodsL m0 = true) : m0.length ≤ 300 := by
  unfold areMoodsL at h
  simp only [Bool.and_eq_true] at h
  exact of_decide_eq_true h.1.1.2
section
variable {P : Program} {w : World} {K : PySem.W.Frag} {mg : Str → Option Value} {base : Heap}
abbrev nRead : List Str := ["text", "rows", "signs", "moods", "good", "goals", "line", "row"]
theorem scRead : FnScope nRead ["text"] (defScope sRead) := ⟨rfl, rfl, rfl, by decide +kernel, rfl, by decide +kernel, by decide +kernel⟩
theorem ok_read {f tT : Addr} {fd : FuncData} (F : Fun K "read_rule" "read_rule" sRead f fd) (h1 : Hv P w K mg base 2 "are_signs" ["words"] (spSigns K)) (h2 : Hv P w K mg base 3 "are_moods" ["words"] (spMoods K)) (h3 : Hv P w K mg base 1 "are_good" ["words", "moods"] (spGood K))
    (h4 : Hv P w K mg base 1 "read_goals" ["signs", "moods", "rows"] spGoals) (gT : mg "TITLES" = some (.ref tT)) (kT : ∀ H, SqT K H tT (titles.map V.str)) (hLi : mg "list" = none) (hTu : mg "tuple" = none) : FnOk P w K mg base CX0 4 f fd ["text"] spRead := by
  refine F.ok scRead (fun vs H Q E h => ?_) (fun cdv A outer s H vs Q E hr h => ?_)
  · obtain ⟨t, rfl, _⟩ := h
    rfl
  · obtain ⟨t, rfl, zt, ot, kN, kY⟩ := h
    refine ⟨_, pss_cons (ps_setLc (i := 1) (own := [("line", 6)]) (g := gName 6) (tt := tYes) rfl scRead.nd rfl rfl (sw_true rfl rfl rfl (by decide +kernel)) (pi_list (pe_split (pv 0) pe_str))
          (blkOk_by (N := nRead) (sc := defScope sRead) (by decide +kernel)) (fun _ _ _ _ _ => pg_name (i := 6) scRead.nd rfl (Or.inl rfl)) (fun _ _ _ _ _ => pts_nil) (fun _ _ _ _ _ => pe_split (pv 6) pe_str))
      (pss_cons (ps_if (pt_cmpR (op_neD hr.units) (pe_lc (own := [("row", 7)]) (g := gName 7) (tt := tYes) rfl scRead.nd (pi_list (pe_slice sl_list (pv 1) po_none (po_some pe_int)))
            (blkOk_by (N := nRead) (sc := defScope sRead) (by decide +kernel)) (fun _ _ _ _ _ => pg_name (i := 7) scRead.nd rfl (Or.inl rfl)) (fun _ _ _ _ _ => pts_nil) (te := tOp (rIxL K) (tVar 7) (tC (.int 0))) (fun _ _ _ _ _ => pe_ix ix_list (pv 7) pe_int (fun _ _ => rfl)))
          (pe_callTy call_list_of (by rfl) hLi (by decide +kernel) (pa_cons (pe_glob (v := .ref tT) rfl gT rfl) pa_nil)) (nomark _))
        (pss_one (ps_ret pe_non)) pss_nil)
      (pss_cons (ps_asg (pe_lc (own := [("row", 7)]) (g := gName 7) (tt := tYes) rfl scRead.nd (pi_list (pe_slice sl_list (pv 1) po_none (po_some pe_int)))
            (blkOk_by (N := nRead) (sc := defScope sRead) (by decide +kernel)) (fun _ _ _ _ _ => pg_name (i := 7) scRead.nd rfl (Or.inl rfl)) (fun _ _ _ _ _ => pts_nil) (te := tSl (rSlL K) (tVar 7) (tPart (tC (.int 1))) tNoPart) (fun _ _ _ _ _ => pe_slice sl_list (pv 7) (po_some pe_int) po_none))
          (pg_unl (n := 3) rfl (pgs_cons (pg_name (i := 2) scRead.nd rfl (Or.inl rfl)) (pgs_cons (pg_name (i := 3) scRead.nd rfl (Or.inl rfl)) (pgs_cons (pg_name (i := 4) scRead.nd rfl (Or.inl rfl)) pgs_nil)))))
      (pss_cons (ps_if (pt_not (PW.pt (pw_and (pt_val (pe_cl h1 (hr.mono (by decide)) rfl pass0 (pa_cons (pv 2) pa_nil))) (pw_and (pt_val (pe_cl h2 hr rfl pass0 (pa_cons (pv 3) pa_nil))) (pw_and1 (pt_val (pe_cl h3 (hr.mono (by decide)) rfl pass0 (pa_cons (pv 4) (pa_cons (pv 3) pa_nil)))))))))
        (pss_one (ps_ret pe_non)) pss_nil)
      (pss_cons (ps_set (i := 5) scRead.nd rfl (Or.inl rfl) (pe_cl h4 (hr.mono (by decide)) rfl pass0 (pa_cons (pe_ix ix_list (pv 2) pe_int (fun _ _ => rfl)) (pa_cons (pv 3) (pa_cons (pe_slice sl_list (pv 1) (po_some pe_int) po_none) pa_nil)))))
      (pss_cons (ps_if (pt_cmpR op_isN (pv 5) pe_non (nomark _)) (pss_one (ps_ret pe_non)) pss_nil)
      (pss_one (ps_ret (pe_tup (pa_cons (pe_ix ix_list (pv 2) pe_int (fun _ _ => rfl)) (pa_cons (pe_callTy call_tuple_of (by rfl) hTu (by decide +kernel) (pa_cons (pv 3) pa_nil)) (pa_cons (pe_callTy call_tuple_of (by rfl) hTu (by decide +kernel) (pa_cons (pv 4) pa_nil)) (pa_cons (pv 5) pa_nil)))))))))))), ?_⟩
    have enl : (Str.ofString "\n") = nl := by decide +kernel
    have esp : (Str.ofString " ") = sp := by decide +kernel
    have z0 : t.length + 2 ≤ sizeLine := by rw [sizeLine_eq]; omega
    refine ⟨_, rfl, ⟨_, rfl⟩, t, _, rfl, rfl, rfl, z0, fun p0 hp0 => ⟨p0, rfl, ⟨_, SqL.of upd_same⟩, fun D0 hD0 => ?_⟩⟩
    rw [enl] at hD0 ⊢
    have hl0 : upd H p0 (.lst ((Txt.split t nl).map V.str)) p0 = some (.lst ((Txt.split t nl).map V.str)) := upd_same
    generalize eH0 : upd H p0 (.lst ((Txt.split t nl).map V.str)) = H0 at hD0 hl0 ⊢
    have s0 : Same H H0 := by rw [← eH0]; exact same_new hp0
    refine lc_it (walk_listL (Txt.split t nl) V.str) (fun i H' => Pr H0 D0 H' ((rowsL t).take i)) (Pr.zero hD0) (fun i H' _ h => SqL.of (h.keeps _ _ hl0)) (fun i y H' H'' hi h hy => ?_) (fun H1 g1 => ?_)
    · obtain ⟨rfl, hy⟩ := hy
      have ha : (Txt.split t nl)[i]? = some (Txt.split t nl)[i] := List.getElem?_eq_getElem hi
      obtain rfl := map_get ha hy
      have et : (rowsL t).take (i + 1) = (rowsL t).take i ++ [Txt.split (Txt.split t nl)[i] sp] := by
        unfold rowsL
        rw [List.take_add_one, List.getElem?_map, ha]
        rfl
      have zl := split_small (List.getElem_mem hi)
      refine ⟨rfl, _, rfl, ⟨_, rfl⟩, _, _, rfl, rfl, rfl, (by rw [sizeLine_eq]; omega), fun p hp => ?_⟩
      rw [et, esp]
      refine h.push hD0 hp ?_
      have := rows_few t
      rw [List.length_take]
      omega
    have g1' : Pr H0 D0 H1 (rowsL t) := by
      have : (rowsL t).take (Txt.split t nl).length = rowsL t := by
        have e : (Txt.split t nl).length = (rowsL t).length := by unfold rowsL; rw [List.length_map]
        rw [e, List.take_length]
      rw [this] at g1
      exact g1
    obtain ⟨as, s1', eD0, rw0⟩ := g1'.rw_
    have s1 := s0.trans s1'
    have nes := rows_ne (t := t)
    have oks := rows_ok (t := t) ot
    have sms := rows_small (t := t)
    have few := rows_few t
    generalize eR : rowsL t = rs at rw0 nes oks sms few
    have ep : parseL t = partsL rs := by rw [← eR]; rfl
    rw [ep] at kN kY
    clear g1 g1' ep eR
    have len := rw0.len
    -- the titles
    have ecut : cutV (as.map V.ref) none (some 3) = (as.take 3).map V.ref := by
      rw [show (3 : Int) = ((3 : Nat) : Int) from rfl, cut_toV _ 3 (by decide), List.map_take]
    refine ⟨_, rfl, 3, rfl, D0, _, rfl, SqL.of eD0, fun p3 hp3 => ⟨p3, rfl, ⟨_, SqL.of upd_same⟩, fun D1 hD1 => ?_⟩⟩
    rw [ecut] at hD1 ⊢
    have hl3 : upd H1 p3 (.lst ((as.take 3).map V.ref)) p3 = some (.lst ((as.take 3).map V.ref)) := upd_same
    generalize eH2 : upd H1 p3 (.lst ((as.take 3).map V.ref)) = H2 at hD1 hl3 ⊢
    have s2' : Same H1 H2 := by rw [← eH2]; exact same_new hp3
    have rw3 := (rw0.take 3).same s2'
    refine lcG ((as.take 3).zip (rs.take 3)) (fun ar => some (.str (ar.2.headD Str.empty))) (by rw [List.length_zip, ← rw3.len, Nat.min_self]; exact walk_listL (as.take 3) V.ref) (by rw [List.length_zip, List.length_take]; omega) hD1 (yat_same _) (fun H' s => SqL.of (s _ _ hl3)) (fun i ar y H' H'' k1 hz sz hy k2 => ?_) (fun H3 s3 e3 => ?_)
    · obtain ⟨rfl, hy⟩ := hy
      rw [List.getElem?_zip_eq_some] at hz
      obtain rfl := map_get hz.1 hy
      have hrow := sz _ _ (rw3.get hz.1 hz.2)
      have nr := nes ar.2 (List.mem_of_mem_take (List.mem_of_getElem? hz.2))
      obtain ⟨u, us, e⟩ := List.exists_cons_of_ne_nil nr
      rw [e] at hrow k2
      exact ⟨rfl, _, rfl, ar.1, _, _, _, rfl, rfl, SqL.of hrow, atI_nat (j := 0) rfl, k2 _ (Same.refl _)⟩
    have ez : ((as.take 3).zip (rs.take 3)).filterMap (fun ar => some (V.str (ar.2.headD Str.empty))) = ((rs.take 3).map (fun r => r.headD Str.empty)).map V.str := by
      rw [List.filterMap_eq_map', List.map_map]
      have : ((as.take 3).zip (rs.take 3)).map Prod.snd = rs.take 3 := List.map_snd_zip (by rw [rw3.len]; exact Nat.le_refl _)
      conv => rhs; rw [← this, List.map_map]
      rfl
    rw [ez] at e3
    refine ⟨tT, _, rfl, .inr (kT _), fun l4 hl4 => ?_⟩
    have s4 := ((s1.trans s2').trans s3).trans (same_new (o := .lst (titles.map V.str)) hl4)
    refine ⟨dTx _, dTx titles, dp_dTx (keep1 e3 hl4), dp_dTx upd_same, shaped_dTx (fun x hx => ?_), (by decide +kernel), _, rfl, ?_⟩
    · obtain ⟨r, h1, rfl⟩ := List.mem_map.mp hx
      have h2 := List.mem_of_mem_take h1
      obtain ⟨u, us, rfl⟩ := List.exists_cons_of_ne_nil (nes r h2)
      exact oks _ h2 u (by simp)
    rw [eqv_dTx]
    refine ite2 (fun c => kN (parts_none (by simpa using c)) _ s4) (fun c => ?_)
    obtain ⟨s0', m0, g0, rest, rfl⟩ := heads_is nes (by simpa using c)
    rw [parts_is] at kN kY
    generalize eH4 : upd H3 l4 (.lst (titles.map V.str)) = H4 at s4 ⊢
    have s14 : Same H1 H4 := by
      rw [← eH4]
      exact (s2'.trans s3).trans (same_new hl4)
    have eD4 := s14 _ _ eD0
    have rw4 := rw0.same s14
    clear e3 rw3 ez hl3 eH2 hD1 hp3 hl4 eH4 s3 s2' c
    -- the three lists
    refine ⟨_, rfl, 3, rfl, D0, _, rfl, SqL.of eD4, fun p5 hp5 => ⟨p5, rfl, ⟨_, SqL.of upd_same⟩, fun D2 hD2 => ?_⟩⟩
    rw [ecut] at hD2 ⊢
    have hl5 : upd H4 p5 (.lst ((as.take 3).map V.ref)) p5 = some (.lst ((as.take 3).map V.ref)) := upd_same
    generalize eH5 : upd H4 p5 (.lst ((as.take 3).map V.ref)) = H5 at hD2 hl5 ⊢
    have s5' : Same H4 H5 := by rw [← eH5]; exact same_new hp5
    have rw5 := (rw4.take 3).same s5'
    refine lc_it (walk_listL (as.take 3) V.ref) (fun i H' => Pr H5 D2 H' ([s0', m0, g0].take i)) (Pr.zero hD2) (fun i H' _ h => SqL.of (h.keeps _ _ hl5)) (fun i y H' H'' hi h hy => ?_) (fun H6 g6 => ?_)
    · obtain ⟨rfl, hy⟩ := hy
      have ha : (as.take 3)[i]? = some (as.take 3)[i] := List.getElem?_eq_getElem hi
      obtain rfl := map_get ha hy
      have hi3 : i < 3 := by rw [List.length_take] at hi; omega
      have row : ∃ u us, [(("signs" : Str) :: s0'), (("moods" : Str) :: m0), (("good" : Str) :: g0)][i]? = some (u :: us) ∧ [s0', m0, g0][i]? = some us := by
        match i, hi3 with
        | 0, _ => exact ⟨_, _, rfl, rfl⟩
        | 1, _ => exact ⟨_, _, rfl, rfl⟩
        | 2, _ => exact ⟨_, _, rfl, rfl⟩
      obtain ⟨u, us, hu, hus⟩ := row
      refine ⟨rfl, _, rfl, 1, rfl, (as.take 3)[i], _, rfl, SqL.of (h.keeps _ _ (rw5.get ha hu)), fun p hp => ?_⟩
      rw [show (1 : Int) = ((1 : Nat) : Int) from rfl, cut_fromV _ 1 (by decide)]
      have et : [s0', m0, g0].take (i + 1) = [s0', m0, g0].take i ++ [us] := by
        rw [List.take_add_one, hus]
        rfl
      rw [et]
      exact h.push (r := us) hD2 hp (by rw [List.length_take]; simp; omega)
    have g6' : Pr H5 D2 H6 [s0', m0, g0] := by
      have : [s0', m0, g0].take (as.take 3).length = [s0', m0, g0] := by
        rw [List.length_take, len]
        simp
      rw [this] at g6
      exact g6
    obtain ⟨bs, s6', eD6, rw6⟩ := g6'.rw_
    have s6 := (s4.trans s5').trans s6'
    have s16 := (s14.trans s5').trans s6'
    have eR6 := s16 _ _ eD0
    have rr6 := rw0.same s16
    clear g6 g6' rw5 hl5 eH5 hD2 s6' s5' rw4 eD4 hp5
    cases rw6 with
    | cons e1 t1 =>
    cases t1 with
    | cons e2 t2 =>
    cases t2 with
    | cons e3 t3 =>
    cases t3
    rename_i a1 a2 a3
    refine ⟨D2, _, rfl, SqL.of eD6, rfl, _, _, rfl, _, _, rfl, _, _, rfl, rfl, ?_⟩
    have m1 := sms (("signs" : Str) :: s0') (by simp)
    have m2 := sms (("moods" : Str) :: m0) (by simp)
    have m3 := sms (("good" : Str) :: g0) (by simp)
    have o1 := oks (("signs" : Str) :: s0') (by simp)
    have o2 := oks (("moods" : Str) :: m0) (by simp)
    have o3 := oks (("good" : Str) :: g0) (by simp)
    simp only [List.length_cons] at m1 m2 m3
    refine ⟨_, rfl, a1, s0', rfl, e1, fun x hx => Nat.le_trans (m1.2 x (by simp [hx])) (by omega), fun H7 s7 => ⟨_, rfl, ite2 (fun c1 => ?_) (fun c1 => ?_)⟩⟩
    rotate_left
    · exact kN (by rw [if_neg (fun z => c1 z.1)]) _ (s6.trans s7)
    refine ⟨_, rfl, a2, m0, rfl, s7 _ _ e2, fun x hx => Nat.le_trans (m2.2 x (by simp [hx])) (by omega), fun H8 s8 => ⟨_, rfl, ite2 (fun c2 => ?_) (fun c2 => ?_)⟩⟩
    rotate_left
    · exact kN (by rw [if_neg (fun z => c2 z.2.1)]) _ ((s6.trans s7).trans s8)
    have s68 := s7.trans s8
    refine ⟨_, rfl, _, rfl, a3, a2, g0, m0, rfl, s68 _ _ e3, s68 _ _ e2, (by omega), (by omega), fun x hx => o3 x (by simp [hx]), fun x hx => o2 x (by simp [hx]), fun H9 s9 => ⟨_, rfl, ite2 (fun c3 => ?_) (fun c3 => ?_)⟩⟩
    · refine kN ?_ _ ((s6.trans s68).trans s9)
      rw [if_neg]
      intro z
      rw [z.2.2.1] at c3
      cases c3
    have c3' : areGoodL g0 m0 = true := by simpa using c3
    have s69 := s68.trans s9
    obtain ⟨x, rfl, zx⟩ := signs_one c1
    have zm := moods_few c2
    have rest9 := (rr6.same s69).drop 3
    refine ⟨_, rfl, a1, _, _, _, rfl, rfl, SqL.of (s69 _ _ e1), atI_nat (j := 0) rfl, _, rfl, _, rfl, 3, rfl, D0, _, rfl, SqL.of (s69 _ _ eR6), fun p7 hp7 => ?_⟩
    rw [show (3 : Int) = ((3 : Nat) : Int) from rfl, cut_fromV _ 3 (by decide), ← List.map_drop]
    have s10 := s69.trans (same_new (o := .lst ((as.drop 3).map V.ref)) hp7)
    refine ⟨x, a2, p7, m0, as.drop 3, rest, rfl, s10 _ _ e2, upd_same, rest9.same (same_new hp7), zx, zm, ?_, o1 x (by simp), fun y hy => o2 y (by simp [hy]), fun r hr y hy => oks r (by simp [hr]) y hy, fun c4 H10 s11 => ?_, fun c4 D H10 hD s11 eD => ?_⟩
    · simp only [List.length_cons] at few
      omega
    · refine ⟨_, rfl, rfl, _, rfl, iteT (kN ?_ _ ((s6.trans s10).trans s11))⟩
      rw [if_neg]
      intro z
      have := z.2.2.2
      simp only [List.getD_cons_zero] at this
      rw [c4] at this
      cases this
    · refine ⟨_, rfl, rfl, _, rfl, iteF ?_⟩
      have q1 := (s10.trans s11) _ _ e1
      have q2 := (s10.trans s11) _ _ e2
      have q3 := (s10.trans s11) _ _ e3
      refine ⟨_, rfl, a1, _, _, _, rfl, rfl, SqL.of q1, atI_nat (j := 0) rfl, _, rfl, a2, _, rfl, .inl ⟨SqL.of q2, fun M hM => ?_⟩⟩
      refine ⟨_, rfl, a3, _, rfl, .inl ⟨SqL.of (keep1 q3 hM), fun G hG => ?_⟩⟩
      refine ⟨_, rfl, (by show 4 ≤ sizeLine; decide), fun T hT => ?_⟩
      refine kY _ (by rw [if_pos ⟨c1, c2, c3', c4⟩]) T _ (((((s6.trans s10).trans s11).trans (same_new hM)).trans (same_new hG)).trans (same_new hT)) ⟨M, G, D, upd_same, keep1 (keep1 upd_same hG) hT, keep1 upd_same hT, keep1 (keep1 (keep1 eD hM) hG) hT⟩
end
end My
namespace My
open PySem PySem.Spec PyProof.Rows L2
abbrev kT (t : Str) (c : Nat) : List Key := [Sum.inr t, Sum.inr (sg c)]
def gf (kvs : List (List Key × V)) (t : Str) (c : Nat) : Str := match valV kvs (kT t c) with
  | some (.str y) => y
  | _ => Str.empty
theorem gf_is {kvs : List (List Key × V)} {t : Str} {c : Nat} {y : Str} (h : valV kvs (kT t c) = some (.str y)) : gf kvs t c = y := by
  unfold gf
  rw [h]
end My
namespace My
open PySem PySem.Spec PyProof.Rows L2
/-- the fields of a rule -/
abbrev rFs (t : Str) (p : Parts) (M G D : Addr) : List (Str × V) := [("written", .str t), ("letters", .str p.sg), ("words", .ref M), ("chosen", .ref G), ("goals", .ref D)]
/-- a rule stands at a -/
def RuleAt (H : Hp) (C a : Addr) (t : Str) (p : Parts) : Prop := ∃ dx M G D, H a = some (.ins C dx (rFs t p M G D)) ∧ H M = some (.tup (p.ms.map V.str)) ∧ H G = some (.tup (p.gs.map V.str)) ∧ H D = some (.dT (goalsD p.rs))
theorem RuleAt.same {H H' : Hp} {C a : Addr} {t : Str} {p : Parts} (h : RuleAt H C a t p) (s : Same H H') : RuleAt H' C a t p := by
  obtain ⟨dx, M, G, D, e1, e2, e3, e4⟩ := h
  exact ⟨dx, M, G, D, s _ _ e1, s _ _ e2, s _ _ e3, s _ _ e4⟩
def spInit (C : Addr) : Sp := fun vs H Q _ => ∃ (a dx : Addr) (t : Str) (p : Parts), vs = [.ref a, .str t] ∧ H a = some (.ins C dx []) ∧ t.length ≤ 1000000 ∧ PyData.strOk t = true ∧ parseL t = some p ∧
  ∀ H', (∀ b o, b ≠ a → H b = some o → H' b = some o) → RuleAt H' C a t p → Q .non H'
/-- what is fixed of the class -/
structure RuC (K : PySem.W.Frag) (C : Addr) : Prop where
  cl : Cls K C
  f1 : NoAttr K C "written"
  f2 : NoAttr K C "letters"
  f3 : NoAttr K C "words"
  f4 : NoAttr K C "chosen"
  f5 : NoAttr K C "goals"
section
variable {P : Program} {w : World} {K : PySem.W.Frag} {mg : Str → Option Value} {base : Heap}
abbrev sInit : Stmt := inClass sRule 0
abbrev nInit : List Str := ["self", "text", "parts"]
theorem scInit : FnScope nInit ["self", "text"] (defScope sInit) := ⟨rfl, rfl, rfl, by decide +kernel, rfl, by decide +kernel, by decide +kernel⟩
theorem ok_init {f C : Addr} {fd : FuncData} (F : Fun K "__init__" "Rule.__init__" sInit f fd) (T : RuC K C) (hR : Hv P w K mg base 4 "read_rule" ["text"] spRead) (hIs : mg "isinstance" = none) (hSt : mg "str" = none) : FnOk P w K mg base CX0 5 f fd ["self", "text"] (spInit C) := by
  refine F.ok scInit (fun vs H Q E h => ?_) (fun cdv A outer s H vs Q E hr h => ?_)
  · obtain ⟨a, dx, t, p, rfl, _⟩ := h
    rfl
  · obtain ⟨a, dx, t, p, rfl, ha, zt, ot, pt, k⟩ := h
    refine ⟨_, pss_cons (ps_set (i := 2) scInit.nd rfl (Or.inl rfl) (pe_ifExp (pt_val (pe_callB call_isi (by rfl) hIs (by decide +kernel) (pa_cons (pv 1) (pa_cons (pe_bltn (v := .ty "str") (by rfl) hSt (by decide +kernel) rfl) pa_nil)))) (pe_cl hR hr rfl pass0 (pa_cons (pv 1) pa_nil)) pe_non))
      (pss_cons (ps_if (pt_cmpR op_isN (pv 2) pe_non (nomark _)) (pss_one ps_never) pss_nil)
      (pss_cons (ps_fld (pv 0) (pv 1) rfl)
      (pss_one (ps_asg (pv 2) (pg_tup (by rfl) (pgs_cons (pg_fld (pv 0)) (pgs_cons (pg_fld (pv 0)) (pgs_cons (pg_fld (pv 0)) (pgs_cons (pg_fld (pv 0)) pgs_nil))))))))), ?_⟩
    refine ⟨_, rfl, .str t, .ty "str", _, .type "str", true, rfl, .ty _, .base (.str t), kit_ty (by decide +kernel), _, rfl, iteT ?_⟩
    refine ⟨_, rfl, t, rfl, zt, ot, (fun z => by rw [pt] at z; cases z), fun p' hp' T' H1 s1 hT => ?_⟩
    rw [pt] at hp'
    cases hp'
    obtain ⟨M, G, D, e1, e2, e3, e4⟩ := hT
    have ea := s1 _ _ ha
    refine ⟨_, rfl, rfl, _, rfl, iteF ?_⟩
    refine ⟨_, rfl, _, rfl, a, C, dx, _, rfl, ea, T.cl, T.f1, by decide, ?_⟩
    have ne : ∀ {b : Addr} {xs : List V}, H1 b = some (.tup xs) → b ≠ a := fun e => ne_of e ea (by intro z; cases z)
    have nD : D ≠ a := ne_of e4 ea (by intro z; cases z)
    refine ⟨_, rfl, T', _, rfl, SqT.of (by rw [upd_ne (ne e1)]; exact e1), rfl, _, _, rfl, _, rfl, a, C, dx, _, rfl, upd_same, T.cl, T.f2, (by show 1 < 1000; decide), ?_⟩
    rw [upd_upd]
    refine ⟨_, _, rfl, _, rfl, a, C, dx, _, rfl, upd_same, T.cl, T.f3, (by show 2 < 1000; decide), ?_⟩
    rw [upd_upd]
    refine ⟨_, _, rfl, _, rfl, a, C, dx, _, rfl, upd_same, T.cl, T.f4, (by show 3 < 1000; decide), ?_⟩
    rw [upd_upd]
    refine ⟨_, _, rfl, _, rfl, a, C, dx, _, rfl, upd_same, T.cl, T.f5, (by show 4 < 1000; decide), ?_⟩
    rw [upd_upd]
    refine ⟨rfl, k _ (fun b o n e => by rw [upd_ne n]; exact s1 _ _ e) ⟨dx, M, G, D, upd_same, ?_, ?_, ?_⟩⟩
    · rw [upd_ne (ne e2)]; exact e2
    · rw [upd_ne (ne e3)]; exact e3
    · rw [upd_ne nD]; exact e4
end
end My
namespace My
open PySem PySem.Spec PyProof.Rows L2 PySem.GX
def isRowL (x r : Str) : Bool := decide (r.length ≤ 1000) && r.cps.toList.all fun c => decide (c ∈ x.cps.toList)
/-- v is no row of the signs x -/
def NoRow (K : PySem.W.Frag) (H : Hp) (x : Str) (v : V) : Prop := (∃ r, v = .str r ∧ r.length ≤ 16000000 ∧ isRowL x r = false) ∨ ∃ ty, TyX K H v ty ∧ PySem.W.kitOne K ty (.type "str") = some false
end My
namespace My
open PySem PySem.Spec PyProof.Rows L2 PySem.GX
def spRow : Sp := fun vs H Q _ => ∃ (r x : Str), vs = [.str r, .str x] ∧ r.length ≤ 16000000 ∧ ∀ H', Same H H' → Q (.bl (isRowL x r)) H'
def spRowX (K : PySem.W.Frag) : Sp := fun vs H Q _ => ∃ (v : V) (x : Str), vs = [v, .str x] ∧ NoRow K H x v ∧ ∀ H', Same H H' → Q (.bl false) H'
section
variable {P : Program} {w : World} {K : PySem.W.Frag} {mg : Str → Option Value} {base : Heap}
theorem pe_neverE {X : Cx} {e : Expr} : PE X e (fun _ _ _ => False) := ⟨fun _ _ _ _ _ _ h => h.elim⟩
theorem FnOk.or_ {CX : CXT} {k : Nat} {f : Addr} {fd : FuncData} {ps : List Str} {s1 s2 : Sp} (a : FnOk P w K mg base CX k f fd ps s1) (b : FnOk P w K mg base CX k f fd ps s2) : FnOk P w K mg base CX k f fd ps (fun vs H Q E => s1 vs H Q E ∨ s2 vs H Q E) :=
  ⟨fun vs H Q E h => h.elim (a.len vs H Q E) (b.len vs H Q E), fun A outer s H args us vs Q E hr e0 hb r h => h.elim (a.run A outer s H args us vs Q E hr e0 hb r) (b.run A outer s H args us vs Q E hr e0 hb r)⟩
theorem FnOk.imp_ {CX : CXT} {k : Nat} {f : Addr} {fd : FuncData} {ps : List Str} {s1 s2 : Sp} (a : FnOk P w K mg base CX k f fd ps s1) (m : ∀ vs H Q E, s2 vs H Q E → s1 vs H Q E) : FnOk P w K mg base CX k f fd ps s2 :=
  ⟨fun vs H Q E h => a.len vs H Q E (m _ _ _ _ h), fun A outer s H args us vs Q E hr e0 hb r h => a.run A outer s H args us vs Q E hr e0 hb r (m _ _ _ _ h)⟩
theorem scRow : FnScope ["value", "letters"] ["value", "letters"] (defScope sRowOf) := ⟨rfl, rfl, rfl, by decide +kernel, rfl, by decide +kernel, by decide +kernel⟩
theorem made_all (x r : Str) : madeL r x = r.cps.toList.all fun c => decide (c ∈ x.cps.toList) := by
  unfold madeL
  rw [List.all_map]
  rfl
theorem ok_row {f : Addr} {fd : FuncData} {tA : Tok} (F : Fun K "is_row_of" "is_row_of" sRowOf f fd) (hO : Hv P w K mg base 1 "made_of" ["text", "letters"] spMade) (hIs : mg "isinstance" = none) (hSt : mg "str" = none) (hL : mg "len" = none) (gM : mg "MOST_ROW" = some (.int 1000 tA)) : FnOk P w K mg base CX0 2 f fd ["value", "letters"] spRow := by
  refine F.ok scRow (fun vs H Q E h => ?_) (fun cdv A outer s H vs Q E hr h => ?_)
  · obtain ⟨r, x, rfl, _⟩ := h
    rfl
  · obtain ⟨r, x, rfl, zr, k⟩ := h
    refine ⟨_, pss_one (ps_ret (pe_and (pe_callB call_isi (by rfl) hIs (by decide +kernel) (pa_cons (pv 0) (pa_cons (pe_bltn (v := .ty "str") (by rfl) hSt (by decide +kernel) rfl) pa_nil)))
        (pe_and (pe_cmpR op_le (pe_callB call_len_str (by rfl) hL PySem.boot_len (pa_cons (pv 0) pa_nil)) (pe_glob (v := .int 1000) rfl gM ⟨_, rfl⟩) (nomark _)) (pe_one (pe_cl hO hr rfl pass0 (pa_cons (pv 0) (pa_cons (pv 1) pa_nil))))))), ?_⟩
    refine ⟨_, rfl, .str r, .ty "str", _, .type "str", true, rfl, .ty _, .base (.str r), kit_ty (by decide +kernel), _, rfl, iteT ?_⟩
    refine ⟨_, rfl, r, rfl, (by rw [sizeLine_eq]; omega), _, _, rfl, rfl, _, rfl, ite2 (fun c => ?_) (fun c => ?_)⟩
    · have h1 : (r.length : Int) ≤ 1000 := of_decide_eq_true c
      refine ⟨_, rfl, _, rfl, r, x, rfl, zr, fun H' s' => ?_⟩
      have e : madeL r x = isRowL x r := by
        unfold isRowL
        rw [decide_eq_true (by omega : r.length ≤ 1000), Bool.true_and, made_all]
      rw [e]
      exact k _ s'
    · have h1 : ¬ (r.length : Int) ≤ 1000 := by simpa using c
      have e : isRowL x r = false := by
        unfold isRowL
        rw [decide_eq_false (by omega : ¬ r.length ≤ 1000)]
        rfl
      rw [e] at k
      exact k _ (Same.refl _)
def spRowT (K : PySem.W.Frag) : Sp := fun vs H Q _ => ∃ (v : V) (x : Str) (ty : Value), vs = [v, .str x] ∧ TyX K H v ty ∧ PySem.W.kitOne K ty (.type "str") = some false ∧ Q (.bl false) H
theorem ok_rowT {f : Addr} {fd : FuncData} (F : Fun K "is_row_of" "is_row_of" sRowOf f fd) (hIs : mg "isinstance" = none) (hSt : mg "str" = none) : FnOk P w K mg base CX0 2 f fd ["value", "letters"] (spRowT K) := by
  refine F.ok scRow (fun vs H Q E h => ?_) (fun cdv A outer s H vs Q E hr h => ?_)
  · obtain ⟨v, x, ty, rfl, _⟩ := h
    rfl
  · obtain ⟨v, x, ty, rfl, hty, hk, k⟩ := h
    refine ⟨_, pss_one (ps_ret (pe_and (pe_callB call_isi (by rfl) hIs (by decide +kernel) (pa_cons (pv 0) (pa_cons (pe_bltn (v := .ty "str") (by rfl) hSt (by decide +kernel) rfl) pa_nil))) pe_neverE)), ?_⟩
    exact ⟨_, rfl, v, .ty "str", ty, .type "str", false, rfl, .ty _, hty, hk, _, rfl, iteF k⟩
theorem ok_rowX {f : Addr} {fd : FuncData} {tA : Tok} (F : Fun K "is_row_of" "is_row_of" sRowOf f fd) (hO : Hv P w K mg base 1 "made_of" ["text", "letters"] spMade) (hIs : mg "isinstance" = none) (hSt : mg "str" = none) (hL : mg "len" = none) (gM : mg "MOST_ROW" = some (.int 1000 tA)) : FnOk P w K mg base CX0 2 f fd ["value", "letters"] (spRowX K) := by
  refine FnOk.imp_ (FnOk.or_ (ok_row F hO hIs hSt hL gM) (ok_rowT F hIs hSt)) fun vs H Q E ⟨v, x, e, nr, k⟩ => ?_
  rcases nr with ⟨r, rfl, zr, ir⟩ | ⟨ty, hty, hk⟩
  · exact .inl ⟨r, x, e, zr, by rw [ir]; exact k⟩
  · exact .inr ⟨v, x, ty, e, hty, hk, k _ (Same.refl _)⟩
end
end My
namespace My
open PySem PySem.Spec PyProof.Rows L2
abbrev sMood : Stmt := inClass sRule 8
abbrev sHas : Stmt := inClass sRule 9
/-- the method x of C is there, and keeps the promise -/
structure HvM (P : Program) (w : World) (K : PySem.W.Frag) (mg : Str → Option Value) (base : Heap) (k : Nat) (C : Addr) (x : Str) (ps : List Str) (sp : Sp) : Prop where
  ex : ∃ (f : Addr) (fd : FuncData), FnOk P w K mg base CX0 k f fd ps sp ∧ Binds K fd ps [] ∧ Meth K C x f
theorem pe_mt {X : Cx} {k : Nat} {C : Addr} {x : Str} {ps : List Str} {sp : Sp} {apos pos : Pos} {o e : Expr} {es : List Expr} {ta : TE} {t : TA} {E : XK} {pl : Sem Bool} (h : HvM X.prog X.w X.K X.mg X.base k C x ps sp) (ho : PE X o ta) (c : Cls X.K C) (hr : Room k X.A) (hx : Passes CX0 X E) (ha : PA X (e :: es) t)
    (hst : starEach (e :: es) X.env = (false, eval e X.env) :: starEach es X.env := by rfl) (hpl : (backTo pos (starEach es X.env)).any (·.1) = false := by rfl)
    (ht : eval (.Call (.Attribute o x apos) (e :: es) [] pos) X.env = (do
      let ov ← eval o X.env
      standAt apos.atName
      let (f, first) ← holding [ov] (getMethod ov x pl)
      callWith pos f first (backTo pos (starEach (e :: es) X.env)) (backToKw pos (keywordEach [] X.env))) := by rfl) :
    PE X (.Call (.Attribute o x apos) (e :: es) [] pos) (tMeth C x sp [] E ta t) := by
  obtain ⟨f, fd, F, b, m⟩ := h.ex
  exact pe_meth ho c m F hr b .nil hx ha hst hpl ht
theorem pe_fldK {X : Cx} {K : PySem.W.Frag} {e : Expr} {f : Str} {ta : TE} {pos : Pos} (h : X.K = K) (he : PE X e ta) (hb : attributeBase e f X.env (eval e X.env) = eval e X.env) : PE X (.Attribute e f pos) (tFld K ta f) := by subst h; exact pe_fld he hb
/-- what a text that is one writes -/
structure PartsOk (p : Parts) : Prop where
  sgs : areSignsL [p.sg] = true
  mds : areMoodsL p.ms = true
  gds : areGoodL p.gs p.ms = true
  gls : goalsOkL p.sg p.ms p.rs = true
theorem parts_ok {t : Str} {p : Parts} (h : parseL t = some p) : PartsOk p := by
  unfold parseL partsL at h
  split at h
  · rename_i t0 s0 t1 m0 t2 g0 rs heq
    split at h
    · rename_i hc
      cases h
      obtain ⟨x, e, _⟩ := signs_one hc.2.1
      subst e
      exact ⟨hc.2.1, hc.2.2.1, hc.2.2.2.1, hc.2.2.2.2⟩
    · cases h
  · cases h
theorem dOf_some {α κ : Type} [DecidableEq κ] {key : α → κ} {val : α → V} {k : κ} : ∀ (xs : List α), (∃ a ∈ xs, key a = k) → ∃ a ∈ xs, key a = k ∧ valV (dOf key val xs) k = some (val a) := by
  suffices h : ∀ (n : Nat) (xs : List α), xs.length = n → (∃ a ∈ xs, key a = k) → ∃ a ∈ xs, key a = k ∧ valV (dOf key val xs) k = some (val a) from fun xs => h _ xs rfl
  intro n
  induction n with
  | zero =>
    intro xs h ⟨a, ha, _⟩
    have : xs = [] := List.eq_nil_of_length_eq_zero h
    subst this
    cases ha
  | succ n ih =>
    intro xs h h2
    have hne : xs ≠ [] := by intro z; subst z; cases h
    obtain ⟨ys, a, rfl⟩ : ∃ ys a, xs = ys ++ [a] := ⟨xs.dropLast, xs.getLast hne, (List.dropLast_concat_getLast hne).symm⟩
    have hl : ys.length = n := by rw [List.length_append] at h; simpa using h
    rw [dOf_snoc, valV_put]
    by_cases e : k = key a
    · exact ⟨a, by simp, e.symm, by rw [if_pos e]⟩
    · rw [if_neg e]
      obtain ⟨b, hb, eb⟩ := h2
      rcases List.mem_append.mp hb with m | m
      · obtain ⟨d, hd, ed, hv⟩ := ih ys hl ⟨b, m, eb⟩
        exact ⟨d, by simp [hd], ed, hv⟩
      · have : b = a := by simpa using m
        exact absurd (this ▸ eb.symm) e
/-- where the sign c leads from the mood t -/
def ledL (p : Parts) (t : Str) (c : Nat) : Str := gf (goalsD p.rs) t c
theorem PartsOk.goal {p : Parts} (h : PartsOk p) {t : Str} (ht : t ∈ p.ms) {c : Nat} (hc : c ∈ p.sg.cps.toList) : ledL p t c ∈ p.ms ∧ valV (goalsD p.rs) (kT t c) = some (.str (ledL p t c)) := by
  have hg := h.gls
  unfold goalsOkL at hg
  rw [Bool.and_eq_true_iff] at hg
  have ep : p.rs.map (List.take 2) = pairsL p.sg p.ms := of_decide_eq_true hg.1
  have hm : [t, sg c] ∈ p.rs.map (List.take 2) := by
    rw [ep]
    unfold pairsL
    exact List.mem_flatMap.mpr ⟨t, ht, List.mem_map.mpr ⟨c, hc, rfl⟩⟩
  obtain ⟨r, hr, er⟩ := List.mem_map.mp hm
  have key : ∀ q : List Str, q.take 2 = [t, sg c] → [(Sum.inr (q.getD 0 Str.empty) : Key), Sum.inr (q.getD 1 Str.empty)] = kT t c := fun q hq => by
    match q, hq with
    | [], hq => cases hq
    | [_], hq => simp at hq
    | a :: b :: _, hq =>
      have : [a, b] = [t, sg c] := hq
      injection this with e1 this
      injection this with e2 _
      subst e1 e2
      rfl
  obtain ⟨q, hq, eq, hv⟩ := dOf_some (key := fun r : List Str => [(Sum.inr (r.getD 0 Str.empty) : Key), Sum.inr (r.getD 1 Str.empty)]) (val := fun r => V.str (r.getD 2 Str.empty)) (k := kT t c) p.rs ⟨r, hr, key r er⟩
  have ok := List.all_eq_true.mp hg.2 q hq
  unfold rowOkL at ok
  rw [Bool.and_eq_true_iff] at ok
  have e : ledL p t c = q.getD 2 Str.empty := gf_is hv
  rw [e]
  exact ⟨of_decide_eq_true ok.2, hv⟩
/-- a row leads from t -/
def walkL (p : Parts) (t : Str) (cs : List Nat) : Str := cs.foldl (ledL p) t
def firstL (p : Parts) : Str := p.ms.headD Str.empty
def moodL (p : Parts) (r : Str) : Str := walkL p (firstL p) r.cps.toList
theorem walk_mem {p : Parts} (h : PartsOk p) : ∀ (cs : List Nat) (t : Str), t ∈ p.ms → (∀ c ∈ cs, c ∈ p.sg.cps.toList) → walkL p t cs ∈ p.ms
  | [], _, ht, _ => ht
  | c :: cs, t, ht, hc => walk_mem h cs _ (h.goal ht (hc c (by simp))).1 fun d hd => hc d (by simp [hd])
theorem PartsOk.first {p : Parts} (h : PartsOk p) : ∃ ms, p.ms = firstL p :: ms := by
  have := h.mds
  unfold areMoodsL at this
  simp only [Bool.and_eq_true] at this
  have l1 : 1 ≤ p.ms.length := of_decide_eq_true this.1.1.1
  unfold firstL
  match hm : p.ms, l1 with
  | a :: t, _ => exact ⟨t, rfl⟩
def spMood (C : Addr) : Sp := fun vs H Q _ => ∃ (a : Addr) (r t : Str) (p : Parts), vs = [.ref a, .str r] ∧ RuleAt H C a t p ∧ PartsOk p ∧ isRowL p.sg r = true ∧ ∀ H', Same H H' → Q (.str (moodL p r)) H'
def spHas (C : Addr) : Sp := fun vs H Q _ => ∃ (a : Addr) (r t : Str) (p : Parts), vs = [.ref a, .str r] ∧ RuleAt H C a t p ∧ PartsOk p ∧ isRowL p.sg r = true ∧ ∀ H', Same H H' → Q (.bl (decide (moodL p r ∈ p.gs))) H'
section
variable {P : Program} {w : World} {K : PySem.W.Frag} {mg : Str → Option Value} {base : Heap}
theorem scMood : FnScope ["self", "row", "reached", "sign"] ["self", "row"] (defScope sMood) := ⟨rfl, rfl, rfl, by decide +kernel, rfl, by decide +kernel, by decide +kernel⟩
theorem ok_mood {f C : Addr} {fd : FuncData} (F : Fun K "mood" "Rule.mood" sMood f fd) (T : RuC K C) (hR : Hv P w K mg base 2 "is_row_of" ["value", "letters"] spRow) : FnOk P w K mg base CX0 3 f fd ["self", "row"] (spMood C) := by
  refine F.ok scMood (fun vs H Q E h => ?_) (fun cdv A outer s H vs Q E hr h => ?_)
  · obtain ⟨a, r, t, p, rfl, _⟩ := h
    rfl
  · obtain ⟨a, r, t, p, rfl, hA, ok, ir, k⟩ := h
    refine ⟨_, pss_cons (ps_if (pt_not (pt_val (pe_cl hR hr rfl pass0 (pa_cons (pv 1) (pa_cons (pe_fld (pv 0) rfl) pa_nil))))) (pss_one ps_never) pss_nil)
      (pss_cons (ps_set (i := 2) scMood.nd rfl (Or.inl rfl) (pe_ix ix_tup (pe_fld (pv 0) rfl) pe_int (fun _ _ => rfl)))
      (pss_cons (ps_for PassesOwn.never rfl (pi_str (pv 1)) (pg_name (i := 3) scMood.nd rfl (Or.inl rfl)) (pss_one (ps_set (i := 2) scMood.nd rfl (Or.inl rfl) (pe_dget (hu_of hr) (pe_fld (pv 0) rfl) (pe_tup (pa_cons (pv 2) (pa_cons (pv 3) pa_nil))) (fun _ _ => rfl)))))
      (pss_one (ps_ret (pv 2))))), ?_⟩
    obtain ⟨dx, M, G, D, e1, e2, e3, e4⟩ := id hA
    have hl : r.length ≤ 1000 := by
      unfold isRowL at ir
      exact of_decide_eq_true (Bool.and_eq_true_iff.mp ir).1
    have hin : ∀ c ∈ r.cps.toList, c ∈ p.sg.cps.toList := fun c hc => by
      unfold isRowL at ir
      exact of_decide_eq_true (List.all_eq_true.mp (Bool.and_eq_true_iff.mp ir).2 c hc)
    refine ⟨_, rfl, _, rfl, a, C, dx, _, .str p.sg, rfl, e1, T.cl, T.f2, rfl, r, p.sg, rfl, by omega, fun H1 s1 => ⟨_, rfl, ?_⟩⟩
    rw [ir]
    refine iteF ?_
    obtain ⟨ms, em⟩ := ok.first
    have ef : (p.ms.map V.str)[0]? = some (.str (firstL p)) := by rw [em]; rfl
    refine ⟨_, rfl, a, C, dx, _, .ref M, rfl, s1 _ _ e1, T.cl, T.f3, rfl, M, _, _, _, rfl, rfl, SqT.of (s1 _ _ e2), atI_nat (j := 0) ef, ?_⟩
    refine ⟨_, rfl, r, rfl, ?_⟩
    refine for_it walk_str (fun i σ H' => ∃ v3, σ = [some (.ref a), some (.str r), some (.str (walkL p (firstL p) (r.cps.toList.take i))), v3] ∧ Same H1 H') ⟨none, rfl, Same.refl _⟩ (fun _ _ _ _ _ => trivial) (fun i y σ H2 H3 hi h hy => ?_) (fun σ H2 h => ?_)
    · obtain ⟨rfl, c, hc, rfl⟩ := hy
      obtain ⟨v3, rfl, s2⟩ := h
      have hc' : r.cps.toList[i]? = some c := by rw [Array.getElem?_toList]; exact hc
      have hm := walk_mem ok (r.cps.toList.take i) (firstL p) (by rw [em]; simp) fun d hd => hin d (List.mem_of_mem_take hd)
      have hg := ok.goal hm (hin c (List.mem_of_getElem? hc'))
      have s3 := s1.trans s2
      refine ⟨_, rfl, a, C, dx, _, .ref D, rfl, s3 _ _ e1, T.cl, T.f5, rfl, _, rfl, _, rfl, (by show 2 ≤ sizeLine; decide), fun t' ht => ⟨D, .str (ledL p (walkL p (firstL p) (r.cps.toList.take i)) c), rfl, ?_, ?_⟩⟩
      · have := DGet.t (k := kT (walkL p (firstL p) (r.cps.toList.take i)) c) (keep1 (s3 _ _ e4) ht) (upd_same (o := .tup ((kT (walkL p (firstL p) (r.cps.toList.take i)) c).map kV)))
        rw [hg.2] at this
        exact this
      · refine ⟨some (.str (sg c)), ?_, s2.trans (same_new ht)⟩
        rw [List.take_add_one, hc']
        show _ = [_, _, some (V.str (walkL p (firstL p) (r.cps.toList.take i ++ [c]))), _]
        unfold walkL
        rw [List.foldl_append]
        rfl
    · obtain ⟨v3, rfl, s2⟩ := h
      refine ⟨_, rfl, ?_⟩
      have : r.cps.toList.take r.cps.size = r.cps.toList := by rw [← Array.length_toList, List.take_length]
      rw [this]
      exact k _ (s1.trans s2)
theorem scHas : FnScope ["self", "row"] ["self", "row"] (defScope sHas) := ⟨rfl, rfl, rfl, by decide +kernel, rfl, by decide +kernel, by decide +kernel⟩
theorem ok_has {f C : Addr} {fd : FuncData} (F : Fun K "has" "Rule.has" sHas f fd) (T : RuC K C) (hM : HvM P w K mg base 3 C "mood" ["self", "row"] (spMood C)) : FnOk P w K mg base CX0 4 f fd ["self", "row"] (spHas C) := by
  refine F.ok scHas (fun vs H Q E h => ?_) (fun cdv A outer s H vs Q E hr h => ?_)
  · obtain ⟨a, r, t, p, rfl, _⟩ := h
    rfl
  · obtain ⟨a, r, t, p, rfl, hA, ok, ir, k⟩ := h
    refine ⟨_, pss_one (ps_ret (pe_cmpR op_in_seq (pe_mt hM (pv 0) T.cl hr pass0 (pa_cons (pv 1) pa_nil)) (pe_fld (pv 0) rfl) (by rfl))), ?_⟩
    obtain ⟨dx, M, G, D, e1, e2, e3, e4⟩ := id hA
    refine ⟨_, rfl, a, dx, _, rfl, e1, rfl, _, rfl, a, r, t, p, rfl, hA, ok, ir, fun H1 s1 => ?_⟩
    refine ⟨_, rfl, a, C, dx, _, .ref G, rfl, s1 _ _ e1, T.cl, T.f4, rfl, G, _, rfl, .inr (SqT.of (s1 _ _ e3)), rfl, flat_strs _, ?_⟩
    show Q (.bl (inV (.str (moodL p r)) (p.gs.map V.str))) H1
    rw [in_strs]
    exact k _ s1
end
end My
namespace My
open PySem PySem.Spec PyProof.Rows L2
/-- a well stands at p -/
def Wl (H : Hp) (p : Addr) : Prop := ∃ w0 w1 w2 : Int, 0 ≤ w0 ∧ 0 ≤ w1 ∧ H p = some (.lst [.int w0, .int w1, .int w2])
theorem cut_ints (ns : List Int) (lo hi : Option Int) : ∃ ms : List Int, cutV (ns.map V.int) lo hi = ms.map V.int := by
  unfold cutV
  rw [← List.map_drop, ← List.map_take]
  exact ⟨_, rfl⟩
theorem map_int_get {ns : List Int} {i : Nat} {y : V} (h : (ns.map V.int)[i]? = some y) : ∃ z, ns[i]? = some z ∧ y = V.int z := by
  rw [List.getElem?_map] at h
  cases e : ns[i]? with
  | none => rw [e] at h; cases h
  | some z => rw [e] at h; exact ⟨z, rfl, (Option.some.inj h).symm⟩
/-- all but the well stays -/
def Sb (p : Addr) (H H' : Hp) : Prop := ∀ b o, b ≠ p → H b = some o → H' b = some o
theorem Sb.refl (p : Addr) (H : Hp) : Sb p H H := fun _ _ _ h => h
theorem Sb.trans {p : Addr} {H H1 H2 : Hp} (a : Sb p H H1) (b : Sb p H1 H2) : Sb p H H2 := fun c o n h => b c o n (a c o n h)
theorem Sb.of {p : Addr} {H H' : Hp} (s : Same H H') : Sb p H H' := fun b o _ h => s b o h
theorem Sb.upd_ {p : Addr} {H : Hp} {o : HO} : Sb p H (upd H p o) := fun b u n h => by rw [upd_ne n]; exact h
theorem Sb.free {p : Addr} {H H' : Hp} (s : Sb p H H') {q : Addr} (n : q ≠ p) (h : H' q = none) : H q = none := by
  cases e : H q with
  | none => rfl
  | some o => rw [s q o n e] at h; cases h
theorem Wl.same {H H' : Hp} {p : Addr} (w : Wl H p) (s : Same H H') : Wl H' p := by
  obtain ⟨w0, w1, w2, a0, a1, e⟩ := w
  exact ⟨w0, w1, w2, a0, a1, s _ _ e⟩
theorem Wl.new {H : Hp} {p q : Addr} (w : Wl H p) (h : H q = none) : q ≠ p := by
  obtain ⟨w0, w1, w2, a0, a1, e⟩ := w
  exact (ne_of_none e h).symm
theorem Wl.ne {H : Hp} {p q : Addr} {o : HO} (w : Wl H p) (h : H q = some o) (n : ∀ a b c : Int, o ≠ .lst [.int a, .int b, .int c]) : q ≠ p := by
  obtain ⟨w0, w1, w2, a0, a1, e⟩ := w
  exact ne_of h e (n _ _ _)
theorem Wl.neS {H : Hp} {p q : Addr} {ws : List Str} (w : Wl H p) (h : H q = some (.lst (ws.map V.str))) : q ≠ p := w.ne h fun a b c z => by
  cases ws with
  | nil => cases z
  | cons x t => cases z
theorem Wl.upd_ {H : Hp} {p q : Addr} {o : HO} (w : Wl H p) (n : q ≠ p) : Wl (upd H q o) p := by
  obtain ⟨w0, w1, w2, a0, a1, e⟩ := w
  exact ⟨w0, w1, w2, a0, a1, by rw [upd_ne n.symm]; exact e⟩
/-- rules whose readings speak of a K that is the context's -/
theorem ix_listK {X : Cx} {K : PySem.W.Frag} (h : X.K = K) : IxR X (rIxL K) := by subst h; exact ix_list
theorem sl_listK {X : Cx} {K : PySem.W.Frag} (h : X.K = K) : SlR X (rSlL K) := by subst h; exact sl_list
end My
namespace My
open PySem PySem.Spec PyProof.Rows L2
def spCell (K : PySem.W.Frag) : Sp := fun vs H Q _ => ∃ (a : Addr) (ns : List Int) (t : Int), vs = [.ref a, .int t] ∧ SqL K H a (ns.map V.int) ∧ 0 ≤ t ∧ t ≤ 1000 ∧ ∀ (n : Int) (H' : Hp), Same H H' → Q (.int n) H'
/-- a drawn number -/
def spPk : Sp := fun vs H Q _ => ∃ (p : Addr) (n : Int), vs = [.ref p, .int n] ∧ Wl H p ∧ 0 < n ∧ n < 1073741824 ∧ ∀ (d : Int) (H' : Hp), 0 ≤ d → d < n → Sb p H H' → Wl H' p → Q (.int d) H'
def spPurse : Sp := fun vs H Q _ => ∃ n : Int, vs = [.int n] ∧ ∀ (p : Addr) (H' : Hp), Same H H' → H p = none → Wl H' p → Q (.ref p) H'
section
variable {P : Program} {w : World} {K : PySem.W.Frag} {mg : Str → Option Value} {base : Heap}
abbrev nCell : List Str := ["_law_cells", "_law_k", "_law_seed", "_law_cell_here"]
theorem scCell : FnScope nCell ["_law_cells", "_law_k"] (defScope sCell) := ⟨rfl, rfl, rfl, by decide +kernel, rfl, by decide +kernel, by decide +kernel⟩
theorem ok_cell {f : Addr} {fd : FuncData} (F : Fun K "_law_cell" "_law_cell" sCell f fd) (hI : mg "int" = none) (hL : mg "len" = none) : FnOk P w K mg base CX0 1 f fd ["_law_cells", "_law_k"] (spCell K) := by
  refine F.ok scCell (fun vs H Q E h => ?_) (fun cdv A outer s H vs Q E hr h => ?_)
  · obtain ⟨a, ns, t, rfl, _⟩ := h
    rfl
  · obtain ⟨a, ns, t, rfl, hS, t0, t1, k⟩ := h
    refine ⟨_, pss_cons (ps_if (pt_cmpR op_lt (pv 1) (pe_callB call_len_seq (by rfl) hL PySem.boot_len (pa_cons (pv 0) pa_nil)) (nomark _)) (pss_one (ps_ret (pe_ix ix_list (pv 0) (pv 1) (fun _ _ => rfl)))) pss_nil)
      (pss_cons (ps_set (i := 2) scCell.nd rfl (Or.inl rfl) (pe_op op_add (pe_op op_add pe_int (pe_op op_mul (pe_op op_mul pe_int (pv 1)) (pv 1))) (pe_op op_mul pe_int (pv 1))))
      (pss_cons (ps_for PassesOwn.never rfl (pi_list (pe_slice sl_list (pv 0) po_none (po_some pe_int))) (pg_name (i := 3) scCell.nd rfl (Or.inl rfl))
        (pss_one (ps_set (i := 2) scCell.nd rfl (Or.inl rfl) (pe_op op_mod (pe_callTy call_int1 (by rfl) hI (by decide +kernel) (pa_cons (pe_op op_add (pe_op op_mul (pv 2) pe_int) (pv 3)) pa_nil)) pe_int))))
      (pss_one (ps_ret (pv 2))))), ?_⟩
    refine ⟨_, rfl, _, rfl, a, _, rfl, .inl hS, _, _, rfl, rfl, _, rfl, ite2 (fun c => ?_) (fun c => ?_)⟩
    · have c1 : t < ((ns.map V.int).length : Int) := of_decide_eq_true c
      rw [List.length_map] at c1
      obtain ⟨z, hz⟩ : ∃ z, ns[t.toNat]? = some z := ⟨_, List.getElem?_eq_getElem (by omega : t.toNat < ns.length)⟩
      have et : t = ((t.toNat : Nat) : Int) := by omega
      refine ⟨_, rfl, _, rfl, a, _, _, V.int z, rfl, rfl, hS, ?_, k z _ (Same.refl _)⟩
      rw [et]
      exact atI_nat (by rw [List.getElem?_map, hz]; rfl)
    · refine ⟨_, rfl, _, _, rfl, rfl, .inl ⟨by decide, by decide⟩, _, rfl, _, _, rfl, rfl, .inr ⟨by show -(2 ^ 64 : Int) < t; omega, by show t < 2 ^ 64; omega⟩, _, _, rfl, rfl, _, rfl, _, _, rfl, rfl, .inl ⟨by decide, by decide⟩, _, _, rfl, rfl, ?_⟩
      refine ⟨_, rfl, 4, rfl, a, _, rfl, hS, fun q hq => ⟨q, rfl, ⟨_, SqL.of upd_same⟩, ?_⟩⟩
      obtain ⟨ms, hms⟩ := cut_ints ns none (some 4)
      refine for_list (K := K) (a := q) (xs := cutV (ns.map V.int) none (some 4)) (fun i σ H' => ∃ (st : Int) (v : Option V), σ = [some (.ref a), some (.int t), some (.int st), v] ∧ H' = upd H q (.lst (cutV (ns.map V.int) none (some 4))))
        ⟨_, none, rfl, rfl⟩ (fun i σ H' _ ⟨_, _, _, e⟩ => by rw [e]; exact SqL.of upd_same) ?_ ?_
      · rintro i y σ H' hi ⟨st, v, rfl, rfl⟩
        rw [hms] at hi
        obtain ⟨z, _, rfl⟩ := map_int_get hi
        exact ⟨_, rfl, _, _, rfl, rfl, .inr ⟨by decide, by decide⟩, _, rfl, _, _, rfl, rfl, .inl ⟨_, rfl, _, _, rfl, rfl, (by show (0 : Int) < 2147483399; decide), _, _, rfl, rfl⟩⟩
      · rintro σ H' ⟨st, v, rfl, rfl⟩
        exact ⟨_, rfl, k _ _ (same_new hq)⟩
abbrev nPurse : List Str := ["_law_cell_here", "_law_digits"]
theorem scPurse : FnScope nPurse ["_law_cell_here"] (defScope sPurse) := ⟨rfl, rfl, rfl, by decide +kernel, rfl, by decide +kernel, by decide +kernel⟩
def tDig : TE := fun σ H Q => ∃ (n : Int) (v : Option V), σ = [some (.int n), v] ∧ ∀ d : Int, 0 ≤ d → Q (.int d) H
theorem PE_imp0 {X : Cx} {e : Expr} {t t' : TE} (h : PE X e t) (m : ∀ σ H Q, t' σ H Q → t σ H Q) : PE X e t' := ⟨fun pins s σ H Q I q => h.run pins s σ H Q I (m σ H Q q)⟩
theorem ok_purse {f : Addr} {fd : FuncData} (F : Fun K "_law_purse" "_law_purse" sPurse f fd) (hI : mg "int" = none) (hA : mg "abs" = none) : FnOk P w K mg base CX0 1 f fd ["_law_cell_here"] spPurse := by
  refine F.ok scPurse (fun vs H Q E h => ?_) (fun cdv A outer s H vs Q E hr h => ?_)
  · obtain ⟨n, rfl, _⟩ := h
    rfl
  · obtain ⟨n, rfl, k⟩ := h
    refine ⟨_, pss_cons (ps_set (i := 1) scPurse.nd rfl (Or.inl rfl) (PE_imp0 (t' := tDig) (pe_ifExp (PW.pt (pw_or (pt_cmpR op_lt (pv 0) pe_int (nomark _)) (pw_or1 (pt_cmpR op_ge (pv 0) (pe_op op_pow pe_int pe_int) (nomark _))))) (pe_callB call_abs (by rfl) hA (by decide +kernel) (pa_cons (pv 0) pa_nil)) pe_int) ?iD))
      (pss_one (ps_ret (pe_lst (pa_cons (pe_op op_mod (pe_callTy call_int1 (by rfl) hI (by decide +kernel) (pa_cons (pe_op op_add (pe_op op_mul (pv 0) pe_int) pe_int) pa_nil)) pe_int) (pa_cons (pv 1) (pa_cons pe_int pa_nil)))))), ?_⟩
    case iD =>
      rintro σ H Q ⟨n, v, rfl, q⟩
      refine ⟨_, rfl, _, _, rfl, rfl, _, rfl, ite2 (fun c => ?_) (fun c => ?_)⟩
      · exact ⟨_, rfl, _, rfl, q _ (by split <;> omega)⟩
      · refine ⟨_, rfl, _, _, rfl, rfl, ⟨by decide, by decide, by decide⟩, _, _, rfl, rfl, _, rfl, ite2 (fun c => ?_) (fun c => ?_)⟩
        · exact ⟨_, rfl, _, rfl, q _ (by split <;> omega)⟩
        · exact q 0 (Int.le_refl _)
    refine ⟨n, none, rfl, fun d hd => ?_⟩
    refine ⟨_, rfl, _, _, rfl, rfl, .inr ⟨by decide, by decide⟩, _, _, rfl, rfl, .inl ⟨_, rfl, _, _, rfl, rfl, (by show (0 : Int) < 2147483563; decide), _, rfl, by show 3 ≤ sizeLine; decide, fun p hp => ?_⟩⟩
    exact k p _ (same_new hp) hp ⟨_, _, _, Int.emod_nonneg _ (by decide), hd, upd_same⟩
abbrev nPk : List Str := ["_law_purse_here", "_law_size", "_law_state", "_law_step", "_law_digit"]
theorem scPk : FnScope nPk ["_law_purse_here", "_law_size"] (defScope sPick) := ⟨rfl, rfl, rfl, by decide +kernel, rfl, by decide +kernel, by decide +kernel⟩
theorem ok_pk {f : Addr} {fd : FuncData} (F : Fun K "_law_pick" "_law_pick" sPick f fd) (hI : mg "int" = none) (hD : mg "divmod" = none) : FnOk P w K mg base CX0 1 f fd ["_law_purse_here", "_law_size"] spPk := by
  refine F.ok scPk (fun vs H Q E h => ?_) (fun cdv A outer s H vs Q E hr h => ?_)
  · obtain ⟨p, n, rfl, _⟩ := h
    rfl
  · obtain ⟨p, n, rfl, ⟨w0, w1, w2, h0, h1, hp⟩, n0, n1, k⟩ := h
    refine ⟨_, pss_cons (ps_asg (pe_op op_add (pe_ix ix_list (pv 0) pe_int (fun _ _ => rfl)) pe_int) (pg_sub (pv 0) pe_int set_list))
      (pss_cons (ps_set (i := 2) scPk.nd rfl (Or.inl rfl) (pe_callTy call_int1 (by rfl) hI (by decide +kernel) (pa_cons (pe_ix ix_list (pv 0) pe_int (fun _ _ => rfl)) pa_nil)))
      (pss_cons (ps_set (i := 3) scPk.nd rfl (Or.inl rfl) (pe_op op_add (pe_op op_mod (pe_callTy call_int1 (by rfl) hI (by decide +kernel) (pa_cons (pv 2) pa_nil)) pe_int) pe_int))
      (pss_cons (ps_asg (pe_op op_mod (pe_callTy call_int1 (by rfl) hI (by decide +kernel) (pa_cons (pe_op op_add (pe_op op_add (pe_op op_mul (pv 2) (pv 3)) (pe_op op_mul pe_int (pe_ix ix_list (pv 0) pe_int (fun _ _ => rfl)))) pe_int) pa_nil)) pe_int) (pg_sub (pv 0) pe_int set_list))
      (pss_cons (ps_if (pt_cmpR op_gt (pe_ix ix_list (pv 0) pe_int (fun _ _ => rfl)) pe_int (nomark _))
        (pss_cons (ps_asg (pe_callB call_divmod (by rfl) hD (by decide +kernel) (pa_cons (pe_ix ix_list (pv 0) pe_int (fun _ _ => rfl)) (pa_cons (pv 1) pa_nil))) (pg_tup rfl (pgs_cons (pg_sub (pv 0) pe_int set_list) (pgs_cons (pg_name (i := 4) scPk.nd rfl (Or.inl rfl)) pgs_nil))))
        (pss_one (ps_ret (pv 4)))) pss_nil)
      (pss_one (ps_ret (pe_op op_modN (pe_op op_fdiv (pe_callTy call_int1 (by rfl) hI (by decide +kernel) (pa_cons (pe_ix ix_list (pv 0) pe_int (fun _ _ => rfl)) pa_nil)) pe_int) (pv 1)))))))), ?_⟩
    have hp1 : ∀ o, upd H p o p = some o := fun o => upd_same
    refine ⟨_, rfl, p, _, _, _, rfl, rfl, SqL.of hp, atI_nat (j := 2) rfl, _, _, rfl, rfl, _, rfl, p, _, _, 2, rfl, rfl, hp, rfl, ?_⟩
    refine ⟨_, rfl, p, _, _, _, rfl, rfl, SqL.of (hp1 _), atI_nat (j := 0) rfl, .inl ⟨_, rfl, ?_⟩⟩
    refine ⟨_, rfl, .inl ⟨_, rfl, _, _, rfl, rfl, (by show (0 : Int) < 40013; decide), _, _, rfl, rfl, ?_⟩⟩
    have m0 := Int.emod_nonneg w0 (show (40013 : Int) ≠ 0 by decide)
    have m1 := Int.emod_lt_of_pos w0 (show (0 : Int) < 40013 by decide)
    refine ⟨_, rfl, _, rfl, _, _, rfl, rfl, .inr ⟨by show -(2 ^ 64 : Int) < w0 % 40013 + 20021; omega, by show w0 % 40013 + 20021 < 2 ^ 64; omega⟩, _, rfl, p, _, _, _, rfl, rfl, SqL.of (hp1 _), atI_nat (j := 2) rfl, _, _, rfl, rfl, .inl ⟨by decide, by decide⟩, _, _, rfl, rfl, _, _, rfl, rfl, .inl ⟨_, rfl, _, _, rfl, rfl, (by show (0 : Int) < 2147483399; decide), _, rfl, p, _, _, 0, rfl, rfl, hp1 _, rfl, ?_⟩⟩
    rw [upd_upd]
    have e0 : ∀ z : Int, 0 ≤ z % 2147483399 := fun z => Int.emod_nonneg _ (by decide)
    refine ⟨_, rfl, p, _, _, _, rfl, rfl, SqL.of (hp1 _), atI_nat (j := 1) rfl, _, _, rfl, rfl, _, rfl, ite2 (fun c => ?_) (fun c => ?_)⟩
    · have c' : (0 : Int) < w1 := of_decide_eq_true c
      refine ⟨_, rfl, p, _, _, _, rfl, rfl, SqL.of (hp1 _), atI_nat (j := 1) rfl, _, rfl, _, _, rfl, ⟨by omega, by omega⟩, fun t ht => ?_⟩
      have nt : t ≠ p := (ne_of_none (hp1 _) ht).symm
      refine ⟨t, _, rfl, SqT.of upd_same, rfl, _, _, rfl, _, rfl, p, _, _, 1, rfl, rfl, by rw [upd_ne nt.symm]; exact hp1 _, rfl, _, _, rfl, rfl, _, rfl, ?_⟩
      have ed : w1 % n = w1 % n := rfl
      refine k _ _ (Int.emod_nonneg _ (by omega)) (Int.emod_lt_of_pos _ n0) (fun b u nb e => ?_) ⟨_, _, _, e0 _, Int.ediv_nonneg h1 (by omega), upd_same⟩
      have nbt : b ≠ t := ne_of_none (show upd H p _ b = some u by rw [upd_ne nb]; exact e) ht
      rw [upd_ne nb, upd_ne nbt, upd_ne nb]
      exact e
    · refine ⟨_, rfl, p, _, _, _, rfl, rfl, SqL.of (hp1 _), atI_nat (j := 0) rfl, .inl ⟨_, rfl, _, _, rfl, rfl, ⟨by decide, by decide⟩, _, rfl, _, _, rfl, rfl, (by show n ≠ 0; omega), ?_⟩⟩
      exact k _ _ (Int.fmod_nonneg_of_pos _ n0) (Int.fmod_lt_of_pos _ n0) Sb.upd_ ⟨_, _, _, e0 _, h1, upd_same⟩
end
end My
namespace My
open PySem PySem.Spec PyProof.Rows L2
theorem ShAll.get {K : PySem.W.Frag} {H : Hp} : ∀ {xs : List V} {ds : List PyData} {i : Nat} {v : V}, ShAll K H xs ds → xs[i]? = some v → ∃ d, d ∈ ds ∧ Sh K H v d
  | _, _, _, _, .nil, e => by simp at e
  | _, _, 0, _, .cons r _, e => by simp at e; subst e; exact ⟨_, List.mem_cons_self .., r⟩
  | _, _, i + 1, v, .cons _ t, e => by
    obtain ⟨d, h1, h2⟩ := ShAll.get (i := i) (v := v) t (by simpa using e)
    exact ⟨d, List.mem_cons_of_mem _ h1, h2⟩
theorem delk {H : Hp} {p t : Addr} {o u : HO} (e : H t = some u) (h : t ≠ p) : del (upd H p o) p t = some u := by
  rw [del_ne h, upd_ne h]
  exact e
theorem same_del_upd {H : Hp} {p : Addr} {o : HO} : Same (del H p) (del (upd H p o) p) := fun b u e => by
  by_cases hb : b = p
  · rw [hb, del_same] at e; cases e
  · rw [del_ne hb] at e ⊢
    rw [upd_ne hb]; exact e
end My
namespace L2
open PySem PySem.Spec PyProof.Rows PySem.GX HotX
/-! lists walked and unpacked while an exception is handled -/
section
variable {prog : Program} {w : World} {A : Around} {Er : Value → Shared → Prop} {s : Shared}
theorem hot_ne {x it l : Addr} {i : Nat} {h : Heap} (hot : HotAt A x h) (hit : h.IsListIter it l i) : x ≠ it := fun z => by
  obtain ⟨_, o, vs, e, d, c⟩ := hot
  obtain ⟨o', e', _, d'⟩ := hit
  rw [z, e'] at e
  cases e
  rw [d'] at d
  cases d
  simp at c
theorem next_end_hot {it l x : Addr} {i : Nat} {items : Array Value} {Q : Option Value → Shared → Prop} (hot : HotAt A x s.heap) (hit : s.heap.IsListIter it l i) (hl : s.heap.IsList l items) (none_ : items[i]? = none)
    (k : ∀ h', Heap.ExtBut it s.heap h' → Q none { s with heap := h' }) : wpAny (model prog w) A (pyNext (.ref it)) Q Er s := by
  have ne := hot_ne hot hit
  obtain ⟨oi, ei, ci, di⟩ := id hit
  obtain ⟨ol, el, _, nl, dl⟩ := hl
  obtain ⟨hh, o1, vs1, h1, d1, c1⟩ := hot
  unfold pyNext
  refine wpAny_bind (wpAny_attempt (wpAny_callSpecial?_slot (name := Str.ofString "__next__") hit.typeIs slot_listiter_next (wpAny_call_entry slot_listiter_next hit.typeIs entry_listiter_next ?_ (args_listiter_next _))))
  show wpAny _ _ (field (.ref it) 0 >>= _) _ _ s
  refine wpAny_bind (wpAny_field ei di (x := .ref l) rfl ?_)
  show wpAny _ _ (if (Value.ref l == Value.none) = true then _ else _) _ _ s
  rw [if_neg (show ¬ ((Value.ref l == Value.none) = true) from Bool.false_ne_true)]
  show wpAny _ _ (field (.ref it) 1 >>= _) _ _ s
  refine wpAny_bind (wpAny_field ei di (x := .int i 0) rfl ?_)
  show wpAny _ _ (seqItems? (.ref l) >>= _) _ _ s
  refine wpAny_bind (wpAny_seqItems el dl ?_)
  simp only [Int.toNat_natCast, none_]
  refine wpAny_bind (wpAny_rule (wpAny_bind (wpAny_setField ei di (by simp) ?_)))
  show wpAny _ _ (newExc (.type "StopIteration") [] >>= _) _ _ _
  refine wpAny_bind ?_
  simp only [newExc, newTuple]
  refine wpAny_bind (wpAny_newObj_type ?_ (by size_fits))
  refine wpAny_bind (m := firstArgMember _ _) (wpAny_of_eq (a := Value.none) (by first | rfl | (simp only [firstArgMember]; rfl)) ?_)
  refine wpAny_newObj_type ?_ (by size_fits)
  have g1 := Heap.get?_push_of_some { cls := .type "tuple", data := .seq ([] : List Value).toArray } ((Heap.get?_update_other s.heap (Obj.mapFields (·.setIfInBounds 0 Value.none)) ne.symm).trans h1)
  refine raiseNew_hot ⟨hh, o1, vs1, Heap.get?_push_of_some _ g1, d1, c1⟩ (Nat.ne_of_lt (Heap.lt_size g1)) (Heap.get?_push_size _ rfl) rfl (by first | (simp; done) | (simp; omega) | (simp only [Array.size_append]; simp; omega)) ?_
  refine wpAny_bind (wpAny_isInstance (T := "StopIteration") (b := true) ⟨_, Heap.get?_update_self _ (Heap.get?_push_size _ rfl) rfl, rfl⟩ isSubtype_stop ?_)
  refine wpAny_pure (k _ fun b o nb e => ?_)
  have g2 := Heap.get?_push_of_some { cls := .type "tuple", data := .seq ([] : List Value).toArray } ((Heap.get?_update_other s.heap (Obj.mapFields (·.setIfInBounds 0 Value.none)) nb.symm).trans e)
  rw [Heap.get?_update_other _ _ (Nat.ne_of_gt (Heap.lt_size g2))]
  exact Heap.get?_push_of_some _ g2
end
end L2
namespace L2
open PySem PySem.Spec PyProof.Rows PySem.GX HotX
/-- the context X handles the exception p, which stands as it is -/
structure Hb (X : Cx) (p : Addr × Obj) : Prop where
  hh : X.A.handled = some (.ref p.1)
  ctx : ∃ vs : Array Value, p.2.data = .fields vs ∧ vs[2]? = some .none
  at_ : ∀ (pins : List (Addr × Obj)) (σ : St) (H : Hp) (s : Shared), Inv X pins σ H s → s.heap.get? p.1 = some p.2 ∧ H p.1 = none
section
variable {X : Cx} {p : Addr × Obj}
theorem Hb.hot (h : Hb X p) {pins : List (Addr × Obj)} {σ : St} {H : Hp} {s : Shared} (I : Inv X pins σ H s) : HotAt X.A p.1 s.heap := by
  obtain ⟨vs, d, c⟩ := h.ctx
  exact ⟨h.hh, p.2, vs, (h.at_ _ _ _ _ I).1, d, c⟩
theorem Hb.of_pn (h1 : X.A.handled = some (.ref p.1)) (h2 : ∃ vs : Array Value, p.2.data = .fields vs ∧ vs[2]? = some .none) (hp : p ∈ X.pn) : Hb X p :=
  ⟨h1, h2, fun pins σ H s I => let z := I.pin p (List.mem_append_left _ hp); ⟨z.1, z.2.1⟩⟩
end
section
variable {prog : Program} {w : World} {A : Around} {Er : Value → Shared → Prop} {s : Shared}
theorem items_hot {x l : Addr} {items : Array Value} {Q : List Value → Shared → Prop} (hot : HotAt A x s.heap) (hl : s.heap.IsList l items) (k : ∀ h', Heap.ExtBut s.heap.objs.size s.heap h' → Q items.toList { s with heap := h' }) :
    wpAny (model prog w) A (unpackItems (.ref l) items.size none) Q Er s := by
  have nl : l ≠ s.heap.objs.size := by
    obtain ⟨o, e, _⟩ := hl
    exact Nat.ne_of_lt (Heap.lt_size e)
  obtain ⟨hh, o1, vs1, h1, d1, c1⟩ := hot
  unfold unpackItems
  refine wpAny_bind ?_
  unfold notIterableAtAll
  refine wpAny_bind (wpAny_specialOf hl.typeIs slot_list_iter.lookup (wpAny_pure ?_))
  simp only [Bool.false_eq_true, if_false]
  refine wpAny_bind (wpAny_holding (wpAny_pyIter_list hl (wpAny_bind (wpAny_holding (PySem.W.kun_draw nl items.size 0 _ _ ⟨_, Heap.get?_push_size _ rfl, rfl, rfl⟩ (hl.push _) (by omega) fun ha ita sa => ?_)))))
  rw [show List.take items.size (List.drop 0 items.toList) = items.toList by rw [List.drop_zero]; exact List.take_of_length_le (by simp), if_neg (by simp)]
  have hot2 : HotAt A x ha := ⟨hh, o1, vs1, sa.extBut x _ (Nat.ne_of_lt (Heap.lt_size h1)) (Heap.get?_push_of_some _ h1), d1, c1⟩
  refine wpAny_bind (wpAny_holding (next_end_hot (s := { s with heap := ha }) hot2 ita ((hl.push _).extBut sa.extBut nl) (by simp) fun hb eb => ?_))
  simp only [Option.isSome_none, Bool.false_eq_true, if_false]
  exact wpAny_pure (k hb fun b o nb e => eb b o nb (sa.extBut b o nb (Heap.get?_push_of_some _ e)))
end
section
variable {X : Cx} {p : Addr × Obj} {pos : Pos}
/-- (a, b, ..) = a list, while p is handled -/
theorem pg_unlE {K : PySem.W.Frag} (eK : X.K = K) {es : List Expr} {k : Nat} {t : TGs} {n : Nat} (hb : Hb X p) (h : PGs X es t) (hn : (assignEach es X.env).length = n := by rfl) (hst : (assignEach es X.env).findIdx? (·.1) = none := by rfl) : PG X (.Tuple es k pos) (gUnl K n t) := by
  subst eK
  refine ⟨fun pl s σ H v u Q I r ⟨a, xs, ev, hq, hl, hw⟩ => ?_⟩
  subst ev
  cases r
  obtain ⟨its, rv, ls, hz⟩ := I.list hq
  obtain ⟨o, m, e, c, d, q⟩ := ls
  have isL : s.heap.IsList a its.toArray := ⟨o, e, c, m, q⟩
  have en : (assignEach es X.env).length = its.toArray.size := hn.trans (hl.symm.trans (rv.length.trans (by simp)))
  rw [PyProof.Rows.assign_Tuple]
  refine wpAny_bind (wpAny_standAt ?_)
  unfold unpack
  rw [en, hst]
  refine wpAny_bind (wpAny_holding (items_hot (hb.hot I) isL fun h' hx => ?_))
  exact h.run pl _ σ H xs _ Q (I.kept (t' := s.toks) fun b o e => hx b o (Nat.ne_of_lt (Heap.lt_size e)) e) (by simpa using rv) hw
end
section
variable {X : Cx} {p : Addr × Obj} {pl : List (Addr × Obj)} {s : Shared} {σ : St} {H : Hp} {Q : VK} {elt tg iter : Expr} {ifs : List Expr} {scope : Scope} {own : List (Str × Nat)} {pos pos' : Pos} {ti : TE} {g : TG} {tt : TT} {te : TE} {use : Option (Value → Sem Unit)} {Qf : Value → Shared → Prop}
/-- [e for target in a list if ..], while p is handled -/
theorem lcE (hp : p ∈ X.pn) (hb : Hb X p) (hN : X.N.Nodup) (I : Inv X pl σ H s) (hi : PE X iter ti) (ok : BlkOk X.N X.env.scope scope own)
    (hg : ∀ (s : Shared) (H : Hp) (C : Addr) (cl : List (Str × Addr)) (fp : List Addr), Hb (X.blk s H scope (compEnvC scope cl C X.env) fp) p → PG (X.blk s H scope (compEnvC scope cl C X.env) fp) tg g)
    (ht : ∀ (s : Shared) (H : Hp) (C : Addr) (cl : List (Str × Addr)) (fp : List Addr), PTs (X.blk s H scope (compEnvC scope cl C X.env) fp) ifs tt)
    (he : ∀ (s : Shared) (H : Hp) (C : Addr) (cl : List (Str × Addr)) (fp : List Addr), PE (X.blk s H scope (compEnvC scope cl C X.env) fp) elt te) (hs : ∀ x, foldedSetIterable iter X.env x = pure x)
    (want : tLc (iList X.K ti) g tt te (own.map (·.2)) σ H Q)
    (fin : ∀ D C s' m H', Inv X pl σ H' s' → Q (.ref D) H' → s'.heap.Ns C m → FpOk X pl H' C → compPost (model X.prog X.w) X.A X.xe use Qf (.ref D) C (.ok .next) s') :
    wpAny (model X.prog X.w) X.A (comprehension (.ListComp elt [⟨tg, iter, ifs, 0⟩] scope pos) scope X.env pos' (newList []) false (eval iter X.env) use) Qf X.xe s := by
  have frees : ∀ y ∈ scope.names, y.2 = .free → ∃ c, X.env.cells.lookup y.1 = some c := fun y hy e => by
    rcases ok.free y hy e with k | k
    · exact I.ok.has _ (.inl k)
    · exact I.ok.has _ (.inr k)
  refine wpAny_comprehension_free (use := use) rfl hs (closure_ok frees) ok.kind (fun y hy e => by rw [ok.uniq y hy, e]) (thn (hi.run pl s σ H _ I want) fun _ sa ⟨va, Ha, Ia, ra, a, ea, ⟨xs, hq⟩, wishes⟩ => ?_)
  subst ea
  cases ra
  obtain ⟨its, rv, ls, hz⟩ := Ia.list hq
  refine wpAny_pyIter_list ls.isList (wpAny_newObj_type (newEnv_comp ?_) (by show 0 ≤ sizeLine; decide))
  generalize eit : sa.heap.objs.size = it
  generalize esb : ({ sa with heap := sa.heap.push { cls := .type "list_iterator", data := .fields #[.ref a, .int 0 0] } } : Shared) = sb
  have hsb : sb.heap = sa.heap.push { cls := .type "list_iterator", data := .fields #[.ref a, .int 0 0] } := by rw [← esb]
  have Ib : Inv X pl σ Ha sb := by
    rw [← esb]
    exact Ia.kept (t' := sa.toks) fun b o e => Heap.get?_push_of_some _ e
  have itb : sb.heap.IsListIter it a 0 := by
    rw [hsb, ← eit]
    exact ⟨_, Heap.get?_push_size _ rfl, rfl, rfl⟩
  have okit : FpOk X pl Ha it := Ia.fpOk (Nat.le_of_eq eit) (Ia.hok.fresh (Nat.le_of_eq eit))
  generalize eD : sb.heap.objs.size = D
  have freeD : Ha D = none := Ib.hok.fresh (Nat.le_of_eq eD)
  obtain ⟨W, ⟨m0, begins⟩, turn⟩ := wishes D freeD
  generalize esc : ({ sb with heap := sb.heap.push { cls := .type "list", data := .seq ([] : List Value).toArray } } : Shared) = sc
  have hsc : sc.heap = sb.heap.push { cls := .type "list", data := .seq ([] : List Value).toArray } := by rw [← esc]
  have Ic : Inv X pl σ (upd Ha D (.lst [])) sc := by
    rw [← esc]
    refine Ib.laid (t' := sb.toks) (fun b o e => Heap.get?_push_of_some _ e) (Nat.le_of_eq eD) ⟨Nat.zero_le _, [], 0, .nil, ?_⟩
    rw [← eD]
    exact Heap.get?_push_size _ rfl
  have itlt : it < sb.heap.objs.size := by
    obtain ⟨o, e, _⟩ := itb
    exact Heap.lt_size e
  have okc : ∀ b ∈ [it], FpOk X pl (upd Ha D (.lst [])) b ∧ b < sc.heap.objs.size := fun b hb => by
    obtain rfl : b = it := by simpa using hb
    refine ⟨⟨?_, okit.2⟩, ?_⟩
    · rw [upd_ne (by rw [← eD]; exact Nat.ne_of_lt itlt)]
      exact okit.1
    · rw [hsc, Heap.size_push]
      exact Nat.lt_succ_of_lt itlt
  have itc : sc.heap.IsListIter it a 0 := itb.at fun o e => by
    rw [hsc]
    exact Heap.get?_push_of_some _ e
  have Id := block_start Ic ok hN okc
  have pc := hb.at_ _ _ _ _ Ic
  have pz := Ic.pin p (List.mem_append_left _ hp)
  have nit : p.1 ≠ it := okit.2.2.2.2.2 p (List.mem_append_left _ hp)
  -- the block bears the handled exception
  have hbb : Hb (X.blk sc (upd Ha D (.lst [])) scope (compEnvC scope (cellsFrom (sc.heap.objs.size + 1) scope.names (cloFrom X.env.cells scope.names [])) sc.heap.objs.size X.env) [it]) p := by
    refine ⟨hb.hh, hb.ctx, fun pins' σ' H' s' I' => ?_⟩
    have nfs : p.1 ∉ frs X.stack := fun m => by
      rcases Ic.ok.stk with z | ⟨z, zf⟩
      · rw [z] at m
        exact pz.2.2.2.1 m
      · rw [z] at m
        unfold frs at m
        rw [List.filterMap_cons, zf] at m
        rcases List.mem_cons.mp m with m | m
        · exact pz.2.2.1 m
        · exact pz.2.2.2.1 m
    have nex : p.1 ∉ [it] := fun z => nit (by simpa using z)
    exact ⟨I'.base.keep p.1 p.2 pc.1 pc.2 nfs nex, I'.base.free p.1 p.2 pc.1 pc.2 nex⟩
  have g1 := hg sc (upd Ha D (.lst [])) sc.heap.objs.size (cellsFrom (sc.heap.objs.size + 1) scope.names (cloFrom X.env.cells scope.names [])) [it] hbb
  have g2 := ht sc (upd Ha D (.lst [])) sc.heap.objs.size (cellsFrom (sc.heap.objs.size + 1) scope.names (cloFrom X.env.cells scope.names [])) [it]
  have g3 := he sc (upd Ha D (.lst [])) sc.heap.objs.size (cellsFrom (sc.heap.objs.size + 1) scope.names (cloFrom X.env.cells scope.names [])) [it]
  show codeAny _ _ (.compStart (.ListComp elt [⟨tg, iter, ifs, 0⟩] scope pos) 0 (.ref it) (.ref D) (compEnvC scope (cellsFrom (sc.heap.objs.size + 1) scope.names (cloFrom X.env.cells scope.names [])) sc.heap.objs.size X.env)) _
    { sc with heap := pushCells (sc.heap.push { cls := .type "dict", data := .dict #[] }) scope.names }
  have hid : (upd Ha D (.lst [])) it = none := (okc it (by simp)).1.1
  generalize eenv : compEnvC scope (cellsFrom (sc.heap.objs.size + 1) scope.names (cloFrom X.env.cells scope.names [])) sc.heap.objs.size X.env = env at Id g1 g2 g3 hbb ⊢
  have eloc : env.locals = sc.heap.objs.size := by subst eenv; rfl
  generalize eHc : upd Ha D (.lst []) = Hc at Ic Id g1 g2 g3 begins hid okc hbb
  generalize esd : ({ sc with heap := pushCells (sc.heap.push { cls := .type "dict", data := .dict #[] }) scope.names } : Shared) = sd at Id ⊢
  have itd : sd.heap.IsListIter it a 0 := itc.at fun o e => by
    rw [← esd]
    exact pushCells_keeps _ _ _ _ (Heap.get?_push_of_some _ e)
  have fpOk : ∀ {σ' : St} {H' : Hp} {s' : Shared}, Inv (X.blk sc Hc scope env [it]) [] σ' H' s' → H' it = none → FpOk (X.blk sc Hc scope env [it]) [] H' it := fun {σ' H' s'} I' free => by
    refine ⟨free, (I'.ok.exf it (by simp)).1, I'.ok.exfs it (by simp), .inl (by simp), fun x c e => (I'.ok.exf it (by simp)).2 x c e, fun q hq => ?_⟩
    exact absurd (show q ∈ ([] : List (Addr × Obj)) ++ [] from hq) (by simp)
  have lp : codeAny (model X.prog X.w) X.A (.compLoop (.ListComp elt [⟨tg, iter, ifs, 0⟩] scope pos) 0 (.ref it) (.ref D) env) (compPost (model X.prog X.w) X.A X.xe use Qf (.ref D) sc.heap.objs.size) sd := by
    refine compLoop_any (fun n s' => ∃ i H', Inv (X.blk sc Hc scope env [it]) [] (wipe σ (own.map (·.2))) H' s' ∧ s'.heap.IsListIter it a i ∧ H' it = none ∧ W i n H') ?_ m0 ⟨0, Hc, Id, itd, hid, begins⟩
    rintro n se ⟨i, He, Ie, ie, free, at_⟩
    obtain ⟨f0, f1, f2, f3, f4, f5⟩ := fpOk Ie free
    rcases turn i n He at_ with ⟨⟨ys, hy, hle⟩, wish⟩ | ⟨⟨ys, x0, hy, hx0⟩, On, next, step⟩
    · obtain ⟨jts, rj, lj, hj⟩ := Ie.list hy
      have hlen := rj.length
      refine next_end_hot (hbb.hot Ie) ie lj.isList (by simp; omega) fun h' eb => ?_
      have If : Inv (X.blk sc Hc scope env [it]) [] (wipe σ (own.map (·.2))) He { se with heap := h' } := Ie.turned (t' := se.toks) (fun b o hb e => eb b o hb e) f0 f1 f3 f4 f5
      have back : Inv X pl σ He { se with heap := h' } := Ic.call' (ch := [it]) If.os If.base If.hok If.bare fun b hb => ⟨(okc b hb).1.2.2.2.1, (okc b hb).1.2.1, (okc b hb).1.2.2.2.2.1, (okc b hb).1.2.2.2.2.2⟩
      have noC : He sc.heap.objs.size = none := by
        have z : He env.locals = none := If.free
        rw [eloc] at z
        exact z
      obtain ⟨m, hn, _⟩ := If.loc
      have hn' : h'.Ns env.locals m := hn
      rw [eloc] at hn'
      exact fin D sc.heap.objs.size _ m He back wish hn' (Ic.fpOk (Nat.le_refl _) noC)
    · obtain ⟨jts, rj, lj, hj⟩ := Ie.list hy
      obtain ⟨u, hu, ru⟩ := rj.get hx0
      refine wpAny_pyNext_list_item ie lj.isList (x := u) (by simpa using hu) fun h' ie' sb' => ?_
      have Ig : Inv (X.blk sc Hc scope env [it]) [] (wipe σ (own.map (·.2))) He { se with heap := h' } := Ie.turned (t' := se.toks) (fun b o hb e => (sb'.2 b hb).trans e) f0 f1 f3 f4 f5
      obtain ⟨oi, ei, ci, di⟩ := id ie'
      refine go_of (s := { se with heap := h' }) ei ci di (by decide) ?_
      have pinned := Ig.pinned (fp := [it]) (fun b hb => by
        obtain rfl : b = it := by simpa using hb
        exact fpOk Ig free) (fun b hb => by
        obtain rfl : b = it := by simpa using hb
        exact ⟨oi, ei, fun v z => by rw [di] at z; cases z⟩)
      refine thnF (g1.run _ { se with heap := h' } _ He x0 u _ pinned ru (step x0 He ⟨rfl, fun zs hz => by rw [Ie.list_inj hz hy]; exact hx0⟩)) fun _ sh ⟨σh, Hh, Ih, wh, qh⟩ => ?_
      refine thnF (g2.run _ sh σh Hh _ Ih qh) fun b si ⟨Hi, Ii, qi⟩ => ?_
      have ends : ∀ {s' : Shared} {H' : Hp}, Inv (X.blk sc Hc scope env [it]) ([] ++ pinsAt [it] h') σh H' s' → On H' →
          ∃ m, m < n ∧ ∃ i H', Inv (X.blk sc Hc scope env [it]) [] (wipe σ (own.map (·.2))) H' s' ∧ s'.heap.IsListIter it a i ∧ H' it = none ∧ W i m H' := fun {s' H'} I' on => by
        obtain ⟨m', lt, at'⟩ := next H' on
        have z := I'.pin (it, oi) (List.mem_append_right _ (List.mem_append_right _ (mem_pinsAt (by simp) ei)))
        have len : (wipe σ (own.map (·.2))).length = σh.length := by
          rw [← wh, wipe_length]
        refine ⟨m', lt, i + 1, H', (I'.unpinned (pins := [])).weak len (fun j y e => ?_), ⟨oi, z.1, ci, di⟩, z.2.1, at'⟩
        rw [← wh] at e
        exact (wipe_some e).1
      cases b with
      | false =>
        simp only [Bool.false_eq_true, if_false] at qi ⊢
        exact ends Ii qi
      | true =>
        simp only [if_true] at qi ⊢
        refine thnF (g3.run _ si σh Hi _ Ii qi) fun _ sj ⟨yv, Hj, Ij, rj', acc, eDj, few, on⟩ => ?_
        exact app_ok (X := X.blk sc Hc scope env [it]) Ij eDj few rj' fun _ Il => ends Il on
  exact codeAny_compStart_list lp (wpAny_pyIter_listiter itd lp)
/-- name = [..] on one line, while p is handled -/
theorem ps_setLcE {i : Nat} {y : Str} {py spos : Pos} (hp : p ∈ X.pn) (hb : Hb X p) (hN : X.N.Nodup) (hy : X.N[i]? = some y) (hyl : X.env.scope.names.lookup y = some .local) (hsw : swapsWith (.ListComp elt [⟨tg, iter, ifs, 0⟩] scope pos) (some (.Name y py)) spos.line X.env = pure true)
    (hi : PE X iter ti) (ok : BlkOk X.N X.env.scope scope own)
    (hg : ∀ (s : Shared) (H : Hp) (C : Addr) (cl : List (Str × Addr)) (fp : List Addr), Hb (X.blk s H scope (compEnvC scope cl C X.env) fp) p → PG (X.blk s H scope (compEnvC scope cl C X.env) fp) tg g)
    (ht : ∀ (s : Shared) (H : Hp) (C : Addr) (cl : List (Str × Addr)) (fp : List Addr), PTs (X.blk s H scope (compEnvC scope cl C X.env) fp) ifs tt)
    (he : ∀ (s : Shared) (H : Hp) (C : Addr) (cl : List (Str × Addr)) (fp : List Addr), PE (X.blk s H scope (compEnvC scope cl C X.env) fp) elt te) (hs : ∀ x, foldedSetIterable iter X.env x = pure x := by intro _; rfl) :
    PS X (.Assign [.Name y py] (.ListComp elt [⟨tg, iter, ifs, 0⟩] scope pos) spos) (tAsg (tLc (iList X.K ti) g tt te (own.map (·.2))) (gName i)) := by
  refine ⟨fun pl s σ H D I want => ?_⟩
  rw [exec_Assign_Name_used _ _ _ _ hsw]
  refine wpAny_bind (wpAny_standAt (wpAny_bind (wpAny_bind (thn (lcE (Qf := fun _ s' => SP X pl D .next s') hp hb hN I hi ok hg ht he hs (show tLc (iList X.K ti) g tt te (own.map (·.2)) σ H (fun x H1 => gName i x σ H1 D.nx) from want) fun L C s' m H' I' q hn f => ?_) fun _ s' hq => wpAny_pure (wpAny_pure hq)))))
  obtain ⟨f0, f1, f2, f3, f4, f5⟩ := f
  refine wpAny_assign_Name (store_ok2 (v := V.ref L) I' hN hy (.inl hyl) rfl (fun sx Ix ⟨a, sb, ha⟩ => ⟨m, hn.sameBut sb ?_, fun hx sbx => ⟨_, H', Ix.turned (t' := sx.toks) (fun b o hb e => (sbx.2 b hb).trans e) f0 f1 f3 f4 f5, q⟩⟩) (.inr hyl))
  rcases ha with z | z
  · rw [z]
    exact f1
  · exact fun e => f4 y a z e.symm
end
end L2
namespace L2
open PySem PySem.Spec PyProof.Rows PySem.GX HotX L2H
/-- what a def promises where p is handled: sp may speak of p -/
structure FnE (p : Addr × Obj) (P : Program) (w : World) (K : PySem.W.Frag) (mg : Str → Option Value) (base : Heap) (k : Nat) (f : Addr) (fd : FuncData) (ps : List Str) (sp : Sp) : Prop where
  len : ∀ vs H Q E, sp vs H Q E → vs.length = ps.length
  run : ∀ (A : Around) (outer : List Env) (s : Shared) (H : Hp) (args : Args) (us : List Value) (vs : List V) (Q : VK) (E : XK), RoomH k A → Hot1 A p → PinOk outer H s p → Env0 P w K mg base A outer s H → BindsTo s fd args (ps.zip us) → Vals vs us → sp vs H Q E →
    codeAny (model P w) A (.call (.ref f) args) (CR CX0 outer P w H s Q E) s
section
variable {P : Program} {w : World} {K : PySem.W.Frag} {mg : Str → Option Value} {base : Heap} {p : Addr × Obj}
theorem Fun.okE {x qual : Str} {st : Stmt} {f : Addr} {fd : FuncData} {N ps : List Str} {k : Nat} {sp : Sp} (F : Fun K x qual st f fd) (S : FnScope N ps (defScope st)) (len : ∀ vs H Q E, sp vs H Q E → vs.length = ps.length)
    (hbody : ∀ (cdv : Value) (A : Around) (outer : List Env) (s : Shared) (H : Hp) (vs : List V) (Q : VK) (E : XK), Hot1 A p → RoomH k (A.deeper (envOfC qual (defScope st) s.heap.objs.size f cdv)) → sp vs H Q E →
      ∃ t, PSs (cxH CX0 P w K mg base N qual (defScope st) f cdv A outer s H E p) (defBody st) t ∧ t { nx := fun _ H' => Q .non H', rt := Q } (start N vs) H) : FnE p P w K mg base (k + 1) f fd ps sp := by
  obtain ⟨oc, od, kV, doc, pm, an, cdv, ct, osl, rfl, lk, hcd⟩ := F.ex
  refine ⟨len, fun A outer s H args us vs Q E hr hot hpin e0 hb r want => ?_⟩
  have kin : K.In s.heap := e0.mod.kin.keeps fun b o e => (e0.bs b o e).1
  have kinds : ∀ y ∈ ps.zip us, (defScope st).names.lookup y.1 = some .local ∨ ((defScope st).names.lookup y.1 = some .cell ∧ ((cellsFrom (s.heap.objs.size + 1) (defScope st).names []).lookup y.1).isSome = true) := fun ⟨n, v⟩ hy => by
    rcases S.par n (List.of_mem_zip hy).1 with q | q
    · exact .inl q
    · exact .inr ⟨q, PySem.W.cellsFrom_some _ _ _ (.inl q)⟩
  refine codeAny_call_function hr.depth (kin _ _ lk) rfl S.co S.gen rfl (PySem.W.codeRec_of kin hcd) (hb _ _ _ _ (wpAny_newFunctionEnv_cells S.kind kinds fun env he s1 x => ?_))
  subst he
  refine ⟨(e0.mod.nolimit.keeps fun b o e => (e0.bs b o e).1).keeps x.toInCall.keep, codeAny_func ?_⟩
  obtain ⟨t, ht, hq⟩ := hbody cdv A outer s H vs Q E hot (hr.deeper _) want
  refine wpAny_mono (ht.run [] s1 (start N vs) H _ (inv_startH S hpin e0 (len _ _ _ _ want) r x) hq) (fun fl s' hs => ?_) fun e s' hs => hs
  cases fl with
  | ret u =>
    obtain ⟨v, σ', H', J, rv, q⟩ := hs
    exact ⟨v, H', J.os, J.bare, J.base, J.hok, rv, q⟩
  | next =>
    obtain ⟨σ', H', J, q⟩ := hs
    exact ⟨V.non, H', J.os, J.bare, J.base, J.hok, rfl, q⟩
  | brk =>
    obtain ⟨_, _, _, q⟩ := hs
    exact False.elim q
  | cont =>
    obtain ⟨_, _, _, q⟩ := hs
    exact False.elim q
end
def tCallE (sp : Sp) (t : TA) : TE := fun σ H Q => t σ H fun vs H1 => sp vs H1 Q fun _ _ _ => False
section
variable {X : Cx} {p : Addr × Obj} {k : Nat} {f : Addr} {fd : FuncData} {ps : List Str} {sp : Sp} {x : Str} {pp pos : Pos} {e : Expr} {es : List Expr} {t : TA}
theorem pe_callE (F : FnE p X.prog X.w X.K X.mg X.base k f fd ps sp) (hr : RoomH k X.A) (hot : Hot1 X.A p) (hp : p ∈ X.pn) (hg : Gl X x) (hm : X.mg x = some (.ref f)) (hk : PySem.W.keepIn X.K (.ref f) = true) (hb : Binds X.K fd ps [])
    (ha : PA X (e :: es) t) (hdb : (x == ("__debug__" : Str)) = false := by decide) (he : starEach (e :: es) X.env = (false, eval e X.env) :: starEach es X.env := by rfl) (hpl : (backTo pos (starEach es X.env)).any (·.1) = false := by rfl) :
    PE X (.Call (.Name x pp) (e :: es) [] pos) (tCallE sp t) := by
  refine ⟨fun pl s σ H Q I want => wpAny_Call_Name_kw (ld_glob I hg hm (PySem.W.callWith_K (h₀ := X.base) I.ok.mod.kin hk (thn (ha.run pos pl s σ H _ I want) fun us s1 ⟨vs, H1, I1, r, q⟩ => ⟨I1.kIn, ?_⟩) he hpl) hdb)⟩
  have hl : us.length = ps.length := by
    rw [← r.length]
    exact F.len _ _ _ _ q
  have b := hb s1 us I1.kIn (by rw [List.append_nil]; exact hl)
  rw [List.append_nil] at b
  have z := I1.pin p (List.mem_append_left _ hp)
  have pin : PinOk X.stack H1 s1 p := ⟨z.1, z.2.1, fun m => (List.mem_cons.mp (I1.stkSub p.1 m)).elim z.2.2.1 z.2.2.2.1, z.2.2.2.2⟩
  refine wpAny_call (codeAny_mono (F.run X.A X.stack s1 H1 ⟨us, []⟩ us vs Q _ hr hot pin I1.env0 b r q) fun r s' hq => ?_)
  cases r with
  | error e => exact False.elim hq
  | ok fl =>
    cases fl with
    | ret u => exact I1.after hq
    | next => exact False.elim hq
    | brk => exact False.elim hq
    | cont => exact False.elim hq
end
end L2
namespace L2
open PySem PySem.Spec PyProof.Rows PySem.GX HotX L2H
/-- p is an exception of the class at C, its dict at d -/
structure PIs (p : Addr × Obj) (C d : Addr) : Prop where
  cl : p.2.cls = .ref C
  di : p.2.dict = some d
section
variable {X : Cx} {p : Addr × Obj} {C d : Addr} {pins : List (Addr × Obj)} {σ : St} {H : Hp} {s : Shared} {fs : List (Str × V)}
theorem inst_p (hb : Hb X p) (hp : PIs p C d) (I : Inv X pins σ H s) (hd : H d = some (exd d fs)) : ∃ o : Obj, PySem.W.InstAt s.heap p.1 p.2 C (some o) := by
  obtain ⟨mA, ⟨o, es, ep, h1, h2⟩, _⟩ := exd_at I.hok hd
  obtain ⟨vs, dv, _⟩ := hb.ctx
  refine ⟨o, ⟨(hb.at_ _ _ _ _ I).1, hp.cl, ?_, ?_⟩⟩
  · unfold PySem.W.notCls
    rw [dv]
  · rw [hp.di]
    exact h1
end
/-- isinstance(e, c), e the exception p that is handled -/
def rIsP (p : Addr × Obj) (C d : Addr) (K : PySem.W.Frag) : List V → Hp → VK → Prop := fun xs H Q => ∃ (c : V) (u : Value) (b : Bool) (fs : List (Str × V)), xs = [.ref p.1, c] ∧ H d = some (exd d fs) ∧ ClsV c u ∧ PySem.W.kitOne K (.ref C) u = some b ∧ Q (.bl b) H
theorem call_isP {X : Cx} {p : Addr × Obj} {C d : Addr} (hb : Hb X p) (hp : PIs p C d) (T : ExcC X.K C) : CallR X (.builtin "isinstance") (rIsP p C d X.K) := by
  intro pl s σ H xs us Q I r ⟨c, u, b, fs, ex, hd, k, ek, q⟩
  subst ex
  obtain ⟨u1, u2, rfl, r1, r2⟩ := vals2 r
  have z := k.eq r2
  subst z
  obtain rfl : u1 = Value.ref p.1 := r1
  obtain ⟨o, J⟩ := inst_p hb hp I hd
  exact PySem.W.kia_one (kitG T) I.kIn J ek (fun z => nomatch z) fun tk => ⟨.bl b, H, I.tok tk, rfl, q⟩
/-- e.f, e the exception p that is handled -/
def tXfP (p : Addr × Obj) (C d : Addr) (K : PySem.W.Frag) (f : Str) (te : TE) : TE := fun σ H Q => te σ H fun x H1 => ∃ (fs : List (Str × V)) (v : V), x = .ref p.1 ∧ H1 d = some (exd d fs) ∧ PySem.W.findIn K (.ref C) f = some none ∧ fs.lookup f = some v ∧ Q v H1
theorem pe_xfP {X : Cx} {p : Addr × Obj} {C d : Addr} {e : Expr} {te : TE} {f : Str} {pos : Pos} (hb : Hb X p) (hp : PIs p C d) (T : ExcC X.K C) (he : PE X e te) (ha : attributeBase e f X.env (eval e X.env) = eval e X.env := by rfl) : PE X (.Attribute e f pos) (tXfP p C d X.K f te) := by
  refine ⟨fun pl s σ H Q I want => attr_of ha (thn (he.run pl s σ H _ I want) fun u s1 ⟨x, H1, I1, rx, fs, v, ex, hd, no, l, q⟩ => ?_)⟩
  subst ex
  obtain rfl : u = Value.ref p.1 := rx
  obtain ⟨mA, hns, rel⟩ := exd_at I1.hok hd
  obtain ⟨od, hod, hl⟩ := lookIn_ns hns
  obtain ⟨u, hu, ru⟩ := RelO.some_of (v := v) (o := mA f) (by rw [← l]; exact rel f)
  obtain ⟨vs, dv, _⟩ := hb.ctx
  have J : PySem.W.InstAt s1.heap p.1 p.2 C (some od) := ⟨(hb.at_ _ _ _ _ I1).1, hp.cl, by unfold PySem.W.notCls; rw [dv], by rw [hp.di]; exact hod⟩
  exact HandSPX.exc_get I1.kIn J T.hg T.hk T.hs (PySem.W.findObj_own T.hd no rfl (by rw [hl, hu])) (handed_of ru) ⟨v, H1, I1.tok _, ru, q⟩
end L2
namespace L2
open PySem PySem.Spec PyProof.Rows PySem.GX HotX L2H
theorem PE_imp {X : Cx} {e : Expr} {t t' : TE} (h : PE X e t) (m : ∀ σ H Q, t' σ H Q → t σ H Q) : PE X e t' := ⟨fun pins s σ H Q I q => h.run pins s σ H Q I (m σ H Q q)⟩
/-- __init__ with one field -/
def spI1 (C : Addr) (f : Str) : Sp := fun vs H Q _ => ∃ (a : Addr) (v : V), vs = [.ref a, v] ∧ H a = some (exo a C none) ∧
  ∀ d, H d = none → d ≠ a → Q .non (upd (upd H d (exd d [(f, v)])) a (exo a C (some d)))
/-- the class x at C, whose __init__ keeps its one argument as f -/
structure Mk1 (P : Program) (w : World) (K : PySem.W.Frag) (mg : Str → Option Value) (base : Heap) (x : Str) (C : Addr) (f : Str) : Prop where
  ex : ExG K C
  gC : mg x = some (.ref C)
  ini : ∃ (fI : Addr) (fd : FuncData), PySem.W.findIn K (.ref C) "__init__" = some (some (.ref fI)) ∧ PySem.W.typeIn K (.ref fI) = some (.type "function") ∧ FnOk P w K mg base CX0 1 fI fd ["self", f] (spI1 C f) ∧
    KBn K fd ["self", f] 2 [] (fun us _ => us) (fun vs _ => vs) ∧ KBn K fd ["self", f] 1 [f] (fun us ws => us ++ ws) (fun vs zs => vs ++ zs)
def tMk1 (C : Addr) (f : Str) (ta : TA) : TE := fun σ H Q => ta σ H fun vs H1 => ∃ v, vs = [v] ∧ ∀ (a d : Addr) (H2 : Hp), H1 a = none → d ≠ a → Same H1 H2 → ExAt H2 a C d [(f, v)] → Q (.ref a) H2
/-- the heap behind the making -/
theorem mk1_heap {H : Hp} {a d C : Addr} {f : Str} {v : V} (ha : H a = none) (hd : upd H a (exo a C none) d = none) (ne : d ≠ a) :
    Same H (upd (upd (upd H a (exo a C none)) d (exd d [(f, v)])) a (exo a C (some d))) ∧ ExAt (upd (upd (upd H a (exo a C none)) d (exd d [(f, v)])) a (exo a C (some d))) a C d [(f, v)] := by
  refine ⟨fun b o e => ?_, upd_same, by rw [upd_ne ne, upd_same]⟩
  have hd' : H d = none := by rw [upd_ne ne] at hd; exact hd
  rw [upd_ne (ne_of_none e ha), upd_ne (ne_of_none e hd'), upd_ne (ne_of_none e ha)]
  exact e
section
variable {X : Cx} {x f g : Str} {C : Addr} {e : Expr} {es : List Expr} {kws : List Keyword} {ta tk : TA} {p pos : Pos}
theorem pe_mk1 (M : Mk1 X.prog X.w X.K X.mg X.base x C f) (hr : Room 2 X.A) (hg : Gl X x) (ha : PA X (e :: es) ta)
    (hdb : (x == ("__debug__" : Str)) = false := by decide) (he : starEach (e :: es) X.env = (false, eval e X.env) :: starEach es X.env := by rfl) (hpl : (backTo pos (starEach es X.env)).any (·.1) = false := by rfl) :
    PE X (.Call (.Name x p) (e :: es) [] pos) (tMk1 C f ta) := by
  obtain ⟨fI, fd, iC, tI, F1, kb, _⟩ := M.ini
  refine ⟨fun pins s σ H Q I h => wpAny_Call_Name_kw (ld_glob I hg M.gC ?_ hdb)⟩
  refine PySem.W.callWith_K (h₀ := X.base) I.ok.mod.kin M.ex.kC (thn (ha.run pos pins s σ H _ I h) fun us s1 ⟨vs, H1, I1, r, v, ev, q⟩ => ⟨I1.kIn, ?_⟩) he hpl
  subst ev
  refine run_mkG (n := 1) (ks := []) (ws := []) (zs := []) M.ex iC tI F1 hr kb pass0 I1 r .nil rfl rfl (by show 1 ≤ 1000; decide) fun a na => ⟨a, v, rfl, upd_same, fun d nd ne => ⟨rfl, ?_⟩⟩
  obtain ⟨z1, z2⟩ := mk1_heap (f := f) (v := v) na nd ne
  exact q a d _ na ne z1 z2
theorem pe_mk1K (M : Mk1 X.prog X.w X.K X.mg X.base x C f) (hr : Room 2 X.A) (hg : Gl X x) (hkw : PK X kws tk)
    (hall : (backToKw pos (keywordEach kws X.env)).all (·.1.isSome) = true := by rfl) (hks : (backToKw pos (keywordEach kws X.env)).filterMap (·.1) = [f] := by rfl) (hdb : (x == ("__debug__" : Str)) = false := by decide)
    (hpl : ((backTo pos (starEach [] X.env)).any (·.1) || (backToKw pos (keywordEach kws X.env)).any (·.1.isNone)) = false := by rfl) :
    PE X (.Call (.Name x p) [] kws pos) (tMk1 C f tk) := by
  obtain ⟨fI, fd, iC, tI, F1, _, kb⟩ := M.ini
  refine ⟨fun pins s σ H Q I h => wpAny_Call_Name_kw (ld_glob I hg M.gC ?_ hdb)⟩
  refine PySem.W.callWith_KW0 (h₀ := X.base) I.ok.mod.kin M.ex.kC hall ?_ hpl
  refine thn (hkw.run pos pins s σ H _ I h) fun ws s2 ⟨zs, H1, I1, rz, v, ev, q⟩ => ⟨I1.kIn, ?_⟩
  subst ev
  rw [hks]
  refine run_mkG (n := 0) (ks := [f]) (us := []) (vs := []) M.ex iC tI F1 hr kb pass0 I1 .nil rz rfl rfl (by decide) fun a na => ⟨a, v, rfl, upd_same, fun d nd ne => ⟨rfl, ?_⟩⟩
  obtain ⟨z1, z2⟩ := mk1_heap (f := f) (v := v) na nd ne
  exact q a d _ na ne z1 z2
end

/-- an own exception with its dict, made and raised -/
theorem pmk_exo {X : Cx} {e : Expr} {te : TE} (hx : X.ex = []) (he : PE X e te) :
    L2N.PMk X e (fun σ H Q => te σ H fun x H1 => ∃ a C d, x = .ref a ∧ H1 a = some (exo a C (some d)) ∧ X.H_0 a = none ∧ Raises X (.ref C) ∧ Q (.ref C) (some d) (delH H1 a)) := by
  intro pl s σ H Q I want
  refine wpAny_mono (he.run pl s σ H _ I want) (fun u s1 ⟨v, H1, I1, r1, a, C, d, ev, ea, h0, hr, q⟩ => ?_) fun _ _ x => x
  subst ev
  cases r1
  obtain ⟨t1, ho⟩ := exo_at I1.hok ea
  obtain ⟨G, gs, ga, J⟩ := Inv.untrack I1 ea (fr0_none h0) hx
  exact ⟨a, _, _, { s1 with heap := G }, delH H1 a, .ref C, some d, rfl, J, gs, ga, ho, ⟨rfl, rfl, fun vs e => by cases e; rfl⟩, rfl, rfl, delH_same, rfl, I1.bare, hr, q⟩
/-- raise X(e): what leaves -/
def tRs1 (X : Cx) (C : Addr) (f : Str) (W : L2.WX) (ta : TA) : TS := fun _ σ H => tMk1 C f ta σ H fun x H1 => ∃ a C d, x = .ref a ∧ H1 a = some (exo a C (some d)) ∧ X.H_0 a = none ∧ Raises X (.ref C) ∧ W (.ref C) (some d) σ (delH H1 a)
section
variable {X : Cx} {x f : Str} {C : Addr} {e : Expr} {es : List Expr} {ta : TA} {pp pos pos2 : Pos} {W : L2.WX}
theorem ps_raise1 (M : Mk1 X.prog X.w X.K X.mg X.base x C f) (hr : Room 2 X.A) (hg : Gl X x) (hx : X.ex = []) (hc : X.calm = true) (tk : L2N.Takes X W) (ha : PA X (e :: es) ta)
    (hdb : (x == ("__debug__" : Str)) = false := by decide) (he : starEach (e :: es) X.env = (false, eval e X.env) :: starEach es X.env := by rfl) (hpl : (backTo pos (starEach es X.env)).any (·.1) = false := by rfl) :
    PS X (.Raise (some (.Call (.Name x pp) (e :: es) [] pos)) none pos2) (tRs1 X C f W ta) :=
  L2N.ps_raise hc tk (pmk_exo hx (pe_mk1 (p := pp) M hr hg ha hdb he hpl))
/-- how the reading is answered -/
theorem rs1_end {X : Cx} {C a d : Addr} {f : Str} {v : V} {H1 H2 : Hp} {σ : St} {W : L2.WX} (rs : Raises X (.ref C)) (h0 : Same X.H_0 H1) (na : H1 a = none) (ne : d ≠ a) (s2 : Same H1 H2) (ex : ExAt H2 a C d [(f, v)])
    (k : ∀ H3, Same H1 H3 → H3 d = some (exd d [(f, v)]) → W (.ref C) (some d) σ H3) : ∃ a' C' d', V.ref a = .ref a' ∧ H2 a' = some (exo a' C' (some d')) ∧ X.H_0 a' = none ∧ Raises X (.ref C') ∧ W (.ref C') (some d') σ (delH H2 a') := by
  refine ⟨a, C, d, rfl, ex.ob, h0.free na, rs, k _ (fun b o e => ?_) ?_⟩
  · rw [delH_ne (ne_of_none e na)]
    exact s2 b o e
  · rw [delH_ne ne]
    exact ex.di
end
/-- a def that may raise, where nothing is handled -/
theorem Fun.okN {P : Program} {w : World} {K : PySem.W.Frag} {mg : Str → Option Value} {base : Heap} {x qual : Str} {st : Stmt} {f : Addr} {fd : FuncData} {N ps : List Str} {k : Nat} {sp : Sp} (F : Fun K x qual st f fd) (S : FnScope N ps (defScope st)) (len : ∀ vs H Q E, sp vs H Q E → vs.length = ps.length)
    (hbody : ∀ (cdv : Value) (A : Around) (outer : List Env) (s : Shared) (H : Hp) (vs : List V) (Q : VK) (E : XK), Room k (A.deeper (envOfC qual (defScope st) s.heap.objs.size f cdv)) → sp vs H Q E →
      ∃ t, PSs (cxOf (L2N.CX P w) P w K mg base N qual (defScope st) f cdv A outer s H E) (defBody st) t ∧ t { nx := fun _ H' => Q .non H', rt := Q } (start N vs) H) : FnOk P w K mg base (L2N.CX P w) (k + 1) f fd ps sp := by
  obtain ⟨oc, od, kV, doc, pm, an, cdv, ct, osl, rfl, lk, hcd⟩ := F.ex
  exact fn_of lk hcd S len fun A outer s H vs Q E hr want => hbody cdv A outer s H vs Q E hr want
end L2
namespace L2
open PySem PySem.Spec PyProof.Rows PySem.GX HotX L2H
theorem flying_keep {B h h' : Heap} {l : List Env} {e : Addr} {Z : Obj → Prop} (x : HandSPX.FlyingZ B l e Z h) (k : ∀ b o, h.get? b = some o → h'.get? b = some o) : HandSPX.FlyingZ B l e Z h' := by
  obtain ⟨f1, f2, f3, oe, vs, T, oT, ts, a1, a2, a3, a4, a5, a6, a7, a8, a9⟩ := x
  exact ⟨fun b o q => k b o (f1 b o q), f2, f3.of_keeps fun b o q _ => ⟨o, k b o q, rfl⟩, oe, vs, T, oT, ts, k _ _ a1, a2, a3, a4, a5, a6, k _ _ a7, a8, a9⟩
/-- what 'except (c1, c2, ..) as n' wishes: slot i is n's; all that may come is of one of them -/
def w3 (K : PySem.W.Frag) (cs : List Value) (i : Nat) (ts : Addr → Value → Option Addr → TS) (D : Ends) : L2.WX := fun cls d σ H =>
  PySem.W.exmAny K cls cs = some true ∧ ∀ a, H a = none → ts a cls d { nx := fun σ' H' => D.nx (σ'.set i none) H', rt := D.rt, bk := fun σ' H' => D.bk (σ'.set i none) H', ct := fun σ' H' => D.ct (σ'.set i none) H' } (σ.set i (some (.ref a))) H
section
variable {X : Cx} {x1 x2 x3 n : Str} {c1 c2 c3 : Value} {i kk : Nat} {body suite : List Stmt} {b₀ : Stmt} {p1 p2 p3 tp pos pos' : Pos} {tb : L2.WX → TS} {ts : Addr → Value → Option Addr → TS}
theorem ps_try3 (hs : X.stack = X.env :: X.outer) (hf : X.env.frame = some X.env.locals) (hN : X.N.Nodup) (hi : X.N[i]? = some n) (hln : X.env.kindOf n = some .local) (m1 : Names X x1 c1) (m2 : Names X x2 c2) (m3 : Names X x3 c3)
    (hb : ∀ (W : L2.WX) (pn : List (Addr × Obj)) (xe : Value → Shared → Prop), L2N.Takes (X.tr pn xe) W → PassesOwn (model X.prog X.w) X.A X.env xe → PSs (X.tr pn xe) body (tb W))
    (hsu : ∀ (a : Addr) (oe : Obj) (cls : Value) (d : Option Addr) (pn : List (Addr × Obj)), L2N.Zn cls d oe → (∃ vs, oe.data = .fields vs) → PSs (X.suite a ((a, oe) :: pn)) (b₀ :: suite) (ts a cls d)) :
    PS X (.Try body [.ExceptHandler (some (.Tuple [.Name x1 p1, .Name x2 p2, .Name x3 p3] kk tp)) (some n) (b₀ :: suite) pos'] [] [] pos) (fun D σ H => tb (w3 X.K [c1, c2, c3] i ts D) D σ H) := by
  refine ⟨fun pl s σ H D I want => wpAny_Try_except ?_⟩
  have ok := I.ok
  have frs_ : X.A.frames = some (X.env :: X.outer) := by rw [ok.frames, hs]
  have loc_ : Loc X.env.scope n := .inl hln
  refine wpAny_mono ((hb (w3 X.K [c1, c2, c3] i ts D) (X.pn ++ pl) (fun e s₁ => wpAny (model X.prog X.w) X.A (noteFrame e X.env) (fun _ s₂ => wpAny (model X.prog X.w) X.A (setFlight e none) (fun _ s₃ =>
    wpAny (model X.prog X.w) X.A (handleBy e X.env [.ExceptHandler (some (.Tuple [.Name x1 p1, .Name x2 p2, .Name x3 p3] kk tp)) (some n) (b₀ :: suite) pos']) (SP X pl D) X.xe s₃) X.xe s₂) X.xe s₁) (fun u s' xx => ?_) PassesOwn.looking).run [] s σ H D (I.toTry _) want) (fun f s1 hsp => ?_) (fun e s1 he => he)
  · obtain ⟨a, B, sI, pins', σ', H', cls, d, rfl, J', nb, up, sky, na, os, ag, hex, hyes⟩ := xx
    have J : Inv X pl σ' H' sI := J'.ofTry ok
    show wpAny (model X.prog X.w) X.A (noteFrame (.ref a) X.env) _ _ _
    refine L2N.Sky.land L2N.Zn.steady frs_ hf (show Sky B (X.env :: X.outer) a (L2N.Zn cls d) X.env.locals s'.heap by rw [← hs]; exact sky) fun h3 fl3 up3 => ?_
    have J3 : Inv X pl σ' H' { s' with heap := h3 } := J.landed nb fl3.1 (up.trans up3) os ag
    obtain ⟨oe3, vs3, he3, hz3, hd3⟩ := fl3.there
    have nfr : a ∉ frs (X.env :: X.outer) := fun m => by
      obtain ⟨_, o', e', hnf⟩ := fl3.2.2.1.mem m
      rw [he3] at e'
      cases e'
      exact hnf _ hd3
    have nL : a ≠ X.env.locals := fun z => nfr (List.mem_filterMap.mpr ⟨X.env, List.mem_cons_self, by rw [hf, z]⟩)
    have nF : a ∉ X.fs := fun m => by
      obtain ⟨e, he, q⟩ := List.mem_filterMap.mp m
      exact nfr (List.mem_filterMap.mpr ⟨e, List.mem_cons_of_mem _ he, q⟩)
    have S3 := J3.suite he3 hd3 na nL nF
    refine wpAny_handleBy_cons (codeAny_handlers_test ?_) (by intro q; cases q)
    have nam : ∀ {x : Str} {c : Value} {np : Pos} {Q : Value → Shared → Prop} {E : Value → Shared → Prop}, Names X x c → Q c { s' with heap := h3 } → wpAny (model X.prog X.w) (X.A.mark (some (.ref a))) (eval (.Name x np) X.env) Q E { s' with heap := h3 } := fun {x c np Q E} hc q => by
      obtain ⟨hg, hdbg, hm | ⟨hm, hv, hnn⟩⟩ := hc
      · exact ld_glob (X := X.suite a ((a, oe3) :: (X.pn ++ pl))) S3 hg hm q hdbg
      · exact ld_blt (X := X.suite a ((a, oe3) :: (X.pn ++ pl))) S3 hg hm hv q hnn hdbg
    refine wpAny_Tuple (wpAny_items_cons (nam m1 (wpAny_items_cons (nam m2 (wpAny_items_cons (nam m3 (wpAny_items_nil ⟨by size_fits, ?_⟩)))))))
    have kp : ∀ q o, h3.get? q = some o → (h3.push { cls := .type "tuple", data := .seq [c1, c2, c3].toArray }).get? q = some o := fun _ _ z => Heap.get?_push_of_some _ z
    have LT : PySem.W.Looks (model X.prog X.w) (h3.push { cls := .type "tuple", data := .seq [c1, c2, c3].toArray }) (typeOf (.ref a)) cls := fun A Q E s k q => wpAny_typeOf_ref (k _ _ (kp _ _ he3)) (by rw [hz3.1]; exact q)
    refine (PySem.W.exm_tup3 (M := model X.prog X.w) (J3.kIn.keeps kp) LT (Heap.get?_push_size h3 rfl) hex).here ?_
    refine codeAny_handlers_suite_as (HandSPX.lands_againZ (flying_keep fl3 kp) fun h4 fl4 up4 => ?_)
    have J4 : Inv X pl σ' H' { s' with heap := h4 } := J.landed nb fl4.1 (((up.trans up3).trans (.of_keeps kp)).trans up4) os ag
    obtain ⟨oe4, vs4, he4, hz4, hd4⟩ := fl4.there
    have S4 := J4.suite he4 hd4 na nL nF
    refine store_ok (X := X.suite a ((a, oe4) :: (X.pn ++ pl))) (v := .ref a) S4 hN hi loc_ rfl (fun s5 S5 => wpAny_mono ((hsu a oe4 cls d (X.pn ++ pl) hz4 ⟨_, hd4⟩).run [] s5 _ H' _ S5 (hyes a na)) (fun f s6 hsp => ?_) (fun _ _ z => False.elim z)) (.inr hln)
    have leaves : ∀ {σ6 : St} {H6 : Hp} {Q : Shared → Prop}, Inv (X.suite a ((a, oe4) :: (X.pn ++ pl))) [] σ6 H6 s6 → (∀ s7, Inv X pl (σ6.set i none) H6 s7 → Q s7) →
        wpAny (model X.prog X.w) X.A (do bindName X.env n .none; unbindBehindTheSuite X.env n pos') (fun _ s7 => Q s7) X.xe s6 := fun {σ6 H6 Q} S6 hq => gone_ok (S6.unsuite ok) hN hi hln hq
    cases f with
    | next =>
      obtain ⟨σ6, H6, S6, q6⟩ := hsp
      exact leaves S6 fun s7 J7 => ⟨_, _, J7, q6⟩
    | brk =>
      obtain ⟨σ6, H6, S6, q6⟩ := hsp
      exact leaves S6 fun s7 J7 => ⟨_, _, J7, q6⟩
    | cont =>
      obtain ⟨σ6, H6, S6, q6⟩ := hsp
      exact leaves S6 fun s7 J7 => ⟨_, _, J7, q6⟩
    | ret u =>
      obtain ⟨v6, σ6, H6, S6, r6, q6⟩ := hsp
      exact leaves S6 fun s7 J7 => ⟨_, _, _, J7, r6, q6⟩
  · cases f with
    | next =>
      obtain ⟨σ', H', J', q⟩ := hsp
      exact wpAny_execs_nil ⟨σ', H', J'.ofTry ok, q⟩
    | brk =>
      obtain ⟨σ', H', J', q⟩ := hsp
      exact ⟨σ', H', J'.ofTry ok, q⟩
    | cont =>
      obtain ⟨σ', H', J', q⟩ := hsp
      exact ⟨σ', H', J'.ofTry ok, q⟩
    | ret u =>
      obtain ⟨v, σ', H', J', r, q⟩ := hsp
      exact ⟨v, σ', H', J'.ofTry ok, r, q⟩
end
end L2
namespace L2
open PySem PySem.Spec PyProof.Rows PySem.GX HotX L2H LamX
/-- what is invariant does not speak of the wish about exceptions -/
theorem Inv.xe_ {X : Cx} {pins : List (Addr × Obj)} {σ : L2.St} {H : Hp} {s : Shared} (I : Inv X pins σ H s) (e : Value → Shared → Prop) : Inv { X with xe := e } pins σ H s :=
  have o := I.ok
  ⟨⟨o.mod, o.kind, o.glob, o.blt, o.above, o.inj, o.has, o.cab, o.hd, o.frames, o.stk, o.exf, o.bs, o.bsz, o.noex, o.exfs, o.funs, o.frf⟩, I.os, I.bare, I.base, I.loc, I.cell, I.free, I.freeC, I.pin, I.hok, I.len⟩
/-- the context of a lambda's body; what leaves it has no context of its own -/
def lamN (X : Cx) (A : Around) (outer : List Env) (s : Shared) (H : Hp) (E : XK) (scope : Scope) (f c' : Addr) : Cx :=
  { lamCx X A outer s H E scope f c' with xe := fun e s' => wpAny (model X.prog X.w) (A.deeper (lamEnv X scope s.heap.objs.size f c')) (leaving (lamEnv X scope s.heap.objs.size f c') e) (fun _ s'' => L2N.CX X.prog X.w outer H s E e s'') (fun e' s'' => L2N.CX X.prog X.w outer H s E e' s'') s' }
section
variable {X : Cx} {pl : List (Addr × Obj)} {σ : L2.St} {H : Hp} {s : Shared}
/-- a(), in the def that got the lambda -/
theorem pe_actN {CXg : CXT} {Eg : XK} {Ng : List Str} {qg : Str} {sg : Scope} {g f c' : Addr} {cdg pm ctv : Value} {params : Arguments} {body : Expr} {scope : Scope} {k i : Nat} {a : Str} {pn : List (Addr × Obj)} {xe : Value → Shared → Prop} {W : L2.WX} {E : XK} {tb : TE} {p1 p2 : Pos}
    (I : Inv X pl σ H s) (L : LamS X.env.scope scope) (hf : s.heap.get? f = some (PySem.W.kla_obj "<lambda>" (X.env.qual ++ "<lambda>") params body scope (cloFrom X.env.cells scope.names []) pm c' ctv)) (hfn : H f = none) (hfr : f ∉ frs X.stack)
    (hbind : bindArgs (PySem.W.kla_fn "<lambda>" (X.env.qual ++ "<lambda>") params body scope (cloFrom X.env.cells scope.names []) pm (.ref c') ctv) ⟨[], []⟩ = pure [])
    (tk : L2N.Takes ((cxOf CXg X.prog X.w X.K X.mg X.base Ng qg sg g cdg X.A X.stack s H Eg).tr pn xe) W) (hW : ∀ cls d σ' H', E cls d H' → W cls d σ' H') (hr : Room (k + 1) (X.A.deeper (envOfC qg sg s.heap.objs.size g cdg)))
    (hbody : ∀ (A : Around) (outer : List Env) (s : Shared) (H : Hp), Room k (A.deeper (lamEnv X scope s.heap.objs.size f c')) → PE (lamN X A outer s H E scope f c') body tb)
    (hN : Ng[i]? = some a) (hv : Vis sg a) (hd : (a == ("__debug__" : Str)) = false := by decide) (hcd : (a == ("__classdict__" : Str)) = false := by decide) :
    PE ((cxOf CXg X.prog X.w X.K X.mg X.base Ng qg sg g cdg X.A X.stack s H Eg).tr pn xe) (.Call (.Name a p1) [] [] p2)
      (fun σZ HZ Q => σZ[i]? = some (some (.ref f)) ∧ HZ c' = some (CodeO c' (X.env.qual ++ "<lambda>")) ∧ tb σ HZ Q) := by
  refine ⟨fun plZ sZ σZ HZ Q IZ ⟨hs, hc, want⟩ => wpAny_Call_Name_kw (thn ((pe_var (pos := p1) (i := i) hN hv hd hcd).run plZ sZ σZ HZ (fun v H1 => v = .ref f ∧ H1 = HZ) IZ ⟨.ref f, hs, rfl, rfl⟩) fun u s1 ⟨v, H1, I1, r1, ev, eH⟩ => ?_)⟩
  subst ev
  rw [eH] at I1
  obtain rfl : u = Value.ref f := r1
  have of1 : s1.heap.get? f = some (PySem.W.kla_obj "<lambda>" (X.env.qual ++ "<lambda>") params body scope (cloFrom X.env.cells scope.names []) pm c' ctv) := I1.base.keep f _ hf hfn hfr (fun z => nomatch (show f ∈ ([] : List Addr) from z))
  obtain ⟨⟨oc, vs, t, hoc, hdc, hvc⟩, _, _⟩ := I1.hok c' _ hc
  have rc : codeAny (model X.prog X.w) (X.A.deeper (envOfC qg sg s.heap.objs.size g cdg)) (.call (.ref f) ⟨[], []⟩) (CR (L2N.CX X.prog X.w) (envOfC qg sg s.heap.objs.size g cdg :: X.stack) X.prog X.w HZ s1 Q E) s1 := by
    refine PySem.W.kla_callFunE hr.depth of1 rfl L.co L.gen rfl ⟨c', oc, vs, t, rfl, hoc, hdc, hvc⟩ ?_
    rw [hbind]
    refine wpAny_pure (wpAny_newFunctionEnv (fun y hy => (L.own y hy).2) (fun y hy => absurd hy (by simp)) (fun h₁ hns hsb => ⟨I1.nolimit.fresh _ hsb, ?_⟩) L.kind)
    show codeAny _ _ (.expr body (lamEnv X scope s1.heap.objs.size f c')) _ _
    have J := (lam_start2 (E := E) (f := f) (c' := c') (tk := s1.toks + ([] : List (Str × Value)).length) I L I1.env0 hr.hd (show Un (frs X.stack) [] H HZ s.heap s1.heap from I1.base) hns fun b o e => hsb.extBut b o (Nat.ne_of_lt (Heap.lt_size e)) (Heap.get?_push_of_some _ e)).xe_ (fun e s' => wpAny (model X.prog X.w) ((X.A.deeper (envOfC qg sg s.heap.objs.size g cdg)).deeper (lamEnv X scope s1.heap.objs.size f c')) (leaving (lamEnv X scope s1.heap.objs.size f c') e) (fun _ s'' => L2N.CX X.prog X.w (envOfC qg sg s.heap.objs.size g cdg :: X.stack) HZ s1 E e s'') (fun e' s'' => L2N.CX X.prog X.w (envOfC qg sg s.heap.objs.size g cdg :: X.stack) HZ s1 E e' s'') s')
    refine PySem.W.kla_codeExpr (wpAny_mono ((hbody _ _ s1 HZ (hr.deeper _)).run [] _ _ HZ Q J want) (fun v s' ⟨w', H', J', rv, q⟩ => ⟨w', H', J'.os, J'.bare, J'.base, J'.hok, rv, q⟩) fun e s' hq => hq)
  refine PySem.W.callWith_F0 ⟨_, _, _, _, of1⟩ (wpAny_call (codeAny_mono rc fun r s' hq => ?_))
  cases r with
  | error e => exact L2N.passes_call tk hW plZ σZ HZ s1 e s' I1 hq
  | ok fl =>
    cases fl with
    | ret u => exact I1.after hq
    | next => exact False.elim hq
    | brk => exact False.elim hq
    | cont => exact False.elim hq
end
/-- the def that calls what it got (TT: what it makes of the lambda's reading) -/
def GivesN (X : Cx) (k : Nat) (Ng : List Str) (x : Str) (sg : Scope) (g : Addr) (cdg : Value) (bg : List Stmt) (a : Str) (q : Str) (TT : (XK → Hp → VK → Prop) → Hp → VK → Prop) : Prop :=
  ∀ (f c' : Addr) (s : Shared) (H : Hp) (Q : VK) (tl : XK → Hp → VK → Prop), Room k (X.A.deeper (envOfC x sg s.heap.objs.size g cdg)) →
    (∀ (W : L2.WX) (pn : List (Addr × Obj)) (xe : Value → Shared → Prop) (E : XK) (p1 p2 : Pos), L2N.Takes ((cxOf CX0 X.prog X.w X.K X.mg X.base Ng x sg g cdg X.A X.stack s H E0).tr pn xe) W → (∀ cls d σ' H', E cls d H' → W cls d σ' H') →
      PE ((cxOf CX0 X.prog X.w X.K X.mg X.base Ng x sg g cdg X.A X.stack s H E0).tr pn xe) (.Call (.Name a p1) [] [] p2) (fun σZ HZ Q => σZ[0]? = some (some (.ref f)) ∧ HZ c' = some (CodeO c' q) ∧ tl E HZ Q)) →
    H c' = some (CodeO c' q) → TT tl H Q →
    ∃ t, PSs (cxOf CX0 X.prog X.w X.K X.mg X.base Ng x sg g cdg X.A X.stack s H E0).nox bg t ∧ t { nx := fun _ H' => Q .non H', rt := Q } (L2.start Ng [.ref f]) H
section
variable {X : Cx}
/-- x(lambda: body) -/
theorem pe_lamN {T : List (Addr × Str)} {TT : (XK → Hp → VK → Prop) → Hp → VK → Prop} {x a : Str} {g c P : Addr} {k : Nat} {pg : Arguments} {bg : List Stmt} {sg : Scope} {dV kV doc pm cdv ct oc : Value} {an od : Option Addr} {osl : Array (Option Value)} {Ng : List Str}
    {params : Arguments} {body : Expr} {scope : Scope} {t : XK → TE} {p lpos pos : Pos} (hg : Gl X x) (hm : X.mg x = some (.ref g)) (hk : PySem.W.keepIn X.K (.ref g) = true)
    (lk : X.K.lookup g = some ⟨oc, od, .func (PySem.W.fnOf x x pg bg sg dV kV doc pm an cdv ct), osl⟩) (hcg : PySem.W.codeIn X.K cdv x = true) (hb : L2.Binds X.K (PySem.W.fnOf x x pg bg sg dV kV doc pm an cdv ct) [a] []) (Sg : FnScope Ng [a] sg) (hNg : Ng[0]? = some a) (hva : Vis sg a)
    (hG : GivesN X (k + 1) Ng x sg g cdv bg a (X.env.qual ++ "<lambda>") TT)
    (TB : TabB X.base X.mg c P) (hcode : X.env.code = .ref c) (hmT : (P, X.env.qual ++ "<lambda>") ∈ T) (hu : ∀ p ∈ T, p.1 = P → p.2 = X.env.qual ++ "<lambda>") (hr : Room (k + 2) X.A) (L : LamS X.env.scope scope) (hdef : defaultsOf params X.env = ([], []))
    (hbind : ∀ (q : Str) (cl : List (Str × Addr)) (pm cv ctv : Value), bindArgs (PySem.W.kla_fn "<lambda>" q params body scope cl pm cv ctv) ⟨[], []⟩ = pure [])
    (hbody : ∀ (A : Around) (outer : List Env) (s : Shared) (H : Hp) (E : XK) (f c' : Addr), Room k (A.deeper (lamEnv X scope s.heap.objs.size f c')) → PE (lamN X A outer s H E scope f c') body (t E))
    (hdb : (x == ("__debug__" : Str)) = false := by decide) (hd : (a == ("__debug__" : Str)) = false := by decide) (hcd : (a == ("__classdict__" : Str)) = false := by decide) :
    PE X (.Call (.Name x p) [.Lambda params body scope lpos] [] pos) (tLam T TT t) := by
  refine ⟨fun pl s σ H Q I ⟨hT, want⟩ => wpAny_Call_Name_kw (ld_glob I hg hm (PySem.W.callWith_K (h₀ := X.base) I.ok.mod.kin hk ?_ (by rfl) (by rfl)) hdb)⟩
  show wpAny _ _ (spliced ((false, eval (.Lambda params body scope lpos) X.env) :: backTo pos (starEach [] X.env))) _ _ s
  refine Calls.spliced_cons (lam_make2 I TB hcode hmT hu hT hdef (L.has I.ok) fun f c' pm' ctv H1 s' I1 eN T1 hf hfn hfr hco => Calls.spliced_nil ⟨I1.kIn, ?_⟩)
  have rc : codeAny (model X.prog X.w) X.A (.call (.ref g) ⟨[.ref f], []⟩) (CR CX0 X.stack X.prog X.w H1 s' Q E0) s' := by
    refine run_ofS (N := Ng) (ps := [a]) (us := [.ref f]) (vs := [.ref f]) lk hcg Sg hr I1.env0 (hb s' [.ref f] I1.kIn rfl) (.cons rfl .nil) rfl fun hr' => ?_
    obtain ⟨t', ht', hq'⟩ := hG f c' s' H1 Q (fun E H' Q' => t E σ H' Q') hr' (fun W pn xe E p1 p2 tk hW => pe_actN (i := 0) I1 L hf hfn hfr (hbind _ _ _ _ _) tk hW hr' (fun A outer s H hr2 => hbody A outer s H E f c' hr2) hNg hva hd hcd) hco (want H1 eN T1)
    exact ⟨t', ht'.nox, hq'⟩
  refine wpAny_call (codeAny_mono rc fun r s2 hq => ?_)
  cases r with
  | error e => exact (show False from hq).elim
  | ok fl =>
    cases fl with
    | ret u => exact I1.after hq
    | next => exact False.elim hq
    | brk => exact False.elim hq
    | cont => exact False.elim hq
end
end L2
namespace L2
open PySem PySem.Spec PyProof.Rows PySem.GX LamX
/-- the law's call, its promise where no repr is under way; the tables ts of code objects may grow -/
theorem law_callGT {P : Program} {w : World} {K : PySem.W.Frag} {mg mb : Str → Option Value} {CX : CXT} {k : Nat} {fa a : Addr} {fd : FuncData} {x : Str} {sp : Sp} {s1 : Shared} {vs : List Value} {ns : List Int} {ts : List (Addr × Addr)}
    (KX : K.In s1.heap) (hns : s1.heap.Ns mainGlobals mg) (hb : s1.heap.Ns builtinsNs mb) (hbb : ∀ x : Str, x ≠ "__name__" → mb x = bootBuiltins x) (hlim : s1.heap.NoLimit) (hg : s1.gens = #[])
    (t1 : ∀ q ∈ ts, s1.heap.get? q.2 = some (PySem.W.tabObj #[]) ∧ K.lookup q.2 = none ∧ PySem.W.CodeHd s1.heap q.1 q.2)
    (hbm : ∃ (m : Addr) (om : Obj), mg "__builtins__" = some (.ref m) ∧ m ≠ builtinsNs ∧ s1.heap.get? m = some om ∧ om.cls = .type "module" ∧ om.dict = some builtinsNs ∧ om.data = .plain)
    (ha : s1.heap.get? a = some { cls := .type "list", data := .seq vs.toArray }) (hi : IntsAre vs ns) (hl : ns.length ≤ sizeLine) (hr : Room k callerA)
    (F : ∀ base : Heap, K.In base → base.Ns mainGlobals mg → (∀ q ∈ ts, TabB base mg q.1 q.2) → FnG P w K mg base CX k fa fd [x] sp) (hbind : ∀ (s : Shared) (u : Value), BindsTo s fd ⟨[u], []⟩ [(x, u)])
    (hsp : ∀ H : Hp, (∀ q ∈ ts, H q.2 = some (.tbl #[])) → SqL K H a (ns.map V.int) → sp [.ref a] H (fun v _ => v = .bl true) fun _ _ _ => False)
    (hCX : ∀ H e s', CX [] H s1 (fun _ _ _ => False) e s' → False) :
    codeAny (model P w) callerA (.call (.ref fa) ⟨[.ref a], []⟩) (fun r s' => r = .ok (.ret (.bool true)) ∧ OldK s1.heap s'.heap ∧ s'.os = s1.os ∧ AllBare s'.gens) s1 := by
  have rv := vals_ints hi
  have lenV := hi.length
  let T : List Addr := ts.map (·.2)
  have tT : ∀ b ∈ T, ∃ q ∈ ts, q.2 = b := fun b h => List.mem_map.mp h
  have oT : ∀ b ∈ T, s1.heap.get? b = some (PySem.W.tabObj #[]) := fun b h => by
    obtain ⟨q, hq, rfl⟩ := tT b h
    exact (t1 q hq).1
  have naT : a ∉ T := fun h => by
    have e := oT a h
    rw [ha] at e
    have d : Data.seq vs.toArray _ = Data.fields #[] := congrArg Obj.data (Option.some.inj e)
    cases d
  let sc : HO := .frz { cls := .type "list", data := .seq vs.toArray } (.lst (ns.map V.int))
  let H : Hp := fun b => if b ∈ T then some (.tbl #[]) else if b = a ∧ (K.lookup a).isNone = true then some sc else none
  have HT : ∀ b ∈ T, H b = some (.tbl #[]) := fun b h => if_pos h
  have isH : ∀ b, H b ≠ none → b ∈ T ∨ b = a ∧ K.lookup a = none := fun b h => by
    by_cases h1 : b ∈ T
    · exact .inl h1
    · by_cases h2 : b = a ∧ (K.lookup a).isNone = true
      · exact .inr ⟨h2.1, Option.isNone_iff_eq_none.mp h2.2⟩
      · exact absurd ((if_neg h1).trans (if_neg h2)) h
  have sH : ∀ b u, H b = some u → b ∉ T → u = sc := fun b u e h1 => by
    have e2 : (if b = a ∧ (K.lookup a).isNone = true then some sc else none) = some u := (if_neg h1).symm.trans e
    by_cases h2 : b = a ∧ (K.lookup a).isNone = true
    · exact (Option.some.inj ((if_pos h2).symm.trans e2)).symm
    · cases (if_neg h2).symm.trans e2
  have seqA : SqL K H a (ns.map V.int) := by
    cases hk : K.lookup a with
    | some o =>
      have e := KX a o hk
      rw [ha] at e
      cases e
      exact .inr ⟨_, vs.toArray, _, hk, rfl, rfl, rfl, by rw [List.size_toArray, lenV]; exact hl, by simpa using rv⟩
    | none =>
      refine .inl (.inr ⟨{ cls := .type "list", data := .seq vs.toArray }, (if_neg naT).trans (if_pos ⟨rfl, ?_⟩)⟩)
      rw [hk]
      rfl
  have hok : HOk P w H s1.heap := fun b u e => by
    by_cases h1 : b ∈ T
    · have e2 := (HT b h1).symm.trans e
      cases e2
      exact oT b h1
    · have e3 := sH b u e h1
      have e4 : b = a := ((isH b (by rw [e]; simp)).resolve_left h1).1
      subst e3 e4
      exact ⟨ha, by rw [List.length_map]; exact hl, vs, _, rv, ha⟩
  -- what is of another kind is not tracked
  have off : ∀ {b : Addr} {o : Obj}, s1.heap.get? b = some o → (∀ z n, o.data ≠ .seq z n) → o.data ≠ .fields #[] → H b = none := fun {b o} e d1 d2 => by
    cases q : H b with
    | none => rfl
    | some u =>
      rcases isH b (by rw [q]; simp) with m | ⟨m, _⟩
      · rw [oT b m] at e
        cases e
        exact absurd rfl d2
      · rw [m, ha] at e
        cases e
        exact absurd rfl (d1 _ _)
  have offD : ∀ {b : Addr} {o : Obj} {es : Array DictEntry} {ep : Nat}, s1.heap.get? b = some o → o.data = .dict es ep → H b = none := fun {b o es ep} e d =>
    off e (fun z n q => by rw [d] at q; cases q) (fun q => by rw [d] at q; cases q)
  have nsB : ∀ {b : Addr} {m : Str → Option Value}, s1.heap.Ns b m → (hidT s1.heap H).Ns b m := fun {b m} ⟨o, es, ep, e, d, r⟩ => ⟨o, es, ep, hidT_get e (offD e d), d, r⟩
  have inB : K.In (hidT s1.heap H) := fun b o e => hidT_get (KX b o e) (by
    cases q : H b with
    | none => rfl
    | some u =>
      rcases isH b (by rw [q]; simp) with m | ⟨m, m2⟩
      · obtain ⟨r, hq, rfl⟩ := tT b m
        rw [(t1 r hq).2.1] at e
        cases e
      · rw [m, m2] at e
        cases e)
  have modB : Mod K mg (hidT s1.heap H) := ⟨inB, nsB hns, ⟨mb, nsB hb, hbb⟩, let ⟨mc, l1, l2⟩ := hlim; ⟨mc, nsB l1, l2⟩⟩
  have tabB : ∀ q ∈ ts, TabB (hidT s1.heap H) mg q.1 q.2 := fun q hq => by
    obtain ⟨oq, _, ⟨oc, us, fl, tf, fg, tg, nF, tx, tt, c1, c2, c3, c4, c5⟩⟩ := t1 q hq
    refine ⟨⟨oc, us, fl, tf, fg, tg, nF, tx, tt, hidT_get c1 (off c1 (fun z n d => by rw [c3] at d; cases d) fun d => ?_), c2, c3, c4, c5⟩, ?_, fun z => ?_⟩
    · rw [c3] at d
      cases d
      simp at c4
    · obtain ⟨m, om, b1, b2, b3, b4, b5, b6⟩ := hbm
      refine ⟨m, om, b1, b2, fun z => ?_, fun z => ?_, hidT_get b3 (off b3 (fun z n d => by rw [b6] at d; cases d) fun d => by rw [b6] at d; cases d), b4, b5, b6⟩
      · obtain ⟨o, es, ep, e, d, _⟩ := hns
        rw [z, e] at b3
        cases b3
        rw [d] at b6
        cases b6
      · rw [z, oq] at b3
        cases b3
        cases b6
    · obtain ⟨o, es, ep, e, d, _⟩ := hns
      rw [z, oq] at e
      cases e
      cases d
  have e0 : Env0 P w K mg (hidT s1.heap H) callerA [] s1 H :=
    ⟨rfl, modB, fun b o e => of_hidT e, Nat.le_of_eq (hidT_size _ _), trivial, fun b m => absurd (show b ∈ ([] : List Addr) from m) (by simp), hok, .of_eq hg⟩
  refine codeAny_mono ((F _ inB (nsB hns) tabB).run callerA [] s1 H ⟨[.ref a], []⟩ [.ref a] [.ref a] _ _ rfl hr e0 (hbind s1 (.ref a)) (.cons rfl .nil) (hsp H (fun q hq => HT _ (List.mem_map.mpr ⟨q, hq, rfl⟩)) seqA)) fun r s' h => ?_
  cases r with
  | error e => exact (hCX H e s' h).elim
  | ok fl =>
    cases fl with
    | next => exact False.elim h
    | brk => exact False.elim h
    | cont => exact False.elim h
    | ret u =>
      obtain ⟨v, H', os, bare, un, hok', r', q⟩ := h
      have qv : v = .bl true := q
      subst qv
      obtain rfl : u = Value.bool true := r'
      have stays : ∀ b o, b ∉ T → s1.heap.get? b = some o → s'.heap.get? b = some o := fun b o nb e => by
        cases q : H b with
        | none => exact un.keep b o e q (by intro z; exact absurd (show b ∈ ([] : List Addr) from z) (by simp)) (by simp)
        | some u =>
          have e3 := sH b u q nb
          subst e3
          have z2 := un.frzs b _ _ q
          obtain ⟨k1, _⟩ := hok b _ q
          obtain ⟨k2, _⟩ := hok' b _ z2
          rw [e] at k1
          cases k1
          exact k2
      have grows : ∀ b ∈ T, ∃ more : Array Value, s'.heap.get? b = some (PySem.W.tabObj more) := fun b m => by
        obtain ⟨more, z⟩ := un.tbls b #[] (HT b m)
        exact ⟨_, hok' b _ z⟩
      refine ⟨rfl, ⟨fun b o e => ?_, fun b o e => ?_⟩, os, bare⟩
      · by_cases m : b ∈ T
        · obtain ⟨q, hq, rfl⟩ := tT b m
          obtain ⟨more, hm⟩ := grows _ m
          obtain ⟨oq, _, cq⟩ := t1 q hq
          rw [oq] at e
          cases e
          exact .inr (.inl ⟨(cq.tab oq).isCodeTable, rfl, #[], more, rfl, by rw [Array.empty_append]; exact hm⟩)
        · exact .inl (stays b o m e)
      · by_cases m : b ∈ T
        · obtain ⟨more, hm⟩ := grows _ m
          exact ⟨_, hm⟩
        · exact ⟨o, stays b o m e⟩
/-- the walk of a law whose defs make lambdas -/
theorem walk_GT {l : PySem.W.OpenLaw} {n k : Nat} {q : Program} {loose : List Str} {XP : (Str → Option Value) → Heap → Prop} {YP : World → Heap → Prop} {d : DefRec} {K : Params → PySem.W.Frag} {sp : PySem.W.Frag → List (Addr × Addr) → Sp} {x : Str} {ts : List (Addr × Addr)}
    (hn : l.most = some n) (hn2 : n ≤ sizeLine) (hdf : d.params.defaults = []) (hr : Room k callerA)
    (hY : ∀ (w : World) (h : Heap), YP w h → (K w.params).In h) (hZ : ∀ (w : World) (h : Heap), YP w h → ∀ q ∈ ts, h.get? q.2 = some (PySem.W.tabObj #[]) ∧ (K w.params).lookup q.2 = none ∧ PySem.W.CodeHd h q.1 q.2)
    (F : ∀ (w : World) (mg : Str → Option Value) (fa : Addr) (h : Heap), (K w.params).In h → h.Ns mainGlobals mg → mg d.name = some (.ref fa) →
      ∃ fd : FuncData, (∀ (s : Shared) (u : Value), BindsTo s fd ⟨[u], []⟩ [(x, u)]) ∧
        ∀ base : Heap, (K w.params).In base → base.Ns mainGlobals mg → (∀ q ∈ ts, TabB base mg q.1 q.2) → FnG l.prog w (K w.params) mg base CX0 k fa fd [x] (sp (K w.params) ts))
    (hsp : ∀ (K : PySem.W.Frag) (H : Hp) (a : Addr) (ns : List Int), ns.length ≤ n → (∀ q ∈ ts, H q.2 = some (.tbl #[])) → SqL K H a (ns.map V.int) → sp K ts [.ref a] H (fun v _ => v = .bl true) fun _ _ _ => False) :
    PySem.W.WalkO q loose XP YP l.row.toRowW d [] (fun f vs => PySem.call f vs) := by
  refine Att.attach_call hn hdf fun w s₀ s1 mg mb fa o pm cd doc a vs ns G Y ho hd hcd hmg hobj hints hlen hg => ?_
  have KX := hY w _ Y
  have t1 := hZ w _ Y
  obtain ⟨fd, hb, hF⟩ := F w mg fa _ KX G.T.g hmg
  exact law_callGT KX G.T.g G.T.b G.T.builtins G.T.nolimit hg t1 G.T.bmain hobj hints (Nat.le_trans hlen hn2) hr hF hb (fun H hT hS => hsp (K w.params) H a ns hlen hT hS) fun _ _ _ z => z
end L2
namespace My
open PySem PySem.Spec PyProof.Rows L2 PySem.GX L2H LamX
open Builtin.Str (reprChar)
theorem reps_list (c : Nat) : ∀ (n : Nat) (acc : Array Nat), ((List.replicate n #[c]).foldl (· ++ ·) acc).toList = acc.toList ++ List.replicate n c
  | 0, acc => by simp
  | n + 1, acc => by
    rw [List.replicate_succ, List.foldl_cons, reps_list c n, List.replicate_succ]
    simp
/-- one sign, so often -/
def manyS (c : Nat) : Str := ⟨(List.replicate 1001 c).toArray⟩
theorem op_mulS {X : Cx} : OpR X (binaryOp .Mult) (fun x y H Q => ∃ c : Nat, x = .str (sg c) ∧ y = .int 1001 ∧ Q (.str (manyS c)) H) := by
  intro pins s σ H x y v u Q I rx ry ⟨c, ex, ey, q⟩
  subst ex ey
  obtain ⟨t, rfl⟩ := rx
  obtain ⟨t', rfl⟩ := ry
  have e : Txt.mul (sg c) 1001 = manyS c := by
    unfold Txt.mul
    rw [if_neg (by decide), if_neg (by show ¬ ((1001 : Int) == 1 || (1 : Nat) == 0) = true; decide)]
    exact str_ext (by
      show ((List.replicate 1001 #[c]).foldl (· ++ ·) #[]).toList = _
      rw [reps_list]
      simp [manyS])
  refine SB.mul ⟨by decide, fun _ _ => ?_, fun _ _ => ?_⟩ fun t' k => ⟨.str (manyS c), H, I.tok _, ⟨t', by rw [e]⟩, q⟩
  · show ¬ ((1 : Int) > (2 ^ 63 - 1) / 1001)
    decide
  · show Builtin.Str.tooLong (1 * 1001) = false
    decide +kernel
/-- all but the tables and what is at p stays -/
def Kp (p : Addr) (H H' : Hp) : Prop := ∀ b o, b ≠ p → (∀ ps, o ≠ .tbl ps) → H b = some o → H' b = some o
theorem Kp.refl (p : Addr) (H : Hp) : Kp p H H := fun _ _ _ _ h => h
theorem Kp.trans {p : Addr} {H H1 H2 : Hp} (a : Kp p H H1) (b : Kp p H1 H2) : Kp p H H2 := fun c o n t h => b c o n t (a c o n t h)
theorem Kp.sb {p : Addr} {H H' : Hp} (s : Sb p H H') : Kp p H H' := fun b o n _ h => s b o n h
theorem Kp.of {p : Addr} {H H' : Hp} (s : Same H H') : Kp p H H' := fun b o _ _ h => s b o h
theorem Kp.ext {p : Addr} {H H' : Hp} (s : ExtN H H') : Kp p H H' := fun b o _ t h => s b o h t
theorem Tabs.sb_ {T : List (Addr × Str)} {p : Addr} {H H' : Hp} (t : Tabs T H) (w : Wl H p) (s : Sb p H H') : Tabs T H' := fun q hq => by
  obtain ⟨ps, h1, h2, h3⟩ := t q hq
  refine ⟨ps, s _ _ (w.ne h1 fun a b c z => by cases z) h1, h2, fun pos cv hc => ?_⟩
  obtain ⟨c, e1, e2⟩ := h3 pos cv hc
  exact ⟨c, e1, s _ _ (w.ne e2 fun a b c z => by cases z) e2⟩
theorem Wl.ext_ {H H' : Hp} {p : Addr} (w : Wl H p) (s : ExtN H H') : Wl H' p := by
  obtain ⟨w0, w1, w2, a0, a1, e⟩ := w
  exact ⟨w0, w1, w2, a0, a1, s _ _ e fun _ z => by cases z⟩
theorem call_reprLK {X : Cx} {K : PySem.W.Frag} (h : X.K = K) (hg : X.A.guards = some []) (hu : X.A.units + 64 < cLine) : CallR X (.builtin "repr") (rRepr K) := by subst h; exact call_reprL hg hu
def Low (y : Str) : Prop := ∀ c ∈ y.cps.toList, c < 256
theorem Low.app {a b : Str} (h1 : Low a) (h2 : Low b) : Low (a ++ b) := fun c hc => by
  rw [cps_app] at hc
  rcases List.mem_append.mp hc with m | m
  · exact h1 c m
  · exact h2 c m
theorem reprChar_low : ∀ c, c < 256 → ∀ q ∈ [39, 34], (reprChar q c).all (fun e => decide (e < 256)) = true := by decide +kernel
theorem fold_low (q : Nat) (hq : q ∈ [39, 34]) : ∀ (l : List Nat) (acc : Array Nat), (∀ c ∈ l, c < 256) → (∀ c ∈ acc.toList, c < 256) → ∀ c ∈ (l.foldl (fun out c => out ++ (reprChar q c).toArray) acc).toList, c < 256
  | [], acc, _, h => h
  | d :: r, acc, h1, h2 => by
    refine fold_low q hq r _ (fun c hc => h1 c (by simp [hc])) fun c hc => ?_
    simp only [Array.toList_append, List.mem_append] at hc
    rcases hc with m | m
    · exact h2 c m
    · exact of_decide_eq_true (List.all_eq_true.mp (reprChar_low d (h1 d (by simp)) q hq) c m)
theorem repr_low {x : Str} (h : Low x) : Low (reprText x) := fun c hc => by
  have hq : reprQuote x ∈ [39, 34] := by
    unfold reprQuote
    split <;> simp
  unfold reprText at hc
  simp only [Array.toList_push, List.mem_append, List.mem_singleton] at hc
  have q0 : reprQuote x < 256 := by
    simp only [List.mem_cons, List.not_mem_nil, or_false] at hq
    omega
  rcases hc with m | m
  · rw [← Array.foldl_toList] at m
    exact fold_low _ hq _ _ h (fun d hd => by
      have : d = reprQuote x := by simpa using hd
      rw [this]; exact q0) c m
  · rw [m]; exact q0
theorem repr_short {x : Str} (h : Low x) : (reprText x).length ≤ 10 * x.length + 2 := StrLaws.reprText_len x fun c hc => Nat.lt_trans (h c hc) (by decide)
/-- what repr(["row", d]) is asked for -/
structure Gd (d : PyData) : Prop where
  sh : PyData.showableAll [.str "row", d] = true
  ln : (PyData.list [.str "row", d]).shown.length ≤ sizeLine
  dp : (PyData.list [.str "row", d]).depth ≤ 60
  ok : PyData.strOk (PyData.list [.str "row", d]).shown = true
theorem row_text (t : Str) : listText [reprText "row", t] = ("['row', " : Str) ++ t ++ "]" := by
  have e : textFrom 0 "[" [reprText "row", t] = ("['row', " : Str) ++ t := by
    show (("[" : Str) ++ ("" : Str) ++ reprText "row") ++ (", " : Str) ++ t = _
    have : (("[" : Str) ++ ("" : Str) ++ reprText "row") ++ (", " : Str) = "['row', " := by decide +kernel
    rw [this]
  unfold listText
  rw [e]
theorem gd_of {d : PyData} (h1 : d.showable = true) (h2 : d.shown.length ≤ 20000) (h3 : d.depth ≤ 50) (h4 : Low d.shown) : Gd d := by
  have e : (PyData.list [.str "row", d]).shown = ("['row', " : Str) ++ d.shown ++ "]" := by
    rw [← row_text]
    simp only [PyData.shown, PyData.shownAll]
  refine ⟨?_, ?_, ?_, ?_⟩
  · simp only [PyData.showableAll, PyData.showable, h1, Bool.and_self]
  · rw [e, len_app, len_app]
    have a : ("['row', " : Str).length = 8 := by decide +kernel
    have b : ("]" : Str).length = 1 := by decide +kernel
    rw [a, b, sizeLine_eq]
    omega
  · simp only [PyData.depth, PyData.depthAll]
    omega
  · rw [e]
    exact ok_low (Low.app (Low.app (by unfold Low; decide +kernel) h4) (by unfold Low; decide +kernel))
theorem gd_str {r : Str} (h : Low r) (hl : r.length ≤ 1100) : Gd (.str r) := by
  have := repr_short h
  refine gd_of (by simp only [PyData.showable]) ?_ (by simp only [PyData.depth]; omega) ?_
  · simp only [PyData.shown]
    omega
  · simp only [PyData.shown]
    exact repr_low h
theorem gd_list {r : Str} (h : Low r) (hl : r.length ≤ 1100) : Gd (.list [.str r]) := by
  have := repr_short h
  have e : (PyData.list [.str r]).shown = ("[" : Str) ++ reprText r ++ "]" := by
    simp only [PyData.shown, PyData.shownAll]
    unfold listText
    show (("[" : Str) ++ ("" : Str) ++ reprText r) ++ "]" = _
    have : ("[" : Str) ++ ("" : Str) = "[" := by decide +kernel
    rw [this]
  refine gd_of (by simp only [PyData.showable, PyData.showableAll, Bool.and_self]) ?_ (by simp only [PyData.depth, PyData.depthAll]; omega) ?_
  · rw [e, len_app, len_app]
    have a : ("[" : Str).length = 1 := by decide +kernel
    have b : ("]" : Str).length = 1 := by decide +kernel
    omega
  · rw [e]
    exact Low.app (Low.app (by unfold Low; decide +kernel) (repr_low h)) (by unfold Low; decide +kernel)
theorem gd_tup {r : Str} (h : Low r) (hl : r.length ≤ 1100) : Gd (.tuple [.str r]) := by
  have := repr_short h
  have e : (PyData.tuple [.str r]).shown = ("(" : Str) ++ reprText r ++ ",)" := by
    simp only [PyData.shown, PyData.shownAll]
    rfl
  refine gd_of (by simp only [PyData.showable, PyData.showableAll, Bool.and_self]) ?_ (by simp only [PyData.depth, PyData.depthAll]; omega) ?_
  · rw [e, len_app, len_app]
    have a : ("(" : Str).length = 1 := by decide +kernel
    have b : (",)" : Str).length = 2 := by decide +kernel
    omega
  · rw [e]
    exact Low.app (Low.app (by unfold Low; decide +kernel) (repr_low h)) (by unfold Low; decide +kernel)
mutual
theorem Sh.ext {K : PySem.W.Frag} {H H' : Hp} (s : ExtN H H') : ∀ {v : V} {d : PyData}, Sh K H v d → Sh K H' v d
  | _, _, .fl f => .fl f
  | _, _, .lst h t => .lst (by
      rcases h with (h | ⟨o, h⟩) | h
      · exact .inl (.inl (s _ _ h fun _ z => by cases z))
      · exact .inl (.inr ⟨o, s _ _ h fun _ z => by cases z⟩)
      · exact .inr h) (ShAll.ext s t)
  | _, _, .tup h t => .tup (by
      rcases h with (h | ⟨o, h⟩) | h
      · exact .inl (.inl (s _ _ h fun _ z => by cases z))
      · exact .inl (.inr ⟨o, s _ _ h fun _ z => by cases z⟩)
      · exact .inr h) (ShAll.ext s t)
  | _, _, .dic h a b => .dic (s _ _ h fun _ z => by cases z) a b
theorem ShAll.ext {K : PySem.W.Frag} {H H' : Hp} (s : ExtN H H') : ∀ {vs : List V} {ds : List PyData}, ShAll K H vs ds → ShAll K H' vs ds
  | _, _, .nil => .nil
  | _, _, .cons a b => .cons (Sh.ext s a) (ShAll.ext s b)
end
theorem Kp.cut {p : Addr} {H H' : Hp} (s : Kp p H H') : ExtN (del H p) (del H' p) := fun b o e t => by
  by_cases hb : b = p
  · rw [hb, del_same] at e; cases e
  · rw [del_ne hb] at e ⊢
    exact s b o hb t e
theorem ext_of_del {H : Hp} {p : Addr} : ExtN (del H p) H := fun b o e _ => by
  by_cases hb : b = p
  · rw [hb, del_same] at e; cases e
  · rw [del_ne hb] at e; exact e
theorem sb_of_del {p : Addr} {H H' : Hp} (s : Same (del H p) (del H' p)) : Sb p H H' := fun b o n e => by
  have := s b o (by rw [del_ne n]; exact e)
  rw [del_ne n] at this
  exact this
/-- a text, or of another type -/
theorem sh_ty {K : PySem.W.Frag} {H : Hp} {v : V} {d : PyData} (h : Sh K H v d) : (∃ r, v = .str r ∧ d = .str r) ∨ ∃ ty, TyX K H v ty ∧ PySem.W.kitOne K ty (.type "str") = some false := by
  cases h with
  | fl f =>
    cases f with
    | non => exact .inr ⟨_, .base .non, kit_ty (by decide +kernel)⟩
    | bl b => exact .inr ⟨_, .base (.bl b), kit_ty (by decide +kernel)⟩
    | int i => exact .inr ⟨_, .base (.int i), kit_ty (by decide +kernel)⟩
    | str x => exact .inl ⟨x, rfl, rfl⟩
  | lst h t =>
    rcases h with (h | ⟨o, h⟩) | ⟨o, its, n, hk, hc, _⟩
    · exact .inr ⟨_, .base (.lst h), kit_ty (by decide +kernel)⟩
    · exact .inr ⟨_, .base (.frz h), kit_ty (by decide +kernel)⟩
    · exact .inr ⟨_, .kList hk hc, kit_ty (by decide +kernel)⟩
  | tup h t =>
    rcases h with (h | ⟨o, h⟩) | ⟨o, its, n, hk, hc, _⟩
    · exact .inr ⟨_, .base (.tup h), kit_ty (by decide +kernel)⟩
    · exact .inr ⟨_, .fTuple h, kit_ty (by decide +kernel)⟩
    · exact .inr ⟨_, .kTuple hk hc, kit_ty (by decide +kernel)⟩
  | dic h a b => exact .inr ⟨_, .base (.dK h), kit_ty (by decide +kernel)⟩
theorem row_is {x r : Str} (h1 : r.length ≤ 1000) (h2 : ∀ c ∈ r.cps.toList, c ∈ x.cps.toList) : isRowL x r = true := by
  unfold isRowL
  rw [decide_eq_true h1, Bool.true_and]
  exact List.all_eq_true.mpr fun c hc => decide_eq_true (h2 c hc)
theorem cut_sub (r : Str) (lo hi : Option Int) : ∀ c ∈ (cutS r lo hi).cps.toList, c ∈ r.cps.toList := fun c hc => by
  unfold cutS at hc
  exact List.mem_of_mem_drop (List.mem_of_mem_take (by simpa using hc))
theorem many_low {c : Nat} (h : c < 256) : Low (manyS c) := fun d hd => by
  unfold manyS at hd
  have : d = c := by simpa using hd
  rw [this]; exact h
theorem many_len (c : Nat) : (manyS c).length = 1001 := by
  show ((List.replicate 1001 c).toArray).size = 1001
  rw [List.size_toArray, List.length_replicate]
theorem sg_low {c : Nat} (h : c < 256) : Low (sg c) := fun d hd => by
  have : d = c := by simpa using hd
  rw [this]; exact h
theorem Tabs.off {T : List (Addr × Str)} {l : Addr} {H : Hp} {xs : List V} {o : HO} (t : Tabs T H) (e : H l = some (.lst xs)) : Tabs T (upd H l o) := fun q hq => by
  obtain ⟨ps, h1, h2, h3⟩ := t q hq
  refine ⟨ps, by rw [upd_ne (ne_of h1 e (by intro z; cases z))]; exact h1, h2, fun pos cv hc => ?_⟩
  obtain ⟨c, e1, e2⟩ := h3 pos cv hc
  exact ⟨c, e1, by rw [upd_ne (ne_of e2 e (by intro z; cases z))]; exact e2⟩
end My
namespace L2
open PySem PySem.Spec PyProof.Rows PySem.GX
/-! a set comprehension whose members are texts -/
theorem addT {P : Program} {w : World} {A : Around} {E : Value → Shared → Prop} {s : Shared} {a : Addr} {ys : List Str} {k : Str} {tk : Tok} {Q : Value → Shared → Prop} (R : SetT w s.heap a ys) (room : ys.length + 1 < scanBound)
    (done : ∀ h', Heap.SameBut a s.heap h' → SetT w h' a (ins ys k) → Q .none { s with heap := h', toks := s.toks + 1 }) : wpAny (model P w) A (call (.builtin "set.add") [.ref a, .str k tk]) Q E s := by
  have ty : s.TypeIs (.ref a) "set" := by
    obtain ⟨o, _, _, _, ho, hex, _⟩ := R
    exact ⟨o, ho, hex.1⟩
  refine wpAny_call_entry PySem.F.slot_set_add ty PySem.F.entry_set_add ?_ (PySem.F.args_set_add_2 (.ref a) (.str k tk))
  unfold Builtin.«set.add» Builtin.Frozenset.oneOther Builtin.Frozenset.addrOf setAdd
  simp only [bind_assoc, List.isEmpty_nil]
  refine wpAny_bind (wpAny_pure ?_)
  try dsimp only
  refine wpAny_bind (wpAny_pure ?_)
  try dsimp only
  refine wpAny_bind (wpAny_holding ?_)
  refine wpAny_bind ((PySem.strKind P w).pyHash (k := k) (strKind_is P w k tk) ?_)
  refine setT_add (s := { s with toks := s.toks + 1 }) R room fun b h' sb r => ?_
  show wpAny _ _ (ret Value.none) _ _ _
  exact wpAny_pure ⟨_, rfl, done h' sb r⟩
/-- D is the new set -/
def tScT (w : World) (wi : TI) (g : TG) (tt : TT) (te : TE) (vs : List Nat) : TE := fun σ H Q => wi σ H fun J H1 => ∀ D, H1 D = none → ∃ W : Nat → Nat → Hp → Prop, (∃ m, W 0 m (upd H1 D (SetTx w D []))) ∧ ∀ i m H, W i m H →
  (J.stop i H ∧ Q (.ref D) H) ∨ (J.go i H ∧ ∃ On : Hp → Prop, (∀ H', On H' → ∃ m', m' < m ∧ W (i + 1) m' H') ∧ ∀ x H', J.yld i H x H' → g x (wipe σ vs) H' fun σ2 H2 => wipe σ2 vs = wipe σ vs ∧ tt σ2 H2 fun b H3 =>
    if b = true then te σ2 H3 fun y H4 => ∃ ys k, y = .str k ∧ H4 D = some (SetTx w D ys) ∧ ys.length + 1 < scanBound ∧ On (upd H4 D (SetTx w D (ins ys k))) else On H3)
section
variable {X : Cx} {ex tg iter : Expr} {ifs : List Expr} {scope : Scope} {own : List (Str × Nat)} {pos : Pos} {wi : TI} {g : TG} {tt : TT} {te : TE}
theorem pe_scT (calm : X.calm = true) (hN : X.N.Nodup) (hi : PI X tg iter wi) (ok : BlkOk X.N X.env.scope scope own)
    (hg : ∀ (s : Shared) (H : Hp) (C : Addr) (cl : List (Str × Addr)) (fp : List Addr), PG (X.blk s H scope (compEnvC scope cl C X.env) fp) tg g)
    (ht : ∀ (s : Shared) (H : Hp) (C : Addr) (cl : List (Str × Addr)) (fp : List Addr), PTs (X.blk s H scope (compEnvC scope cl C X.env) fp) ifs tt)
    (hk : ∀ (s : Shared) (H : Hp) (C : Addr) (cl : List (Str × Addr)) (fp : List Addr), PE (X.blk s H scope (compEnvC scope cl C X.env) fp) ex te)
    (hs : ∀ x, foldedSetIterable iter X.env x = pure x := by intro _; rfl) :
    PE X (.SetComp ex [⟨tg, iter, ifs, 0⟩] scope pos) (tScT X.w wi g tt te (own.map (·.2))) := by
  refine ⟨fun pl s σ H Q I h => ?_⟩
  rw [PpSet.eval_SetComp]
  have frees : ∀ y ∈ scope.names, y.2 = .free → ∃ c, X.env.cells.lookup y.1 = some c := fun y hy e => by
    rcases ok.free y hy e with k | k
    · exact I.ok.has _ (.inl k)
    · exact I.ok.has _ (.inr k)
  refine wpAny_comprehension_free rfl hs (closure_ok frees) ok.kind (fun y hy e => by rw [ok.uniq y hy, e]) (thn (hi.run pl s σ H _ I h) fun _ sa ha => thn ha fun _ sb hb => ?_)
  obtain ⟨it, fp, tn, J, Hb, rfl, Ib, T, tb, okb, want⟩ := hb
  refine PpSet.newSet_ok (newEnv_comp ?_)
  -- the new set
  generalize eD : sb.heap.objs.size = D
  have freeD : Hb D = none := Ib.hok.fresh (Nat.le_of_eq eD)
  obtain ⟨W, ⟨m0, begins⟩, turn⟩ := want D freeD
  generalize esc : ({ sb with heap := sb.heap.push (L2.newSet X.w) } : Shared) = sc
  have hsc : sc.heap = sb.heap.push (L2.newSet X.w) := by rw [← esc]
  have Ic : Inv X pl σ (upd Hb D (SetTx X.w D [])) sc := by
    rw [← esc]
    refine Ib.laid (t' := sb.toks) (fun b o e => Heap.get?_push_of_some _ e) (Nat.le_of_eq eD) ?_
    rw [← eD]
    exact setTx_new (setT_fresh X.w)
  have old : ∀ b ∈ fp, b < sb.heap.objs.size := fun b hb => by
    obtain ⟨o, e, _⟩ := T.obj _ _ tb b hb
    exact Heap.lt_size e
  have okc : ∀ b ∈ fp, FpOk X pl (upd Hb D (SetTx X.w D [])) b ∧ b < sc.heap.objs.size := fun b hb => by
    have lt := old b hb
    refine ⟨⟨?_, (okb b hb).2⟩, ?_⟩
    · rw [upd_ne (by rw [← eD]; exact Nat.ne_of_lt lt)]
      exact (okb b hb).1
    · rw [hsc, Heap.size_push]
      exact Nat.lt_succ_of_lt lt
  have tc : tn 0 sc.heap := T.keep _ _ _ tb fun b _ o e => by
    rw [hsc]
    exact Heap.get?_push_of_some _ e
  -- the block
  have Id := block_start Ic ok hN okc
  have g1 := hg sc (upd Hb D (SetTx X.w D [])) sc.heap.objs.size (cellsFrom (sc.heap.objs.size + 1) scope.names (cloFrom X.env.cells scope.names [])) fp
  have g2 := ht sc (upd Hb D (SetTx X.w D [])) sc.heap.objs.size (cellsFrom (sc.heap.objs.size + 1) scope.names (cloFrom X.env.cells scope.names [])) fp
  have g3 := hk sc (upd Hb D (SetTx X.w D [])) sc.heap.objs.size (cellsFrom (sc.heap.objs.size + 1) scope.names (cloFrom X.env.cells scope.names [])) fp
  show codeAny _ _ (.compStart (.SetComp ex [⟨tg, iter, ifs, 0⟩] scope pos) 0 (.ref it) (.ref D) (compEnvC scope (cellsFrom (sc.heap.objs.size + 1) scope.names (cloFrom X.env.cells scope.names [])) sc.heap.objs.size X.env)) _
    { sc with heap := pushCells (sc.heap.push { cls := .type "dict", data := .dict #[] }) scope.names }
  have hid : ∀ b ∈ fp, (upd Hb D (SetTx X.w D [])) b = none := fun b hb => (okc b hb).1.1
  generalize eenv : compEnvC scope (cellsFrom (sc.heap.objs.size + 1) scope.names (cloFrom X.env.cells scope.names [])) sc.heap.objs.size X.env = env at Id g1 g2 g3 ⊢
  have eloc : env.locals = sc.heap.objs.size := by subst eenv; rfl
  generalize eHc : upd Hb D (SetTx X.w D []) = Hc at Ic Id g1 g2 g3 begins hid okc
  generalize esd : ({ sc with heap := pushCells (sc.heap.push { cls := .type "dict", data := .dict #[] }) scope.names } : Shared) = sd at Id ⊢
  have td : tn 0 sd.heap := T.keep _ _ _ tc fun b _ o e => by
    rw [← esd]
    exact pushCells_keeps _ _ _ _ (Heap.get?_push_of_some _ e)
  have fpOk : ∀ {σ' : St} {H' : Hp} {s' : Shared}, Inv (X.blk sc Hc scope env fp) [] σ' H' s' → (∀ b ∈ fp, H' b = none) → ∀ b ∈ fp, FpOk (X.blk sc Hc scope env fp) [] H' b := fun {σ' H' s'} I' free b hb => by
    refine ⟨free b hb, (I'.ok.exf b hb).1, I'.ok.exfs b hb, .inl hb, fun x c e => (I'.ok.exf b hb).2 x c e, fun p hp => ?_⟩
    exact absurd (show p ∈ ([] : List (Addr × Obj)) ++ [] from hp) (by simp)
  refine PpSet.codeAny_compStart_set ?lp (T.self X.A 0 _ _ _ td ?lp)
  refine PpSet.compLoopS_any (fun n s' => ∃ i H', Inv (X.blk sc Hc scope env fp) [] (wipe σ (own.map (·.2))) H' s' ∧ tn i s'.heap ∧ (∀ b ∈ fp, H' b = none) ∧ W i n H') ?_ m0 ⟨0, Hc, Id, td, hid, begins⟩
  rintro n se ⟨i, He, Ie, te, free, at_⟩
  rcases turn i n He at_ with ⟨stop, wish⟩ | ⟨goes, On, next, step⟩
  · refine thnF (T.done (X.blk sc Hc scope env fp) rfl rfl rfl calm i [] se _ He (fun _ _ => False) Ie (fpOk Ie free) te stop) fun r sf ⟨hr, If⟩ => ?_
    subst hr
    have back : Inv X pl σ He sf := Ic.call' (ch := fp) If.os If.base If.hok If.bare fun b hb => ⟨(okc b hb).1.2.2.2.1, (okc b hb).1.2.1, (okc b hb).1.2.2.2.2.1, (okc b hb).1.2.2.2.2.2⟩
    have noC : He sc.heap.objs.size = none := by
      have z : He env.locals = none := If.free
      rw [eloc] at z
      exact z
    obtain ⟨m, hn, _⟩ := If.loc
    have hn' : sf.heap.Ns env.locals m := hn
    rw [eloc] at hn'
    obtain ⟨f0, f1, f2, f3, f4, f5⟩ := Ic.fpOk (Nat.le_refl _) noC
    exact ⟨m, hn', fun h'' sb' => ⟨.ref D, He, back.turned (t' := sf.toks) (fun b o hb e => (sb'.2 b hb).trans e) f0 f1 f3 f4 f5, rfl, wish⟩⟩
  · refine thnF (T.item (X.blk sc Hc scope env fp) rfl rfl rfl calm i [] se _ He (fun _ _ => False) Ie (fpOk Ie free) te goes) fun r sf ⟨u, hr, hf⟩ => ?_
    subst hr
    refine thnF hf fun _ sg ⟨x, Hg, Ig, rg, yg, tg', freeg⟩ => ?_
    have pinned := Ig.pinned (fpOk Ig freeg) (T.obj _ _ tg')
    refine thnF (g1.run _ sg _ Hg x u _ pinned rg (step x Hg yg)) fun _ sh ⟨σh, Hh, Ih, wh, qh⟩ => ?_
    refine thnF (g2.run _ sh σh Hh _ Ih qh) fun b si ⟨Hi, Ii, qi⟩ => ?_
    have ends : ∀ {s' : Shared} {H' : Hp}, Inv (X.blk sc Hc scope env fp) ([] ++ pinsAt fp sg.heap) σh H' s' → On H' →
        ∃ m, m < n ∧ ∃ i H', Inv (X.blk sc Hc scope env fp) [] (wipe σ (own.map (·.2))) H' s' ∧ tn i s'.heap ∧ (∀ b ∈ fp, H' b = none) ∧ W i m H' := fun {s' H'} I' on => by
      obtain ⟨m', lt, at'⟩ := next H' on
      have kept : ∀ b ∈ fp, ∀ o, sg.heap.get? b = some o → s'.heap.get? b = some o ∧ H' b = none := fun b hb o e => by
        have z := I'.pin (b, o) (List.mem_append_right _ (List.mem_append_right _ (mem_pinsAt hb e)))
        exact ⟨z.1, z.2.1⟩
      have len : (wipe σ (own.map (·.2))).length = σh.length := by
        rw [← wh, wipe_length]
      refine ⟨m', lt, i + 1, H', (I'.unpinned (pins := [])).weak len (fun j y e => ?_), T.keep _ _ _ tg' fun b hb o e => (kept b hb o e).1, fun b hb => ?_, at'⟩
      · rw [← wh] at e
        exact (wipe_some e).1
      · obtain ⟨o, e, _⟩ := T.obj _ _ tg' b hb
        exact (kept b hb o e).2
    cases b with
    | false =>
      simp only [Bool.false_eq_true, if_false] at qi ⊢
      exact ends Ii qi
    | true =>
      simp only [if_true] at qi ⊢
      refine thnF (g3.run _ si σh Hi _ Ii qi) fun z sj ⟨yk, Hj, Ij, rj, ys, k, ek, eDk, few, on⟩ => ?_
      subst ek
      obtain ⟨tk, rfl⟩ := rj
      have R : SetT X.w sj.heap D ys := (Ij.hok D _ eDk).1
      refine addT R few fun h' sb' new => ends (Ij.write (e := D) (t' := sj.toks + 1) (by rw [eDk]; trivial) (.inl rfl) (fun b u hb hu => (sb'.2 b hb).trans hu) ?_ (setTx_new new)) on
      obtain ⟨o, _, _, _, ho, _⟩ := new
      exact ⟨o, ho⟩
end
section
variable {w : World} {J : It} {G : Hp → Prop} {Y : Nat → Hp → V → Hp → Prop} {g : TG} {tt : TT} {te : TE} {vs : List Nat} {σ : St} {H1 : Hp} {D : Addr} {Qd : Hp → Prop}
/-- {e for x in ..}, xs the texts that e is, one after another -/
theorem scG (xs : List Str) (wk : Walk J xs.length G Y) (hz : xs.length < 4000) (hD : H1 D = none) (hY : ∀ i H x H', Y i H x H' → Same H H') (hG : ∀ H', Same H1 H' → G H')
    (turn : ∀ (i : Nat) (a : Str) (x : V) (H' H'' : Hp) (k : V → Hp → Prop) (k0 : Hp → Prop), xs[i]? = some a → Same H1 H' → Y i H' x H'' → (∀ H4, Same H'' H4 → k (.str a) H4) →
      g x (wipe σ vs) H'' fun σ2 H2 => wipe σ2 vs = wipe σ vs ∧ tt σ2 H2 fun b H3 => if b = true then te σ2 H3 fun y H4 => k y H4 else k0 H3)
    (hd : ∀ H', Same H1 H' → H' D = some (SetTx w D (setFold xs)) → Qd H') :
    ∃ W : Nat → Nat → Hp → Prop, (∃ m, W 0 m (upd H1 D (SetTx w D []))) ∧ ∀ i m H, W i m H →
      (J.stop i H ∧ Qd H) ∨ (J.go i H ∧ ∃ On : Hp → Prop, (∀ H', On H' → ∃ m', m' < m ∧ W (i + 1) m' H') ∧ ∀ x H', J.yld i H x H' → g x (wipe σ vs) H' fun σ2 H2 => wipe σ2 vs = wipe σ vs ∧ tt σ2 H2 fun b H3 =>
        if b = true then te σ2 H3 fun y H4 => ∃ ys k, y = .str k ∧ H4 D = some (SetTx w D ys) ∧ ys.length + 1 < scanBound ∧ On (upd H4 D (SetTx w D (ins ys k))) else On H3) := by
  refine dc_it wk (nx := fun i H' => Same H1 H' ∧ H' D = some (SetTx w D (setFold (xs.take i)))) (body := fun i x H' On => g x (wipe σ vs) H' fun σ2 H2 => wipe σ2 vs = wipe σ vs ∧ tt σ2 H2 fun b H3 =>
        if b = true then te σ2 H3 fun y H4 => ∃ ys k, y = .str k ∧ H4 D = some (SetTx w D ys) ∧ ys.length + 1 < scanBound ∧ On (upd H4 D (SetTx w D (ins ys k))) else On H3)
    ⟨same_new hD, upd_same⟩ (fun i H _ h => hG H h.1) (fun i x H H' hi h hy => ?_) (fun H h => hd H h.1 (by rw [h.2, List.take_length]))
  have ei : xs[i]? = some xs[i] := List.getElem?_eq_getElem hi
  have sy := hY _ _ _ _ hy
  refine turn i xs[i] x H H' (fun y H5 => ∃ ys k, y = .str k ∧ H5 D = some (SetTx w D ys) ∧ ys.length + 1 < scanBound ∧ _) _ ei h.1 hy fun H4 s4 => ⟨_, _, rfl, s4 _ _ (sy _ _ h.2), ?_, fun b o z => ?_, ?_⟩
  · have := setFold_len i (xs.take i) (by rw [List.length_take]; omega)
    unfold scanBound
    omega
  · rw [upd_ne (ne_of_none z hD)]
    exact s4 _ _ (sy _ _ (h.1 b o z))
  · rw [upd_same, List.take_add_one, ei]
    show some (SetTx w D _) = some (SetTx w D (setFold (xs.take i ++ [xs[i]])))
    rw [setFold_snoc]
end
end L2
namespace PySem.SeqAt
open AutoSeq1 (wpAny_loadPart')
open MeetsSeq
theorem str_declines_dict (x : Str) (u : Tok) (a : Addr) (es : Array DictEntry) (n : Nat) (dd : Option Addr) (sl : Array (Option Value)) :
    Meets (Builtin.«str.__eq__» ⟨[.str x u, .ref a], []⟩) (fun _ R s => s.heap.get? a = some { cls := .type "dict", dict := dd, data := .dict es n, slots := sl } ∧ R (.ok (.ret .notImplemented)) s) :=
  .of_wp fun prog w A R s h => by
    obtain ⟨hp, g, d, tk, os⟩ := s
    obtain ⟨ha, h⟩ := h
    wp_walk using wpAny_loadPart' ha, wpAny_load ha
    exact ⟨_, rfl, h⟩
theorem dict_declines_str (x : Str) (u : Tok) (a : Addr) (es : Array DictEntry) (n : Nat) (dd : Option Addr) (sl : Array (Option Value)) :
    Meets (Builtin.«dict.__eq__» ⟨[.ref a, .str x u], []⟩) (fun _ R s => s.heap.get? a = some { cls := .type "dict", dict := dd, data := .dict es n, slots := sl } ∧ R (.ok (.ret .notImplemented)) s) :=
  .of_wp fun prog w A R s h => by
    obtain ⟨hp, g, d, tk, os⟩ := s
    obtain ⟨ha, h⟩ := h
    have f1 := F.sub_str_dict
    wp_walk using wpAny_loadPart' ha, wpAny_load ha
    exact ⟨_, rfl, h⟩
section
variable {A : Around} {s : Shared} {a : Addr} {o : Obj} {es : Array DictEntry} {n : Nat}
theorem rc_str_dict (x : Str) (u : Tok) (ho : s.heap.get? a = some o) (hc : o.cls = .type "dict") (hd : o.data = .dict es n) (hu : A.units < cLine) : RcAt A s (.str x u) (.ref a) false := fun prog w E Q h => by
  obtain ⟨cls, dd, data, sl⟩ := o
  dsimp only at hc hd
  subst hc hd
  refine rc_eq_decline_or (k := false) (typeIs_str s x u) ⟨_, ho, rfl⟩ (by decide) F.sub_dict_str F.slot_str_eq F.slot_dict_eq_refl (fun _ hq => ?_) (fun _ hq => ?_) (fun _ hq => wpAny_of_eq (rfl : isSame (.str x u) (.ref a) = pure false) hq) (.inr hu) h
  · exact call_meets F.slot_str_eq (typeIs_str s x u) F.entry_str_eq (F.args_str_eq_2 _ _) (str_declines_dict x u a es n dd sl) ⟨ho, hq⟩
  · exact call_meets F.slot_dict_eq_refl ⟨_, ho, rfl⟩ F.entry_dict_eq (F.args_dict_eq_2 _ _) (dict_declines_str x u a es n dd sl) ⟨ho, hq⟩
theorem rc_dict_str (x : Str) (u : Tok) (ho : s.heap.get? a = some o) (hc : o.cls = .type "dict") (hd : o.data = .dict es n) (hu : A.units < cLine) : RcAt A s (.ref a) (.str x u) false := fun prog w E Q h => by
  obtain ⟨cls, dd, data, sl⟩ := o
  dsimp only at hc hd
  subst hc hd
  refine rc_eq_decline_or (k := false) ⟨_, ho, rfl⟩ (typeIs_str s x u) (by decide) F.sub_str_dict F.slot_dict_eq F.slot_str_eq_refl (fun _ hq => ?_) (fun _ hq => ?_) (fun _ hq => wpAny_of_eq (rfl : isSame (.ref a) (.str x u) = pure false) hq) (.inr hu) h
  · exact call_meets F.slot_dict_eq ⟨_, ho, rfl⟩ F.entry_dict_eq (F.args_dict_eq_2 _ _) (dict_declines_str x u a es n dd sl) ⟨ho, hq⟩
  · exact call_meets F.slot_str_eq_refl (typeIs_str s x u) F.entry_str_eq (F.args_str_eq_2 _ _) (str_declines_dict x u a es n dd sl) ⟨ho, hq⟩
theorem eq_str_dict (x : Str) (u : Tok) (ho : s.heap.get? a = some o) (hc : o.cls = .type "dict") (hd : o.data = .dict es n) (hu : A.units < cLine) : EqAt A s (.str x u) (.ref a) false := fun prog w E Q h => by
  unfold eqBool
  refine wpAny_holding (wpAny_ite_split (fun z => absurd (eq_of_beq z) nofun) fun _ => ?_)
  exact wpAny_bind (rc_str_dict x u ho hc hd hu prog w E _ (wpAny_truthy_bool h))
end
end PySem.SeqAt
namespace L2
open PySem PySem.Spec PyProof.Rows PySem.GX
/-- the data is this text -/
def isTx (z : Str) : PyData → Bool
  | .str y => decide (y = z)
  | _ => false
section
variable {X : Cx} {pins : List (Addr × Obj)} {σ : St} {H : Hp} {s : Shared}
/-- a text beside any thing -/
theorem sh_eqAt (I : Inv X pins σ H s) {x : V} {d : PyData} {v : Value} (h : Sh X.K H x d) (r : RelV x v) {A : Around} (hu : A.units < cLine) (z : Str) (t : Tok) : SeqAt.EqAt A s (.str z t) v (isTx z d) := by
  cases h with
  | fl f =>
    cases f with
    | non => cases r; exact SeqAt.EqAt.str_none z t
    | bl b => cases r; exact SeqAt.EqAt.str_bool z t b
    | int i => obtain ⟨u, rfl⟩ := r; exact SeqAt.EqAt.str_int z t i u
    | str y =>
      obtain ⟨u, rfl⟩ := r
      have e : isTx z (.str y) = (z == y) := by
        show decide (y = z) = _
        by_cases q : y = z
        · subst q; simp
        · rw [decide_eq_false q]
          exact (beq_eq_false_iff_ne.mpr (Ne.symm q)).symm
      rw [e]
      exact SeqAt.EqAt.str_str z t y u
  | lst hq _ =>
    cases r
    obtain ⟨its, rv, ⟨o, n, ho, hc, _, hd⟩, _⟩ := I.list hq
    exact SeqAt.EqAt.str_list z t ⟨o, ho, hc, n, hd⟩ hu
  | tup hq _ =>
    cases r
    obtain ⟨its, rv, ⟨o, ho, hc, n, hd⟩, _⟩ := I.tuple hq
    exact SeqAt.EqAt.str_tuple z t ⟨o, ho, hc, n, hd⟩ hu
  | dic hq _ _ =>
    cases r
    obtain ⟨_, hsys, vs, rkv, o, es, ep, ho, ⟨hc, _⟩, hd, _⟩ := I.hok _ _ hq
    exact SeqAt.eq_str_dict z t ho hc hd hu
theorem sh_rcAt (I : Inv X pins σ H s) {x : V} {d : PyData} {v : Value} (h : Sh X.K H x d) (r : RelV x v) {A : Around} (hu : A.units < cLine) (z : Str) (t : Tok) : SeqAt.RcAt A s v (.str z t) (isTx z d) := by
  cases h with
  | fl f =>
    cases f with
    | non => cases r; exact SeqAt.RcAt.none_str z t
    | bl b => cases r; exact SeqAt.RcAt.bool_str b z t
    | int i => obtain ⟨u, rfl⟩ := r; exact SeqAt.RcAt.int_str i u z t
    | str y =>
      obtain ⟨u, rfl⟩ := r
      have e : isTx z (.str y) = (y == z) := by
        show decide (y = z) = _
        by_cases q : y = z
        · subst q; simp
        · rw [decide_eq_false q]
          exact (beq_eq_false_iff_ne.mpr q).symm
      rw [e]
      exact SeqAt.RcAt.str_str y u z t
  | lst hq _ =>
    cases r
    obtain ⟨its, rv, ⟨o, n, ho, hc, _, hd⟩, _⟩ := I.list hq
    exact SeqAt.RcAt.list_str z t ⟨o, ho, hc, n, hd⟩ hu
  | tup hq _ =>
    cases r
    obtain ⟨its, rv, ⟨o, ho, hc, n, hd⟩, _⟩ := I.tuple hq
    exact SeqAt.RcAt.tuple_str z t ⟨o, ho, hc, n, hd⟩ hu
  | dic hq _ _ =>
    cases r
    obtain ⟨_, hsys, vs, rkv, o, es, ep, ho, ⟨hc, _⟩, hd, _⟩ := I.hok _ _ hq
    exact SeqAt.rc_dict_str z t ho hc hd hu
end
/-- x not in a list of texts, x anything -/
def rNotInTx (K : PySem.W.Frag) : R2 := fun x y H Q => ∃ (d : PyData) (p : Addr) (ws : List Str), Sh K H x d ∧ y = .ref p ∧ SqL K H p (ws.map V.str) ∧ Q (.bl (!ws.any fun z => isTx z d)) H
theorem op_notInTx {X : Cx} (hu : X.A.units + 1 < cLine) : OpR X (compareOp .NotIn) (rNotInTx X.K) := by
  intro pins s σ H x y v u Q I rx ry ⟨d, p, ws, hd, ey, hp, q⟩
  subst ey
  cases ry
  obtain ⟨its, rv, ⟨o, n, ho, hc, hnn, hdd⟩, hlen⟩ := I.list hp
  have at_ : ∀ y, y ∈ its.toArray → ∃ z t, y = Value.str z t ∧ z ∈ ws := by
    intro y hy
    have hy' : y ∈ its := by simpa using hy
    clear hdd ho hc hp hy q hlen hnn
    generalize hvs : ws.map V.str = vs at rv
    induction rv generalizing ws with
    | nil => cases hy'
    | cons r _ ih =>
      match ws, hvs with
      | w1 :: wt, hvs =>
        injection hvs with e1 e2
        subst e1
        rcases List.mem_cons.mp hy' with m | m
        · obtain ⟨t, e⟩ := r
          exact ⟨w1, t, by rw [m, e], List.mem_cons_self ..⟩
        · obtain ⟨z, t, a1, a2⟩ := ih wt m e2
          exact ⟨z, t, a1, List.mem_cons_of_mem _ a2⟩
  have any_ : (its.toArray.any fun y => match y with | .str z _ => isTx z d | _ => false) = ws.any fun z => isTx z d := by
    rw [List.any_toArray]
    clear at_ hdd ho hc hp q hlen hnn
    generalize hvs : ws.map V.str = vs at rv
    induction rv generalizing ws with
    | nil =>
      match ws, hvs with
      | [], _ => rfl
    | cons r _ ih =>
      match ws, hvs with
      | w1 :: wt, hvs =>
        injection hvs with e1 e2
        subst e1
        obtain ⟨t, e⟩ := r
        subst e
        rw [List.any_cons, List.any_cons, ih wt e2]
  refine SeqAt.notIn_listAt (fun y => match y with | .str z _ => isTx z d | _ => false) ⟨o, ho, hc, n, hdd⟩ (fun y hy => ?_) ?_
  · obtain ⟨z, t, rfl, _⟩ := at_ y hy
    exact sh_eqAt I hd rx (by show X.A.units + 1 < cLine; exact hu) z t
  · rw [any_]
    exact ⟨.bl _, H, I, rfl, q⟩
/-- x == text, x anything -/
def rEqTx (K : PySem.W.Frag) : R2 := fun x y H Q => ∃ (d : PyData) (z : Str), Sh K H x d ∧ y = .str z ∧ Q (.bl (isTx z d)) H
theorem op_eqTx {X : Cx} (hu : X.A.units < cLine) : OpR X (compareOp .Eq) (rEqTx X.K) := by
  intro pins s σ H x y v u Q I rx ry ⟨d, z, hd, ey, q⟩
  subst ey
  obtain ⟨t, rfl⟩ := ry
  exact sh_rcAt I hd rx hu z t _ _ _ _ ⟨.bl _, H, I, rfl, q⟩
/-- repr(x), x a tuple -/
def rReprT (K : PySem.W.Frag) : List V → Hp → VK → Prop := fun xs H Q => ∃ (a : Addr) (ds : List PyData), xs = [.ref a] ∧ Sh K H (.ref a) (.tuple ds) ∧ PyData.showableAll ds = true ∧ (PyData.tuple ds).shown.length ≤ sizeLine ∧ (PyData.tuple ds).depth ≤ 60 ∧
  Q (.str (PyData.tuple ds).shown) H
theorem call_reprT {X : Cx} {K : PySem.W.Frag} (eK : X.K = K) (hg : X.A.guards = some []) (hu : X.A.units + 64 < cLine) : CallR X (.builtin "repr") (rReprT K) := by
  subst eK
  intro pins s σ H xs us Q I r h
  obtain ⟨a, ds, rfl, hsh, hs, hz, hdp, q⟩ := h
  cases r with
  | cons r1 r2 =>
    cases r2
    cases r1
    cases hsh with
    | fl f => cases f
    | @tup _ xs _ hq ha =>
      obtain ⟨its, rv, ⟨o, ho, hc, n, hd⟩, _⟩ := I.tuple hq
      have hz' : (tupleText (PyData.shownAll ds)).length ≤ sizeLine := by simpa only [PyData.shown] using hz
      obtain ⟨⟨as, hr⟩, bs, hb, hk⟩ := Sh.bothAll I ds xs its ha rv hs (fun t ht => Nat.le_trans (tupleText_mem_le ht) hz')
      have rr : Reads s.heap (.ref a) (.tuple ds) _ := Reads.tuple ho hc hd hr
      have hna : a ∉ bs := not_mem_of_deeper rr (by simp only [PyData.depth]; omega) hb
      simp only [PyData.depth] at hdp
      simp only [PyData.shown] at q
      refine call_repr_slot (by omega) ⟨o, ho, hc⟩ F.slot_tuple_repr ?_
      exact call_tuple_reprK ho hc hd hna hk hg (fun b _ => Clear.nil b) (by show X.A.units + 1 + _ < cLine; omega) (fun _ _ e => e) (fun h' u tk k => ⟨_, _, rfl, .str (tupleText (PyData.shownAll ds)), H, I.kept k, ⟨u, rfl⟩, q⟩) hz'
/-- what is compared can be shown -/
theorem Dp.sh {K : PySem.W.Frag} {H : Hp} : ∀ {d : PyData} {v : V}, Dp K H v d → Sh K H v d := by
  intro d v h
  exact Dp.rec (motive_1 := fun v d _ => Sh K H v d) (motive_2 := fun vs ds _ => ShAll K H vs ds) (.fl .non) (fun b => .fl (.bl b)) (fun i => .fl (.int i)) (fun x => .fl (.str x)) (fun h _ i => .lst h i) (fun h _ i => .tup h i) .nil (fun _ _ i j => .cons i j) h
end L2
namespace L2
open PySem PySem.Spec PyProof.Rows PySem.GX PySem.W
/-- a, b, *c, d = a tuple -/
def gStar (K : PySem.W.Frag) (n i : Nat) (t : TGs) : TG := fun v σ H Q => ∃ a xs, v = .ref a ∧ SqT K H a xs ∧ i < n ∧ n ≤ xs.length + 1 ∧ xs.length ≤ 16384 ∧
  ∀ D, H D = none → t (xs.take i ++ [.ref D] ++ (xs.drop i).drop (xs.length + 1 - n)) σ (upd H D (.lst ((xs.drop i).take (xs.length + 1 - n)))) Q
theorem vals_take {vs : List V} {us : List Value} (r : Vals vs us) : ∀ n, Vals (vs.take n) (us.take n) := by
  induction r with
  | nil => intro n; cases n <;> exact .nil
  | cons a t ih =>
    intro n
    cases n with
    | zero => exact .nil
    | succ n => exact .cons a (ih n)
theorem vals_drop {vs : List V} {us : List Value} (r : Vals vs us) : ∀ n, Vals (vs.drop n) (us.drop n) := by
  induction r with
  | nil => intro n; cases n <;> exact .nil
  | cons a t ih =>
    intro n
    cases n with
    | zero => exact .cons a t
    | succ n => exact ih n
theorem pg_star {X : Cx} {es : List Expr} {k : Nat} {t : TGs} {n i : Nat} {pos : Pos} (hc : X.calm = true) (h : PGs X es t)
    (hn : (assignEach es X.env).length = n := by rfl) (hst : (assignEach es X.env).findIdx? (·.1) = some i := by rfl) : PG X (.Tuple es k pos) (gStar X.K n i t) := by
  refine ⟨fun pins s σ H v u Q I r hw => ?_⟩
  obtain ⟨a, xs, e1, hq, hi, hle, hz, hw⟩ := hw
  subst e1
  cases r
  obtain ⟨its, rv, hl, _⟩ := I.tuple hq
  have hh := I.ok.hd hc
  have hs : xs.length = its.length := rv.length
  generalize hit : its.toArray = items at hl
  have hsz : items.size = its.length := by rw [← hit]; simp
  have htl : items.toList = its := by rw [← hit]
  rw [assign_Tuple]
  refine wpAny_bind (wpAny_standAt ?_)
  unfold unpack
  rw [hn, hst]
  refine wpAny_bind (wpAny_holding ?_)
  have hlt : a ≠ s.heap.objs.size := by obtain ⟨o, ho, _⟩ := hl; exact Nat.ne_of_lt (Heap.lt_size ho)
  unfold unpackItems
  refine wpAny_bind ?_
  unfold notIterableAtAll
  refine wpAny_bind (wpAny_specialOf hl.typeIs slot_tuple_iter.lookup ?_)
  refine wpAny_pure ?_
  simp only [Bool.false_eq_true, if_false]
  refine wpAny_bind (wpAny_holding (iter_tuple hl ?_))
  refine wpAny_bind (wpAny_holding (draw_tuple hlt i 0 _ _ ⟨_, Heap.get?_push_size _ rfl, rfl, rfl⟩ (hl.push _) (by omega) fun h₁ hit₁ hs₁ => ?_))
  have hl₁ : IsTup h₁ a items := (hl.push _).extBut hs₁.extBut hlt
  rw [Nat.zero_add] at hit₁
  have hit₁' := hit₁
  obtain ⟨oi, hoi, _⟩ := hit₁'
  have hl₁' := hl₁
  obtain ⟨ol, hol, _⟩ := hl₁'
  rw [List.drop_zero]
  have hfl : (items.toList.take i).length = i := by rw [List.length_take, Array.length_toList]; omega
  rw [if_neg (show ¬ ((items.toList.take i).length < i) by rw [hfl]; omega)]
  refine wpAny_bind (wpAny_holding (kun_collect (s := { s with heap := h₁ }) (T := "tuple_iterator") (.inr (.inr (.inr rfl))) (Walks.tuple (A := X.A.in1) hh s.heap.objs.size a hlt items) (fun j u st => st.1.typeIs) (k := i) (by omega) ⟨hit₁, hl₁⟩ (Heap.lt_size hoi) (Heap.lt_size hol) (fun h₂ tk hk => ?_) (by rw [sizeLine_eq]; omega)))
  have hrl : (items.toList.drop i).length = items.size - i := by rw [List.length_drop, Array.length_toList]
  have hmid : (items.toList.drop i).length - (n - 1 - i) = items.size + 1 - n := by rw [hrl]; omega
  show wpAny _ _ (if (items.toList.drop i).length < n - 1 - i then _ else _) _ _ _
  rw [if_neg (by rw [hrl]; omega)]
  show wpAny _ _ (newList ((items.toList.drop i).take ((items.toList.drop i).length - (n - 1 - i))) >>= fun d => pure (items.toList.take i ++ [d] ++ (items.toList.drop i).drop ((items.toList.drop i).length - (n - 1 - i)))) _ _ _
  rw [hmid, htl, hsz, ← hs]
  have he : ∀ b o, s.heap.get? b = some o → h₂.get? b = some o := fun b o e => by
    have hb : b ≠ s.heap.objs.size := Nat.ne_of_lt (Heap.lt_size e)
    exact hk b o hb (hs₁.extBut b o hb (Heap.get?_push_of_some _ e))
  have I1 : Inv X pins σ H { s with heap := h₂, toks := tk } := I.kept (t' := tk) he
  have hf : H h₂.objs.size = none := I1.hok.fresh (Nat.le_refl _)
  have hlen : ((its.drop i).take (xs.length + 1 - n)).length ≤ sizeLine := by rw [List.length_take, List.length_drop, sizeLine_eq]; omega
  refine wpAny_bind (wpAny_newObj_type (wpAny_pure ?_) ?_)
  · have I2 := I1.laid (a := h₂.objs.size) (o := .lst ((xs.drop i).take (xs.length + 1 - n))) (t' := tk) (h' := h₂.push { cls := .type "list", data := .seq ((its.drop i).take (xs.length + 1 - n)).toArray 0 }) (fun b u e => Heap.get?_push_of_some _ e) (Nat.le_refl _) ⟨by rw [List.length_take, List.length_drop, sizeLine_eq]; omega, _, 0, vals_take (vals_drop rv i) _, Heap.get?_push_size _ rfl⟩
    exact h.run pins _ σ _ _ _ Q I2 (((vals_take rv i).append (.cons (show RelV (.ref h₂.objs.size) (Value.ref h₂.objs.size) from rfl) .nil)).append (vals_drop (vals_drop rv i) _)) (hw _ hf)
  · size_fits
theorem pgs_star {X : Cx} {e : Expr} {p : Pos} {es : List Expr} {t : TG} {u : TGs} (h1 : PG X e t) (h2 : PGs X es u)
    (hs : (assignEach (.Starred e p :: es) X.env).map (·.2) = assign e X.env :: (assignEach es X.env).map (·.2) := by rfl) : PGs X (.Starred e p :: es) (gCons t u) := by
  refine ⟨fun pins s σ H vs us Q I r h => ?_⟩
  obtain ⟨v, vr, e1, h⟩ := h
  subst e1
  cases r with
  | cons r rr =>
    rw [hs]
    refine assignInOrder_cons (thn (h1.run pins s σ H _ _ _ I r h) fun _ s1 ⟨σ1, H1, I1, q1⟩ => ?_)
    exact h2.run pins s1 σ1 H1 _ _ Q I1 rr q1
/-- text * a number -/
theorem mul_len {x : Str} {n : Nat} : (Txt.mul x (n : Int)).length = x.length * n := by
  unfold Txt.mul
  by_cases h1 : (n : Int) < 1
  · have : n = 0 := by omega
    subst this
    rw [if_pos h1]
    rfl
  · rw [if_neg h1]
    by_cases h2 : ((n : Int) == 1 || x.length == 0) = true
    · rw [if_pos h2]
      rcases Bool.or_eq_true_iff.mp h2 with e | e
      · have : n = 1 := by have := beq_iff_eq.mp e; omega
        subst this
        rw [Nat.mul_one]
      · have : x.length = 0 := by simpa using e
        rw [this, Nat.zero_mul]
    · rw [if_neg h2]
      have go : ∀ (m : Nat) (acc : Array Nat), ((List.replicate m x.cps).foldl (· ++ ·) acc).size = acc.size + x.length * m := by
        intro m
        induction m with
        | zero => intro acc; simp
        | succ m ih =>
          intro acc
          rw [List.replicate_succ, List.foldl_cons, ih, Array.size_append, Nat.mul_succ]
          show acc.size + x.length + _ = _
          omega
      show ((List.replicate (n : Int).toNat x.cps).foldl (· ++ ·) #[]).size = _
      rw [go]
      simp
def rMulX : V → V → Hp → VK → Prop := fun x y H Q => ∃ (z : Str) (n : Nat), x = .str z ∧ y = .int (n : Int) ∧ n ≤ 1000 ∧ z.length ≤ 10000 ∧ ∀ r : Str, r = Txt.mul z (n : Int) → r.length = z.length * n → Q (.str r) H
theorem op_mulX {X : Cx} : OpR X (binaryOp .Mult) rMulX := by
  intro pins s σ H x y v u Q I rx ry ⟨z, n, ex, ey, hn, hz, q⟩
  subst ex ey
  obtain ⟨t, rfl⟩ := rx
  obtain ⟨t', rfl⟩ := ry
  have hm : z.length * n ≤ 10000 * 1000 := Nat.mul_le_mul hz hn
  refine SB.mul ⟨?_, fun h _ => ?_, fun _ _ => ?_⟩ fun t' k => ⟨.str (Txt.mul z (n : Int)), H, I.tok _, ⟨t', rfl⟩, q _ rfl mul_len⟩
  · rw [decide_eq_false (by omega), decide_eq_false (by omega)]
    rfl
  · have h1 : 1 ≤ (n : Int) := by omega
    have e : (1000000 : Int) ≤ (2 ^ 63 - 1) / (n : Int) := by
      apply Int.le_ediv_of_mul_le (by omega)
      have : (n : Int) ≤ 1000 := by omega
      omega
    omega
  · show decide (_ > sizeLine) = false
    rw [sizeLine_eq]
    apply decide_eq_false
    show ¬ z.length * (n : Int).toNat > 16777216
    rw [Int.toNat_natCast]
    omega
end L2
namespace My
open PySem PySem.Spec PyProof.Rows L2 PySem.GX L2H LamX
abbrev kinds : List Str := ["last", "ends", "windows", "sets"]
def isK (d : PyData) : Bool := kinds.any fun z => isTx z d
/-- an integer in bounds -/
def inb (d : PyData) (lo hi : Int) : Bool := match d with
  | .int i => decide (lo ≤ i) && decide (i ≤ hi)
  | _ => false
def leastN (k : Str) : Int := if k = "last" then 0 else 1
def isI : PyData → Bool
  | .int _ => true
  | .bool _ => true
  | _ => false
def isB : PyData → Bool
  | .bool _ => true
  | _ => false
def isS : PyData → Bool
  | .str _ => true
  | _ => false
theorem sh_kit {K : PySem.W.Frag} {H : Hp} {v : V} {d : PyData} (h : Sh K H v d) : ∃ ty, TyX K H v ty ∧ PySem.W.kitOne K ty (.type "int") = some (isI d) ∧ PySem.W.kitOne K ty (.type "bool") = some (isB d) ∧ PySem.W.kitOne K ty (.type "str") = some (isS d) := by
  cases h with
  | fl f =>
    cases f with
    | non => exact ⟨_, .base .non, kit_ty (show _ = some false by decide +kernel), kit_ty (show _ = some false by decide +kernel), kit_ty (show _ = some false by decide +kernel)⟩
    | bl b => exact ⟨_, .base (.bl b), kit_ty (show _ = some true by decide +kernel), kit_ty (show _ = some true by decide +kernel), kit_ty (show _ = some false by decide +kernel)⟩
    | int i => exact ⟨_, .base (.int i), kit_ty (show _ = some true by decide +kernel), kit_ty (show _ = some false by decide +kernel), kit_ty (show _ = some false by decide +kernel)⟩
    | str x => exact ⟨_, .base (.str x), kit_ty (show _ = some false by decide +kernel), kit_ty (show _ = some false by decide +kernel), kit_ty (show _ = some true by decide +kernel)⟩
  | lst h t =>
    rcases h with (h | ⟨o, h⟩) | ⟨o, its, n, hk, hc, _⟩
    · exact ⟨_, .base (.lst h), kit_ty (show _ = some false by decide +kernel), kit_ty (show _ = some false by decide +kernel), kit_ty (show _ = some false by decide +kernel)⟩
    · exact ⟨_, .base (.frz h), kit_ty (show _ = some false by decide +kernel), kit_ty (show _ = some false by decide +kernel), kit_ty (show _ = some false by decide +kernel)⟩
    · exact ⟨_, .kList hk hc, kit_ty (show _ = some false by decide +kernel), kit_ty (show _ = some false by decide +kernel), kit_ty (show _ = some false by decide +kernel)⟩
  | tup h t =>
    rcases h with (h | ⟨o, h⟩) | ⟨o, its, n, hk, hc, _⟩
    · exact ⟨_, .base (.tup h), kit_ty (show _ = some false by decide +kernel), kit_ty (show _ = some false by decide +kernel), kit_ty (show _ = some false by decide +kernel)⟩
    · exact ⟨_, .fTuple h, kit_ty (show _ = some false by decide +kernel), kit_ty (show _ = some false by decide +kernel), kit_ty (show _ = some false by decide +kernel)⟩
    · exact ⟨_, .kTuple hk hc, kit_ty (show _ = some false by decide +kernel), kit_ty (show _ = some false by decide +kernel), kit_ty (show _ = some false by decide +kernel)⟩
  | dic h a b => exact ⟨_, .base (.dK h), kit_ty (show _ = some false by decide +kernel), kit_ty (show _ = some false by decide +kernel), kit_ty (show _ = some false by decide +kernel)⟩
theorem sh_int {K : PySem.W.Frag} {H : Hp} {v : V} {i : Int} (h : Sh K H v (.int i)) : v = .int i := by
  cases h with
  | fl f => cases f; rfl
theorem sh_str {K : PySem.W.Frag} {H : Hp} {v : V} {x : Str} (h : Sh K H v (.str x)) : v = .str x := by
  cases h with
  | fl f => cases f; rfl
/-- the promise where nothing is raised -/
theorem FnOk.calm_ {P : Program} {w : World} {K : PySem.W.Frag} {mg : Str → Option Value} {base : Heap} {k : Nat} {f : Addr} {fd : FuncData} {ps : List Str} {sp sp0 : Sp} (F : FnOk P w K mg base (L2N.CX P w) k f fd ps sp) (m : ∀ vs H Q E, sp0 vs H Q E → sp vs H Q E0) : FnOk P w K mg base CX0 k f fd ps sp0 :=
  ⟨fun vs H Q E h => F.len vs H Q E0 (m _ _ _ _ h), fun A outer s H args us vs Q E hr e0 hb r h => codeAny_mono (F.run A outer s H args us vs Q E0 hr e0 hb r (m _ _ _ _ h)) fun r s' hq => by
    cases r with
    | error e =>
      obtain ⟨a, B, H', cls, d, _, _, _, _, _, _, _, hE⟩ := hq
      exact hE.elim
    | ok fl => cases fl <;> exact hq⟩
/-- raises C with v as what is given -/
def Rz (C : Addr) (v : V) (H : Hp) (E : XK) : Prop := ∀ da H', Same H H' → H' da = some (exd da [("given", v)]) → E (.ref C) (some da) H'
theorem Rz.same {C : Addr} {v : V} {H H1 : Hp} {E : XK} (h : Rz C v H E) (s : Same H H1) : Rz C v H1 E := fun da H' s' e => h da H' (s.trans s') e
/-- what is known of a class that is raised -/
structure RzC (P : Program) (w : World) (K : PySem.W.Frag) (mg : Str → Option Value) (base : Heap) (x : Str) (C : Addr) : Prop where
  mk1 : Mk1 P w K mg base x C "given"
  b1 : PySem.W.subIn K (.ref C) (.type "BaseException") = some true
  b2 : PySem.W.typeIn K (.ref C) = some (.type "type")
theorem PE_imp {X : Cx} {e : Expr} {t t' : TE} (h : PE X e t) (m : ∀ σ H Q, t' σ H Q → t σ H Q) : PE X e t' := ⟨fun pins s σ H Q I q => h.run pins s σ H Q I (m σ H Q q)⟩
def isKs (ws : List Str) (d : PyData) : Bool := ws.any fun z => isTx z d
theorem isK_is (d : PyData) : isK d = isKs kinds d := rfl
/-- the def x is there, and keeps the promise; it may raise -/
structure HvX (P : Program) (w : World) (K : PySem.W.Frag) (mg : Str → Option Value) (base : Heap) (k : Nat) (x : Str) (ps : List Str) (sp : Sp) : Prop where
  ex : ∃ (f : Addr) (fd : FuncData), FnOk P w K mg base (L2N.CX P w) k f fd ps sp ∧ Binds K fd ps [] ∧ mg x = some (.ref f) ∧ PySem.W.keepIn K (.ref f) = true
theorem pe_clX {X : Cx} {k : Nat} {x : Str} {ps : List Str} {sp : Sp} {p pos : Pos} {e : Expr} {es : List Expr} {t : TA} {E : XK} (h : HvX X.prog X.w X.K X.mg X.base k x ps sp) (hr : Room k X.A) (hg : Gl X x) (hx : Passes (L2N.CX X.prog X.w) X E) (ha : PA X (e :: es) t)
    (hdb : (x == ("__debug__" : Str)) = false := by decide) (he : starEach (e :: es) X.env = (false, eval e X.env) :: starEach es X.env := by rfl) (hpl : (backTo pos (starEach es X.env)).any (·.1) = false := by rfl) :
    PE X (.Call (.Name x p) (e :: es) [] pos) (tCall sp [] E t) := by
  obtain ⟨f, fd, F, b, g, kp⟩ := h.ex
  exact pe_call F hr hg g kp b .nil hx ha hdb he hpl
/-- the same, called without its last parameters, whose values are dvs -/
structure HvD (P : Program) (w : World) (K : PySem.W.Frag) (mg : Str → Option Value) (base : Heap) (k : Nat) (x : Str) (ps : List Str) (dvs : List V) (sp : Sp) : Prop where
  ex : ∃ (f : Addr) (fd : FuncData) (ds : List Value), FnOk P w K mg base (L2N.CX P w) k f fd ps sp ∧ Vals dvs ds ∧ Binds K fd ps ds ∧ mg x = some (.ref f) ∧ PySem.W.keepIn K (.ref f) = true
theorem pe_clD {X : Cx} {k : Nat} {x : Str} {ps : List Str} {dvs : List V} {sp : Sp} {p pos : Pos} {e : Expr} {es : List Expr} {t : TA} {E : XK} (h : HvD X.prog X.w X.K X.mg X.base k x ps dvs sp) (hr : Room k X.A) (hg : Gl X x) (hx : Passes (L2N.CX X.prog X.w) X E) (ha : PA X (e :: es) t)
    (hdb : (x == ("__debug__" : Str)) = false := by decide) (he : starEach (e :: es) X.env = (false, eval e X.env) :: starEach es X.env := by rfl) (hpl : (backTo pos (starEach es X.env)).any (·.1) = false := by rfl) :
    PE X (.Call (.Name x p) (e :: es) [] pos) (tCall sp dvs E t) := by
  obtain ⟨f, fd, ds, F, v, b, g, kp⟩ := h.ex
  exact pe_call F hr hg g kp b v hx ha hdb he hpl
def spIsK (K : PySem.W.Frag) : Sp := fun vs H Q _ => ∃ (v : V) (d : PyData) (t : Addr) (ws : List Str), vs = [v, .ref t] ∧ Sh K H v d ∧ SqT K H t (ws.map V.str) ∧ Q (.bl (isKs ws d)) H
def spCKs (K : PySem.W.Frag) (C2 : Addr) : Sp := fun vs H Q E => ∃ (v : V) (d : PyData) (t : Addr) (ws : List Str), vs = [v, .ref t] ∧ Sh K H v d ∧ SqT K H t (ws.map V.str) ∧ (isKs ws d = true → Q .non H) ∧ (isKs ws d = false → Rz C2 v H E)
theorem isKs_str (ws : List Str) (x : Str) : inV (.str x) (ws.map V.str) = isKs ws (.str x) := by
  rw [in_strs]
  unfold isKs
  rw [Bool.eq_iff_iff, decide_eq_true_eq, List.any_eq_true]
  exact ⟨fun h => ⟨x, h, decide_eq_true rfl⟩, fun ⟨z, h1, h2⟩ => by rw [show x = z from of_decide_eq_true h2]; exact h1⟩
theorem isKs_no {ws : List Str} {d : PyData} (h : ¬ isS d = true) : isKs ws d = false := by
  have : ∀ z, isTx z d = false := fun z => by
    match d, h with
    | .str _, h => exact absurd rfl h
    | .int i, _ => rfl
    | .bool b, _ => rfl
    | .none, _ => rfl
    | .list _, _ => rfl
    | .tuple _, _ => rfl
    | .dict _, _ => rfl
  unfold isKs
  rw [Bool.eq_false_iff]
  intro z
  obtain ⟨y, _, e⟩ := List.any_eq_true.mp z
  rw [this y] at e
  cases e
end My
namespace My
open PySem PySem.Spec PyProof.Rows L2 PySem.GX L2H LamX
/-- a list beside an empty one -/
def rEqNil (K : PySem.W.Frag) (neg : Bool) : R2 := fun x y H Q => ∃ (a b : Addr) (xs : List V), x = .ref a ∧ y = .ref b ∧ SqL K H a xs ∧ SqL K H b [] ∧ Q (.bl (if neg then !xs.isEmpty else xs.isEmpty)) H
theorem op_eqNil {X : Cx} (hu : X.A.units < cLine) : OpR X (compareOp .Eq) (rEqNil X.K false) := by
  intro pins s σ H x y v u Q I rx ry ⟨a, b, xs, ex, ey, ha, hb, q⟩
  subst ex ey
  cases rx
  cases ry
  obtain ⟨its, rv, ⟨o, n, ho, hc, _, hd⟩, _⟩ := I.list ha
  obtain ⟨its2, rv2, ⟨o2, n2, ho2, hc2, _, hd2⟩, _⟩ := I.list hb
  cases rv2
  cases rv with
  | nil => exact SeqAt.RcAt.lists (e := fun _ => true) ⟨o, ho, hc, n, hd⟩ ⟨o2, ho2, hc2, n2, hd2⟩ rfl hu (fun j h1 _ => absurd h1 (Nat.not_lt_zero j)) _ _ _ _ ⟨.bl _, H, I, rfl, q⟩
  | cons r1 r2 => exact SeqAt.RcAt.lists_lengths ⟨o, ho, hc, n, hd⟩ ⟨o2, ho2, hc2, n2, hd2⟩ (by simp) hu _ _ _ _ ⟨.bl _, H, I, rfl, q⟩
theorem op_neNil {X : Cx} (hu : X.A.units < cLine) : OpR X (compareOp .NotEq) (rEqNil X.K true) := by
  intro pins s σ H x y v u Q I rx ry ⟨a, b, xs, ex, ey, ha, hb, q⟩
  subst ex ey
  cases rx
  cases ry
  obtain ⟨its, rv, ⟨o, n, ho, hc, _, hd⟩, _⟩ := I.list ha
  obtain ⟨its2, rv2, ⟨o2, n2, ho2, hc2, _, hd2⟩, _⟩ := I.list hb
  cases rv2
  cases rv with
  | nil => exact SeqAt.RcNeAt.lists (e := fun _ => true) ⟨o, ho, hc, n, hd⟩ ⟨o2, ho2, hc2, n2, hd2⟩ rfl hu (fun j h1 _ => absurd h1 (Nat.not_lt_zero j)) _ _ _ _ ⟨.bl _, H, I, rfl, q⟩
  | cons r1 r2 => exact SeqAt.RcNeAt.lists_lengths ⟨o, ho, hc, n, hd⟩ ⟨o2, ho2, hc2, n2, hd2⟩ (by simp) hu _ _ _ _ ⟨.bl _, H, I, rfl, q⟩
/-- f(k = e, ..), keywords alone -/
def tCallKw (sp : Sp) (gV : List V → List V → List V) (n : Nat) (E : XK) (tk : TA) : TE := fun σ H Q => tk σ H fun zs H2 => zs.length = n ∧ sp (gV [] zs) H2 Q E
theorem pe_callKw {X : Cx} {CX : CXT} {k : Nat} {f : Addr} {fd : FuncData} {x : Str} {ps ks : List Str} {sp : Sp} {p pos : Pos} {kws : List Keyword} {tk : TA} {E : XK} {g : List Value → List Value → List Value} {gV : List V → List V → List V}
    (F : FnOk X.prog X.w X.K X.mg X.base CX k f fd ps sp) (hr : Room k X.A) (hg : Gl X x) (hm : X.mg x = some (.ref f)) (hk : PySem.W.keepIn X.K (.ref f) = true) (hb : KBn X.K fd ps 0 ks g gV) (hx : Passes CX X E) (hkw : PK X kws tk)
    (hdb : (x == ("__debug__" : Str)) = false := by decide) (hall : (backToKw pos (keywordEach kws X.env)).all (·.1.isSome) = true := by rfl) (hks : (backToKw pos (keywordEach kws X.env)).filterMap (·.1) = ks := by rfl)
    (hpl : ((backTo pos (starEach [] X.env)).any (·.1) || (backToKw pos (keywordEach kws X.env)).any (·.1.isNone)) = false := by rfl) :
    PE X (.Call (.Name x p) [] kws pos) (tCallKw sp gV ks.length E tk) := by
  refine ⟨fun pins s σ H Q I want => wpAny_Call_Name_kw (ld_glob I hg hm ?_ hdb)⟩
  refine PySem.W.callWith_KW0 (first := []) (h₀ := X.base) I.ok.mod.kin hk hall (thn (hkw.run pos pins s σ H _ I want) fun ws s2 ⟨zs, H2, I2, rz, lz, q2⟩ => ⟨I2.kIn, ?_⟩) hpl
  rw [hks]
  exact run_fnN (us := []) (vs := []) (n := 0) (ks := ks) F hr hb hx I2 .nil rz rfl lz q2
theorem if_false_of {c : Bool} {A B : Prop} (hc : c = false) (h : B) : if c = true then A else B := by
  rw [hc, if_neg Bool.false_ne_true]
  exact h
theorem PT_imp {X : Cx} {e : Expr} {t t' : L2.St → Hp → (Bool → Hp → Prop) → Prop} (h : PT X e t) (m : ∀ σ H Q, t' σ H Q → t σ H Q) : PT X e t' := ⟨fun pins s σ H Q I q => h.run pins s σ H Q I (m σ H Q q)⟩
theorem Dp.ext {K : PySem.W.Frag} {H H' : Hp} (s : Same H H') {v : V} {d : PyData} (h : Dp K H v d) : Dp K H' v d := by
  have sl : ∀ {a : Addr} {xs : List V}, SqL K H a xs → SqL K H' a xs := fun h => by
    rcases h with (h | ⟨o, h⟩) | h
    · exact .inl (.inl (s _ _ h))
    · exact .inl (.inr ⟨o, s _ _ h⟩)
    · exact .inr h
  have st : ∀ {a : Addr} {xs : List V}, SqT K H a xs → SqT K H' a xs := fun h => by
    rcases h with (h | ⟨o, h⟩) | h
    · exact .inl (.inl (s _ _ h))
    · exact .inl (.inr ⟨o, s _ _ h⟩)
    · exact .inr h
  exact Dp.rec (motive_1 := fun v d _ => Dp K H' v d) (motive_2 := fun vs ds _ => DpAll K H' vs ds) .non .bl .int .str (fun h _ i => .lst (sl h) i) (fun h _ i => .tup (st h) i) .nil (fun _ _ i j => .cons i j) h
theorem pick_strs {ws : List Str} {j : Nat} {y : V} (h : (ws.map V.str)[j]? = some y) : ∃ z ∈ ws, y = .str z := by
  rw [List.getElem?_map] at h
  cases e : ws[j]? with
  | none => rw [e] at h; cases h
  | some z => rw [e] at h; cases h; exact ⟨z, List.mem_of_getElem? e, rfl⟩
theorem op_notInTxK {X : Cx} {K : PySem.W.Frag} (h : X.K = K) (hu : X.A.units + 1 < cLine) : OpR X (compareOp .NotIn) (rNotInTx K) := by subst h; exact op_notInTx hu
theorem others_nil {x z : Str} : (z.cps.toList.filter fun c => !decide (c ∈ x.cps.toList)) = [] ↔ ∀ c ∈ z.cps.toList, c ∈ x.cps.toList := by
  rw [List.filter_eq_nil_iff]
  exact ⟨fun h c hc => by simpa using h c hc, fun h c hc => by simpa using h c hc⟩
theorem fm_sg (p : Nat → Bool) : ∀ cs : List Nat, (cs.filterMap fun c => if p c = true then some (V.str (sg c)) else none) = ((cs.filter p).map sg).map V.str
  | [] => rfl
  | c :: t => by
    by_cases h : p c = true
    · rw [List.filterMap_cons, if_pos h, List.filter_cons_of_pos h, fm_sg p t]
      rfl
    · rw [List.filterMap_cons, if_neg h, List.filter_cons_of_neg h, fm_sg p t]
theorem PS_imp {X : Cx} {st : Stmt} {t t' : TS} (h : PS X st t) (m : ∀ D σ H, t' D σ H → t D σ H) : PS X st t' := ⟨fun pins s σ H D I q => h.run pins s σ H D I (m D σ H q)⟩
end My
namespace My
open PySem PySem.Spec PyProof.Rows L2
abbrev menuX : List (List Str) := [["a", "b", "z"], ["ab", "by", "az"], ["abc", "bxz", "cde"]]
/-- the goals of these pairs are told, and are words of ws -/
def Cv (kvs : List (List Key × V)) (ws : List Str) (done : List (Str × Nat)) : Prop := kvs.length ≤ done.length ∧ ∀ d ∈ done, ∃ y ∈ ws, valV kvs (kT d.1 d.2) = some (.str y)
theorem Cv.put {kvs : List (List Key × V)} {ws : List Str} {done : List (Str × Nat)} (h : Cv kvs ws done) {t y : Str} {c : Nat} (hy : y ∈ ws) : Cv (putK kvs (kT t c) (.str y)) ws (done ++ [(t, c)]) := by
  refine ⟨?_, fun d hd => ?_⟩
  · have := length_putK kvs (kT t c) (V.str y)
    have := h.1
    rw [List.length_append]
    simp
    omega
  · rw [valV_put]
    by_cases e : kT d.1 d.2 = kT t c
    · rw [if_pos e]
      exact ⟨y, hy, rfl⟩
    · rw [if_neg e]
      rcases List.mem_append.mp hd with m | m
      · exact h.2 d m
      · simp at m
        subst m
        exact absurd rfl e
def doneL (ws : List Str) (x : Str) : List (Str × Nat) := ws.flatMap fun t => x.cps.toList.map fun c => (t, c)
theorem done_take {x : Str} {ws : List Str} {i : Nat} {m : Str} (h : ws[i]? = some m) : doneL (ws.take (i + 1)) x = doneL (ws.take i) x ++ x.cps.toList.map fun c => (m, c) := by
  unfold doneL
  rw [List.take_add_one, h, List.flatMap_append]
  simp
theorem done_len (ws : List Str) (x : Str) : (doneL ws x).length = ws.length * x.length := by
  unfold doneL
  induction ws with
  | nil => simp
  | cons m t ih =>
    rw [List.flatMap_cons, List.length_append, ih, List.length_map, Array.length_toList, List.length_cons, Nat.succ_mul]
    show x.length + _ = _
    omega
def SkAt (H : Hp) (q : Addr) (x : Str) (ws fs : List Str) (kvs : List (List Key × V)) : Prop := ∃ lw lf g, H q = some (.lst [.str x, .ref lw, .ref lf, .ref g]) ∧ H lw = some (.lst (ws.map V.str)) ∧ H lf = some (.lst (fs.map V.str)) ∧ H g = some (.dT kvs)
end My
namespace My
open PySem PySem.Spec PyProof.Rows L2
/-- the goal that the dict tells -/
def lineL (kvs : List (List Key × V)) (t : Str) (c : Nat) : Str := t ++ sp ++ sg c ++ sp ++ gf kvs t c
def headL (x : Str) (ws fs : List Str) : List Str := [("signs " : Str) ++ x, Txt.join sp (("moods" : Str) :: ws), Txt.join sp (("good" : Str) :: fs)]
def bodyL (x : Str) (ws : List Str) (kvs : List (List Key × V)) : List Str := ws.flatMap fun t => x.cps.toList.map fun c => lineL kvs t c
def linesL (x : Str) (ws fs : List Str) (kvs : List (List Key × V)) : List Str := headL x ws fs ++ bodyL x ws kvs
def textL (x : Str) (ws fs : List Str) (kvs : List (List Key × V)) : Str := Txt.join nl (linesL x ws fs kvs)
/-- all words are short -/
structure Short (x : Str) (ws fs : List Str) (kvs : List (List Key × V)) : Prop where
  hx : x.length ≤ 3
  nw : ws.length ≤ 20
  nf : fs.length ≤ 20
  lw : ∀ y ∈ ws, y.length ≤ 8
  lf : ∀ y ∈ fs, y.length ≤ 8
  gl : ∀ t ∈ ws, ∀ c ∈ x.cps.toList, ∃ y : Str, y.length ≤ 8 ∧ valV kvs (kT t c) = some (.str y)
def spText : Sp := fun vs H Q _ => ∃ (q : Addr) (x : Str) (ws fs : List Str) (kvs : List (List Key × V)), vs = [.ref q] ∧ SkAt H q x ws fs kvs ∧ Short x ws fs kvs ∧ ∀ H', Same H H' → Q (.str (textL x ws fs kvs)) H'
theorem sum_le {M : Nat} : ∀ {l : List Str}, (∀ y ∈ l, y.length ≤ M) → (l.map (·.length)).sum ≤ l.length * M
  | [], _ => Nat.zero_le _
  | y :: t, h => by
    have h1 := h y (by simp)
    have h2 := sum_le (l := t) fun z hz => h z (by simp [hz])
    rw [List.map_cons, List.sum_cons, List.length_cons, Nat.succ_mul]
    omega
theorem body_take {x : Str} {ws : List Str} {kvs : List (List Key × V)} {i : Nat} {m : Str} (h : ws[i]? = some m) : bodyL x (ws.take (i + 1)) kvs = bodyL x (ws.take i) kvs ++ x.cps.toList.map fun c => lineL kvs m c := by
  unfold bodyL
  rw [List.take_add_one, h, List.flatMap_append]
  simp
theorem body_len (x : Str) (ws : List Str) (kvs : List (List Key × V)) : (bodyL x ws kvs).length = ws.length * x.length := by
  unfold bodyL
  induction ws with
  | nil => simp
  | cons m t ih =>
    rw [List.flatMap_cons, List.length_append, ih, List.length_map, Array.length_toList, List.length_cons, Nat.succ_mul]
    show x.length + _ = _
    omega
theorem join_len (ps : List Str) : (Txt.join sp ps).length ≤ (ps.map (·.length)).sum + ps.length := by
  rw [TL.join_eq]
  cases ps with
  | nil => exact Nat.zero_le _
  | cons a l =>
    rw [len_join_cons, List.length_cons]
    have : (sp : Str).length = 1 := rfl
    rw [this]
    omega
theorem lines_short {x : Str} {ws fs : List Str} {kvs : List (List Key × V)} (h : Short x ws fs kvs) : (linesL x ws fs kvs).length ≤ 63 ∧ ∀ y ∈ linesL x ws fs kvs, y.length ≤ 200 := by
  have z := h.hx
  have z1 := h.nw
  have z2 := h.nf
  refine ⟨?_, fun y hy => ?_⟩
  · unfold linesL
    rw [List.length_append, body_len]
    have : ws.length * x.length ≤ 20 * 3 := Nat.mul_le_mul z1 z
    show 3 + _ ≤ 63
    omega
  · unfold linesL at hy
    rcases List.mem_append.mp hy with m | m
    · unfold headL at m
      simp only [List.mem_cons, List.not_mem_nil, or_false] at m
      rcases m with rfl | rfl | rfl
      · rw [len_app]
        have : ("signs " : Str).length = 6 := by decide +kernel
        omega
      · have a := join_len (("moods" : Str) :: ws)
        have b := sum_le h.lw
        have c : ("moods" : Str).length = 5 := by decide +kernel
        rw [List.map_cons, List.sum_cons, List.length_cons, c] at a
        omega
      · have a := join_len (("good" : Str) :: fs)
        have b := sum_le h.lf
        have c : ("good" : Str).length = 4 := by decide +kernel
        rw [List.map_cons, List.sum_cons, List.length_cons, c] at a
        omega
    · unfold bodyL at m
      obtain ⟨t, ht, m⟩ := List.mem_flatMap.mp m
      obtain ⟨c, hc, rfl⟩ := List.mem_map.mp m
      obtain ⟨g, lg, eg⟩ := h.gl t ht c hc
      unfold lineL
      rw [gf_is eg, len_app, len_app, len_app, len_app]
      have := h.lw t ht
      have e1 : (sp : Str).length = 1 := rfl
      have e2 : (sg c).length = 1 := rfl
      omega
end My
namespace My
open PySem PySem.Spec PyProof.Rows L2
/-- letters alone -/
def Ltr (y : Str) : Prop := ∀ c ∈ y.cps.toList, 97 ≤ c
theorem ltr_only {y : Str} (h : madeL y abc = true) : Ltr y := fun c hc => by
  unfold madeL at h
  rw [List.all_map, List.all_eq_true] at h
  have := h c hc
  have m : c ∈ abc.cps.toList := by simpa using this
  have all : ∀ d ∈ abc.cps.toList, 97 ≤ d := by decide +kernel
  exact all c m
theorem ltr_word {y : Str} (h : isWordL y = true) : Ltr y := ltr_only (Bool.and_eq_true_iff.mp h).2
theorem ltr_signs {x : Str} (h : areSignsL [x] = true) : Ltr x := by
  rw [areS1] at h
  simp only [Bool.and_eq_true] at h
  exact ltr_only h.1.2
theorem ltr_sg {x : Str} (h : Ltr x) {c : Nat} (hc : c ∈ x.cps.toList) : Ltr (sg c) := fun d hd => by
  have : d = c := by simpa using hd
  rw [this]
  exact h c hc
theorem join_from (y : Str) : ∀ (ps : List Str) (c : Nat), c ∈ (Str.join y ps).cps.toList → c ∈ y.cps.toList ∨ ∃ p ∈ ps, c ∈ p.cps.toList
  | [], _, h => by cases h
  | [x], _, h => .inr ⟨x, by simp, h⟩
  | x :: z :: r, c, h => by
    have h' : c ∈ (x ++ y ++ Str.join y (z :: r)).cps.toList := h
    rw [cps_app, cps_app] at h'
    simp only [List.mem_append] at h'
    rcases h' with (h' | h') | h'
    · exact .inr ⟨x, by simp, h'⟩
    · exact .inl h'
    · rcases join_from y (z :: r) c h' with h' | ⟨p, hp, h'⟩
      · exact .inl h'
      · exact .inr ⟨p, by simp [hp], h'⟩
/-- a line of words, split -/
theorem split_line {ps : List Str} (hne : ps ≠ []) (h : ∀ p ∈ ps, Ltr p) : Txt.split (Txt.join sp ps) sp = ps := by
  refine TL.split_join (s := 32) (S := []) rfl (by decide +kernel) hne fun p hp => ?_
  intro m
  have := h p hp 32 m
  omega
theorem line_no {ps : List Str} (h : ∀ p ∈ ps, Ltr p) : (10 : Nat) ∉ (Txt.join sp ps).cps.toList := fun m => by
  rw [TL.join_eq] at m
  rcases join_from sp ps 10 m with m | ⟨p, hp, m⟩
  · simp at m
  · have := h p hp 10 m
    omega
theorem join2 (a b : Str) : Txt.join sp [a, b] = a ++ sp ++ b := by rw [TL.join_eq]; rfl
theorem str_app_assoc (a b c : Str) : a ++ b ++ c = a ++ (b ++ c) := str_ext (by rw [cps_app, cps_app, cps_app, cps_app, List.append_assoc])
theorem join3 (a b c : Str) : Txt.join sp [a, b, c] = a ++ sp ++ b ++ sp ++ c := by
  rw [TL.join_eq]
  show a ++ sp ++ (b ++ sp ++ c) = _
  rw [str_app_assoc b sp c, str_app_assoc (a ++ sp ++ b) sp c, str_app_assoc (a ++ sp) b (sp ++ c)]
/-- the rows of goals of a drawn rule -/
def rsL (x : Str) (ws : List Str) (kvs : List (List Key × V)) : List (List Str) := ws.flatMap fun t => x.cps.toList.map fun c => [t, sg c, gf kvs t c]
structure Fine (x : Str) (ws fs : List Str) (kvs : List (List Key × V)) : Prop where
  sgs : areSignsL [x] = true
  mds : areMoodsL ws = true
  sub : fs.Sublist ws
  gl : ∀ t ∈ ws, ∀ c ∈ x.cps.toList, ∃ y ∈ ws, valV kvs (kT t c) = some (.str y)
theorem moods_word {ws : List Str} (h : areMoodsL ws = true) : ∀ y ∈ ws, isWordL y = true := by
  unfold areMoodsL at h
  simp only [Bool.and_eq_true] at h
  exact List.all_eq_true.mp h.1.2
theorem moods_nd {ws : List Str} (h : areMoodsL ws = true) : ws.Nodup := by
  unfold areMoodsL at h
  simp only [Bool.and_eq_true] at h
  exact of_decide_eq_true h.2
theorem sub_filter : ∀ {ws fs : List Str}, ws.Nodup → fs.Sublist ws → ws.filter (fun m => decide (m ∈ fs)) = fs
  | [], fs, _, h => by
    have := List.sublist_nil.mp h
    subst this
    rfl
  | y :: t, fs, nd, h => by
    have nd' := List.nodup_cons.mp nd
    cases h with
    | cons _ h =>
      have hy : y ∉ fs := fun m => nd'.1 (h.subset m)
      rw [List.filter_cons, if_neg (by simpa using hy)]
      exact sub_filter nd'.2 h
    | cons_cons _ h =>
      rename_i gs
      rw [List.filter_cons, if_pos (by simp)]
      congr 1
      have e : t.filter (fun m => decide (m ∈ y :: gs)) = t.filter (fun m => decide (m ∈ gs)) := by
        apply List.filter_congr
        intro z hz
        have : z ≠ y := fun e => nd'.1 (e ▸ hz)
        simp [this]
      rw [e]
      exact sub_filter nd'.2 h
theorem fine_rows {x : Str} {ws fs : List Str} {kvs : List (List Key × V)} (h : Fine x ws fs kvs) : rowsL (textL x ws fs kvs) = [(("signs" : Str)), x] :: (("moods" : Str) :: ws) :: (("good" : Str) :: fs) :: rsL x ws kvs := by
  have lx := ltr_signs h.sgs
  have lw : ∀ y ∈ ws, Ltr y := fun y hy => ltr_word (moods_word h.mds y hy)
  have lf : ∀ y ∈ fs, Ltr y := fun y hy => lw y (h.sub.subset hy)
  have lg : ∀ t ∈ ws, ∀ c ∈ x.cps.toList, Ltr (gf kvs t c) := fun t ht c hc => by
    obtain ⟨y, hy, e⟩ := h.gl t ht c hc
    rw [gf_is e]
    exact lw y hy
  have l1 : Ltr ("signs" : Str) := ltr_only (by decide +kernel)
  have l2 : Ltr ("moods" : Str) := ltr_only (by decide +kernel)
  have l3 : Ltr ("good" : Str) := ltr_only (by decide +kernel)
  let pss : List (List Str) := [("signs" : Str), x] :: (("moods" : Str) :: ws) :: (("good" : Str) :: fs) :: rsL x ws kvs
  have e : linesL x ws fs kvs = pss.map (Txt.join sp) := by
    show headL x ws fs ++ bodyL x ws kvs = Txt.join sp [("signs" : Str), x] :: Txt.join sp (("moods" : Str) :: ws) :: Txt.join sp (("good" : Str) :: fs) :: (rsL x ws kvs).map (Txt.join sp)
    have e1 : Txt.join sp [("signs" : Str), x] = ("signs " : Str) ++ x := by
      rw [join2]
      rfl
    have e2 : (rsL x ws kvs).map (Txt.join sp) = bodyL x ws kvs := by
      unfold rsL bodyL
      rw [List.map_flatMap]
      congr 1
      funext t
      rw [List.map_map]
      exact List.map_congr_left fun c _ => join3 t (sg c) (gf kvs t c)
    rw [e1, e2]
    rfl
  have all : ∀ ps ∈ pss, ps ≠ [] ∧ ∀ p ∈ ps, Ltr p := by
    intro ps hps
    have hps' : ps = [("signs" : Str), x] ∨ ps = ("moods" : Str) :: ws ∨ ps = ("good" : Str) :: fs ∨ ps ∈ rsL x ws kvs := by simpa [pss] using hps
    rcases hps' with rfl | rfl | rfl | hm
    · exact ⟨by simp, fun p hp => by
        rcases List.mem_cons.mp hp with rfl | hp
        · exact l1
        · have : p = x := by simpa using hp
          rw [this]; exact lx⟩
    · exact ⟨by simp, fun p hp => by
        rcases List.mem_cons.mp hp with rfl | hp
        · exact l2
        · exact lw p hp⟩
    · exact ⟨by simp, fun p hp => by
        rcases List.mem_cons.mp hp with rfl | hp
        · exact l3
        · exact lf p hp⟩
    · unfold rsL at hm
      obtain ⟨t, ht, hm⟩ := List.mem_flatMap.mp hm
      obtain ⟨c, hc, rfl⟩ := List.mem_map.mp hm
      refine ⟨by simp, fun p hp => ?_⟩
      have : p = t ∨ p = sg c ∨ p = gf kvs t c := by simpa using hp
      rcases this with rfl | rfl | rfl
      · exact lw _ ht
      · exact ltr_sg lx hc
      · exact lg t ht c hc
  unfold rowsL textL
  rw [TL.split_join (s := 10) (S := []) rfl (by decide +kernel) (by rw [e]; simp [pss]) (fun p hp m => by
    rw [e] at hp
    obtain ⟨ps, hps, rfl⟩ := List.mem_map.mp hp
    exact line_no (all ps hps).2 m), e, List.map_map]
  have : pss.map ((fun y => Txt.split y sp) ∘ Txt.join sp) = pss.map id := by
    apply List.map_congr_left
    intro ps hps
    exact split_line (all ps hps).1 (all ps hps).2
  rw [this, List.map_id]
theorem fine_goals {x : Str} {ws fs : List Str} {kvs : List (List Key × V)} (h : Fine x ws fs kvs) : goalsOkL x ws (rsL x ws kvs) = true := by
  unfold goalsOkL
  rw [Bool.and_eq_true_iff]
  refine ⟨decide_eq_true ?_, List.all_eq_true.mpr fun r hr => ?_⟩
  · unfold rsL pairsL
    rw [List.map_flatMap]
    congr 1
    funext t
    rw [List.map_map]
    rfl
  · unfold rsL at hr
    obtain ⟨t, ht, hr⟩ := List.mem_flatMap.mp hr
    obtain ⟨c, hc, rfl⟩ := List.mem_map.mp hr
    obtain ⟨y, hy, e⟩ := h.gl t ht c hc
    unfold rowOkL
    rw [Bool.and_eq_true_iff]
    refine ⟨rfl, decide_eq_true ?_⟩
    show gf kvs t c ∈ ws
    rw [gf_is e]
    exact hy
/-- the text of a drawn rule is read as what it was drawn -/
theorem fine_parse {x : Str} {ws fs : List Str} {kvs : List (List Key × V)} (h : Fine x ws fs kvs) : parseL (textL x ws fs kvs) = some ⟨x, ws, fs, rsL x ws kvs⟩ := by
  unfold parseL
  rw [fine_rows h, parts_is, if_pos]
  · rfl
  · refine ⟨h.sgs, h.mds, ?_, fine_goals h⟩
    unfold areGoodL
    exact decide_eq_true (sub_filter (moods_nd h.mds) h.sub).symm
theorem dOf_const {α κ : Type} [DecidableEq κ] {key : α → κ} {val : α → V} {k : κ} {v : V} : ∀ (xs : List α), (∀ a ∈ xs, key a = k → val a = v) → (∃ a ∈ xs, key a = k) → valV (dOf key val xs) k = some v := by
  suffices h : ∀ (n : Nat) (xs : List α), xs.length = n → (∀ a ∈ xs, key a = k → val a = v) → (∃ a ∈ xs, key a = k) → valV (dOf key val xs) k = some v from fun xs => h _ xs rfl
  intro n
  induction n with
  | zero =>
    intro xs h _ ⟨a, ha, _⟩
    have : xs = [] := List.eq_nil_of_length_eq_zero h
    subst this
    cases ha
  | succ n ih =>
    intro xs h h1 h2
    have hne : xs ≠ [] := by intro z; subst z; cases h
    obtain ⟨ys, a, rfl⟩ : ∃ ys a, xs = ys ++ [a] := ⟨xs.dropLast, xs.getLast hne, (List.dropLast_concat_getLast hne).symm⟩
    have hl : ys.length = n := by rw [List.length_append] at h; simpa using h
    rw [dOf_snoc, valV_put]
    by_cases e : k = key a
    · rw [if_pos e, h1 a (by simp) e.symm]
    · rw [if_neg e]
      refine ih ys hl (fun b hb => h1 b (by simp [hb])) ?_
      obtain ⟨b, hb, eb⟩ := h2
      rcases List.mem_append.mp hb with m | m
      · exact ⟨b, m, eb⟩
      · have : b = a := by simpa using m
        exact absurd (this ▸ eb.symm) e
/-- the goals that are read are those that were drawn -/
theorem fine_val {x : Str} {ws fs : List Str} {kvs : List (List Key × V)} (h : Fine x ws fs kvs) {t : Str} (ht : t ∈ ws) {c : Nat} (hc : c ∈ x.cps.toList) : valV (goalsD (rsL x ws kvs)) (kT t c) = some (.str (gf kvs t c)) := by
  unfold goalsD
  refine dOf_const _ (fun r hr e => ?_) ⟨[t, sg c, gf kvs t c], ?_, rfl⟩
  · unfold rsL at hr
    obtain ⟨t', ht', hr⟩ := List.mem_flatMap.mp hr
    obtain ⟨c', hc', rfl⟩ := List.mem_map.mp hr
    have e' : [(Sum.inr t' : Key), Sum.inr (sg c')] = [Sum.inr t, Sum.inr (sg c)] := e
    injection e' with e1 e2
    injection e2 with e2 _
    have e1' : t' = t := Sum.inr.inj e1
    have e2' : c' = c := sg_inj (Sum.inr.inj e2)
    subst e1' e2'
    rfl
  · unfold rsL
    exact List.mem_flatMap.mpr ⟨t, ht, List.mem_map.mpr ⟨c, hc, rfl⟩⟩
/-- a sketch is fine -/
theorem Fine.short {x : Str} {ws fs : List Str} {kvs : List (List Key × V)} (h : Fine x ws fs kvs) (hn : ws.length ≤ 20) : Short x ws fs kvs := by
  have w8 : ∀ y ∈ ws, y.length ≤ 8 := fun y hy => by
    have := moods_word h.mds y hy
    unfold isWordL at this
    simp only [Bool.and_eq_true] at this
    exact of_decide_eq_true this.1.2
  refine ⟨?_, hn, Nat.le_trans h.sub.length_le hn, w8, fun y hy => w8 y (h.sub.subset hy), fun t ht c hc => ?_⟩
  · have := h.sgs
    rw [areS1] at this
    simp only [Bool.and_eq_true] at this
    exact of_decide_eq_true this.1.1.2
  · obtain ⟨y, hy, e⟩ := h.gl t ht c hc
    exact ⟨y, w8 y hy, e⟩
theorem text_small {x : Str} {ws fs : List Str} {kvs : List (List Key × V)} (h : Short x ws fs kvs) : (textL x ws fs kvs).length ≤ 1000000 := by
  unfold textL
  rw [TL.join_eq]
  have hs := lines_short h
  have b := sum_le hs.2
  have e : (linesL x ws fs kvs).length * 200 ≤ 63 * 200 := Nat.mul_le_mul_right _ hs.1
  cases hl : linesL x ws fs kvs with
  | nil => exact Nat.zero_le _
  | cons a l =>
    rw [hl] at b e hs
    rw [len_join_cons]
    have : (nl : Str).length = 1 := rfl
    rw [this]
    have := hs.1
    rw [List.length_cons] at this
    omega
theorem low_only {y : Str} (h : madeL y abc = true) : ∀ c ∈ y.cps.toList, c < 256 := fun c hc => by
  unfold madeL at h
  rw [List.all_map, List.all_eq_true] at h
  have := h c hc
  have m : c ∈ abc.cps.toList := by simpa using this
  have all : ∀ d ∈ abc.cps.toList, d < 256 := by decide +kernel
  exact all c m
theorem text_low {x : Str} {ws fs : List Str} {kvs : List (List Key × V)} (h : Fine x ws fs kvs) : ∀ c ∈ (textL x ws fs kvs).cps.toList, c < 256 := by
  have wl : ∀ y ∈ ws, ∀ c ∈ y.cps.toList, c < 256 := fun y hy => low_only (Bool.and_eq_true_iff.mp (moods_word h.mds y hy)).2
  have xl : ∀ c ∈ x.cps.toList, c < 256 := by
    have := h.sgs
    rw [areS1] at this
    simp only [Bool.and_eq_true] at this
    exact low_only this.1.2
  intro c hc
  unfold textL at hc
  rw [TL.join_eq] at hc
  rcases join_from nl _ c hc with m | ⟨p, hp, m⟩
  · have : c = 10 := by simpa using m
    omega
  · unfold linesL at hp
    rcases List.mem_append.mp hp with hp | hp
    · unfold headL at hp
      simp only [List.mem_cons, List.not_mem_nil, or_false] at hp
      rcases hp with rfl | rfl | rfl
      · rw [cps_app, List.mem_append] at m
        rcases m with m | m
        · have : ∀ d ∈ ("signs " : Str).cps.toList, d < 256 := by decide +kernel
          exact this c m
        · exact xl c m
      · rw [TL.join_eq] at m
        rcases join_from sp _ c m with m | ⟨p, hp, m⟩
        · have : c = 32 := by simpa using m
          omega
        · rcases List.mem_cons.mp hp with rfl | hp
          · have : ∀ d ∈ ("moods" : Str).cps.toList, d < 256 := by decide +kernel
            exact this c m
          · exact wl p hp c m
      · rw [TL.join_eq] at m
        rcases join_from sp _ c m with m | ⟨p, hp, m⟩
        · have : c = 32 := by simpa using m
          omega
        · rcases List.mem_cons.mp hp with rfl | hp
          · have : ∀ d ∈ ("good" : Str).cps.toList, d < 256 := by decide +kernel
            exact this c m
          · exact wl p (h.sub.subset hp) c m
    · unfold bodyL at hp
      obtain ⟨t, ht, hp⟩ := List.mem_flatMap.mp hp
      obtain ⟨d, hd, rfl⟩ := List.mem_map.mp hp
      obtain ⟨y, hy, e⟩ := h.gl t ht d hd
      unfold lineL at m
      rw [gf_is e, cps_app, cps_app, cps_app, cps_app] at m
      simp only [List.mem_append] at m
      rcases m with (((m | m) | m) | m) | m
      · exact wl t ht c m
      · have : c = 32 := by simpa using m
        omega
      · have : c = d := by simpa using m
        rw [this]; exact xl d hd
      · have : c = 32 := by simpa using m
        omega
      · exact wl y hy c m
theorem text_ok {x : Str} {ws fs : List Str} {kvs : List (List Key × V)} (h : Fine x ws fs kvs) : PyData.strOk (textL x ws fs kvs) = true := ok_low (text_low h)
end My
namespace My
open PySem PySem.Spec PyProof.Rows L2 PySem.GX L2H LamX
def spLetters : Sp := fun vs H Q _ => ∃ (p : Addr) (n : Nat), vs = [.ref p, .int (n : Int)] ∧ Wl H p ∧ 1 ≤ n ∧ n ≤ 3 ∧ ∀ (x : Str) (H' : Hp), areSignsL [x] = true → x.length = n → Sb p H H' → Wl H' p → Q (.str x) H'
/-- places in the alphabet, ascending -/
def Asc (m : Nat) (ns : List Nat) : Prop := ns.Pairwise (· < ·) ∧ ∀ n ∈ ns, n < m
theorem Asc.snoc {m k : Nat} {ns : List Nat} (h : Asc m ns) (h1 : m ≤ k + 1) (h2 : ∀ n ∈ ns, n < k) : Asc (k + 1) (ns ++ [k]) := by
  refine ⟨?_, fun n hn => ?_⟩
  · rw [List.pairwise_append]
    exact ⟨h.1, by simp, fun a ha b hb => by rw [List.mem_singleton.mp hb]; exact h2 a ha⟩
  · rcases List.mem_append.mp hn with m | m
    · have := h2 n m; omega
    · rw [List.mem_singleton.mp m]; omega
theorem abc_at : ∀ n, n < 26 → abc.cps.toList[n]? = some (97 + n) := by decide +kernel
theorem letters_ok {ns : List Nat} (h : Asc 26 ns) (l1 : 1 ≤ ns.length) (l3 : ns.length ≤ 3) : areSignsL [Txt.join Str.empty (ns.map fun n => sg (97 + n))] = true ∧ (Txt.join Str.empty (ns.map fun n => sg (97 + n))).length = ns.length := by
  have e : (Txt.join Str.empty (ns.map fun n => sg (97 + n))).cps.toList = ns.map (97 + ·) := by
    rw [TL.join_eq]
    have := join_signs (ns.map (97 + ·))
    rw [List.map_map] at this
    exact this
  have el : (Txt.join Str.empty (ns.map fun n => sg (97 + n))).length = ns.length := by
    show (Txt.join Str.empty (ns.map fun n => sg (97 + n))).cps.size = _
    rw [← Array.length_toList, e, List.length_map]
  refine ⟨?_, el⟩
  rw [areS1, el, decide_eq_true l1, decide_eq_true l3, Bool.true_and, Bool.true_and, Bool.and_eq_true_iff]
  constructor
  · unfold madeL
    rw [e, List.all_map, List.all_eq_true]
    intro c hc
    obtain ⟨n, hn, rfl⟩ := List.mem_map.mp hc
    exact decide_eq_true (List.mem_of_getElem? (abc_at n (h.2 n hn)))
  · rw [e]
    refine decide_eq_true (List.pairwise_map.mpr (h.1.imp fun hab => ?_))
    omega
section
variable {P : Program} {w : World} {K : PySem.W.Frag} {mg : Str → Option Value} {base : Heap}
abbrev nLet : List Str := ["_law_purse_here", "_law_size", "_law_abc", "_law_found", "_law_k", "_law_low", "_law_at"]
theorem scLet : FnScope nLet ["_law_purse_here", "_law_size"] (defScope sLetters) := ⟨rfl, rfl, rfl, by decide +kernel, rfl, by decide +kernel, by decide +kernel⟩
def natsI (ns : List Nat) : List V := ns.map fun n : Nat => V.int (n : Int)
def tLow : TE := fun σ H Q => ∃ (l : Addr) (ns : List Nat), σ[3]? = some (some (.ref l)) ∧ H l = some (.lst (natsI ns)) ∧ ∀ (n : Nat) (H' : Hp), Same H H' → (ns = [] → n = 0) → (∀ ms a, ns = ms ++ [a] → n = a + 1) → Q (.int (n : Int)) H'
theorem ok_letters {f : Addr} {fd : FuncData} (F : Fun K "_law_letters" "_law_letters" sLetters f fd) (hP : Hv P w K mg base 1 "_law_pick" ["_law_purse_here", "_law_size"] spPk) (hR : mg "range" = none) : FnOk P w K mg base CX0 2 f fd ["_law_purse_here", "_law_size"] spLetters := by
  refine F.ok scLet (fun vs H Q E h => ?_) (fun cdv A outer s H vs Q E hr h => ?_)
  · obtain ⟨p, n, rfl, _⟩ := h
    rfl
  · obtain ⟨p, n, rfl, hW, n1, n3, k⟩ := h
    have hu := hu_of hr
    have hu0 : (A.deeper (envOfC "_law_letters" (defScope sLetters) s.heap.objs.size f cdv)).units < cLine := by omega
    refine ⟨_, pss_cons (ps_asg (pe_tup (pa_cons pe_str (pa_cons (pe_lst pa_nil) pa_nil))) (pg_tup rfl (pgs_cons (pg_name (i := 2) scLet.nd rfl (Or.inr rfl)) (pgs_cons (pg_name (i := 3) scLet.nd rfl (Or.inl rfl)) pgs_nil))))
      (pss_cons (ps_for PassesOwn.never rfl (pi_range1 rfl hR (pa_cons (pv 1) pa_nil)) (pg_name (i := 4) scLet.nd rfl (Or.inl rfl))
        (pss_cons (ps_set (i := 5) scLet.nd rfl (Or.inl rfl) (PE_imp (t' := tLow) (pe_ifExp (pt_cmpR (op_eqNil hu0) (pv 3) (pe_lst pa_nil) (nomark _)) pe_int (pe_op op_add (pe_ix ix_list (pv 3) (pe_un un_neg pe_int) (fun _ _ => rfl)) pe_int)) ?iLow))
        (pss_one (ps_expr (pe_bm PySem.F.plainAttrs_list PySem.F.slot_list_append PySem.F.type_list_append mt_append (pv 3) (pa_cons (pe_op op_add (pv 5) (pe_cl hP hr rfl pass0 (pa_cons (pv 0) (pa_cons (pe_op op_sub (pe_op op_add (pe_op op_sub pe_int (pv 1)) (pv 4)) (pv 5)) pa_nil)))) pa_nil))))))
      (pss_one (ps_ret (pe_join pe_str (pe_lc (own := [("_law_at", 6)]) (g := gName 6) (tt := tYes) rfl scLet.nd (pi_list (pv 3)) (blkOk_by (N := nLet) (sc := defScope sLetters) (by decide +kernel))
        (fun _ _ _ _ _ => pg_name (i := 6) scLet.nd rfl (Or.inl rfl)) (fun _ _ _ _ _ => pts_nil) (fun _ _ _ _ _ => pe_ix ix_str (pv 2) (pv 6) (fun _ _ => rfl))))))), ?_⟩
    case iLow =>
      rintro σ H Q ⟨l, ns, e3, el, q⟩
      refine ⟨_, e3, by show 0 ≤ sizeLine; decide, fun l0 h0 => ⟨l, l0, _, rfl, rfl, SqL.of (keep1 el h0), SqL.of upd_same, _, rfl, ?_⟩⟩
      rcases List.eq_nil_or_concat ns with rfl | ⟨ms, a, rfl⟩
      · exact iteT (q 0 _ (same_new h0) (fun _ => rfl) (fun ms a e => by simp at e))
      · have e1 : natsI (ms ++ [a]) = natsI ms ++ [V.int (a : Int)] := by unfold natsI; rw [List.map_append]; rfl
        have e2 : (natsI (ms.concat a)).isEmpty = false := by
          rw [List.concat_eq_append, e1]
          simp
        show if (natsI (ms.concat a)).isEmpty = true then _ else _
        rw [e2]
        refine iteF ⟨_, e3, 1, rfl, l, _, _, V.int (a : Int), rfl, rfl, SqL.of (keep1 el h0), ?_, _, _, rfl, rfl, ?_⟩
        · rw [List.concat_eq_append, e1]
          exact atI_last _ _
        · have := q (a + 1) _ (same_new (o := .lst []) h0) (fun e => by simp at e) (fun ms' a' e => by
            rw [List.concat_eq_append] at e
            have := List.append_inj_right' e rfl
            simp at this
            omega)
          rw [show (((a + 1 : Nat)) : Int) = (a : Int) + 1 by omega] at this
          exact this
    refine ⟨by show 0 ≤ sizeLine; decide, fun l hl => ⟨by show 2 ≤ sizeLine; decide, fun t ht => ?_⟩⟩
    refine ⟨t, _, rfl, SqT.of upd_same, rfl, _, _, rfl, _, _, rfl, rfl, ?_⟩
    have nl : l ≠ p := hW.new hl
    have s1 : Same H (upd (upd H l (.lst [])) t (.tup [.str abc, .ref l])) := (same_new hl).trans (same_new ht)
    have el : upd (upd H l (.lst [])) t (.tup [.str abc, .ref l]) l = some (.lst (natsI [])) := keep1 upd_same ht
    have hW1 := hW.same s1
    generalize upd (upd H l (.lst [])) t (.tup [.str abc, .ref l]) = H1 at s1 el hW1 ⊢
    refine ⟨_, rfl, (n : Int), rfl, by omega, by omega, for_range (n := n) (fun i σ H' => (∃ v4 v5, σ = [some (.ref p), some (.int (n : Int)), some (.str abc), some (.ref l), v4, v5, none]) ∧ Wl H' p ∧ (∀ b o, b ≠ p → b ≠ l → H1 b = some o → H' b = some o) ∧ ∃ ns : List Nat, ns.length = i ∧ Asc (26 - n + i) ns ∧ H' l = some (.lst (natsI ns)))
      ⟨⟨_, _, rfl⟩, hW1, fun _ _ _ _ e => e, [], rfl, ⟨List.Pairwise.nil, fun m hm => by cases hm⟩, el⟩ (fun i σ H2 hi h => ?_) (fun σ H2 h => ?_)⟩
    · obtain ⟨⟨v4, v5, rfl⟩, hW2, st, ns, ln, asc, e2⟩ := h
      refine ⟨l, ns, rfl, e2, fun lo H3 s3 c1 c2 => ?_⟩
      have hlo : lo ≤ 26 - n + i ∧ ∀ m ∈ ns, m < lo := by
        rcases List.eq_nil_or_concat ns with rfl | ⟨ms, a, rfl⟩
        · rw [c1 rfl]
          exact ⟨Nat.zero_le _, fun m hm => by cases hm⟩
        · rw [List.concat_eq_append] at asc c2 ⊢
          rw [c2 ms a rfl]
          have := asc.2 a (by simp)
          refine ⟨by omega, fun m hm => ?_⟩
          rcases List.mem_append.mp hm with h | h
          · have := (List.pairwise_append.mp asc.1).2.2 m h a (by simp)
            omega
          · rw [List.mem_singleton.mp h]; omega
      refine ⟨_, rfl, .inl ⟨rfl, _, SqL.of (s3 _ _ e2)⟩, _, rfl, _, rfl, _, rfl, _, _, rfl, rfl, _, rfl, _, _, rfl, rfl, _, rfl, _, _, rfl, rfl, p, _, rfl, hW2.same s3, by omega, by omega, fun d H4 d0 d1 sb4 hW4 => ?_⟩
      obtain ⟨m, rfl⟩ := Int.eq_ofNat_of_zero_le d0
      have hm : lo + m < 26 - n + i + 1 := by omega
      refine ⟨_, _, rfl, rfl, l, _, _, rfl, rfl, sb4 _ _ nl (s3 _ _ e2), by unfold natsI; rw [List.length_map, ln, sizeLine_eq]; omega, ?_⟩
      refine ⟨⟨_, _, rfl⟩, hW4.upd_ nl, fun b o n1 n2 e => ?_, ns ++ [lo + m], by rw [List.length_append, ln]; rfl, ?_, ?_⟩
      · rw [upd_ne n2]
        exact sb4 _ _ n1 (s3 _ _ (st b o n1 n2 e))
      · refine ⟨?_, fun z hz => ?_⟩
        · rw [List.pairwise_append]
          exact ⟨asc.1, by simp, fun a ha b hb => by rw [List.mem_singleton.mp hb]; have := hlo.2 a ha; omega⟩
        · rcases List.mem_append.mp hz with h | h
          · have := asc.2 z h; omega
          · rw [List.mem_singleton.mp h]; omega
      · rw [upd_same]
        unfold natsI
        rw [List.map_append]
        show some (HO.lst (_ ++ [V.int ((lo : Int) + (m : Int))])) = some (HO.lst (_ ++ [V.int ((lo + m : Nat) : Int)]))
        rw [show (((lo + m : Nat)) : Int) = (lo : Int) + (m : Int) by omega]
    · obtain ⟨⟨v4, v5, rfl⟩, hW2, st, ns, ln, asc, e2⟩ := h
      have asc' : Asc 26 ns := ⟨asc.1, fun m hm => by have := asc.2 m hm; omega⟩
      refine ⟨⟨_, rfl⟩, _, rfl, l, rfl, ⟨_, SqL.of e2⟩, fun D hD => ?_⟩
      have zs : abc.length ≤ sizeLine := by decide +kernel
      refine lcG ns (fun n => some (V.str (sg (97 + n)))) (walk_listL (K := K) (a := l) ns fun n : Nat => V.int (n : Int)) (by omega) hD (yat_same _) (fun H' s' => SqL.of (s' _ _ e2)) (fun i m y H' H'' k1 hm sj hy k2 => ?_) (fun H6 s6 e6 => ?_)
      · obtain ⟨rfl, hy⟩ := hy
        have ey := map_get hm hy
        subst ey
        exact ⟨rfl, _, rfl, _, rfl, abc, _, 97 + m, rfl, rfl, zs, atI_nat (abc_at m (asc'.2 m (List.mem_of_getElem? hm))), k2 _ (Same.refl _)⟩
      · have e6' : H6 D = some (.lst ((ns.map fun n => sg (97 + n)).map V.str)) := by
          rw [e6, List.filterMap_eq_map', List.map_map]
          rfl
        obtain ⟨g1, g2⟩ := letters_ok asc' (by omega) (by omega)
        refine ⟨_, D, _, rfl, rfl, .inl (SqL.of e6'), ?_, ?_⟩
        · have : ((ns.map fun n => sg (97 + n)).map (·.length)).sum = ns.length := by
            clear e6' e6 g1 g2 asc asc' e2 ln
            induction ns with
            | nil => rfl
            | cons a t ih => rw [List.map_cons, List.map_cons, List.sum_cons, ih, List.length_cons]; show 1 + _ = _; omega
          rw [this, List.length_map]
          have e0 : (Str.ofString "").length = 0 := rfl
          rw [e0]
          omega
        · refine k _ _ g1 (by rw [show Str.ofString "" = Str.empty from rfl]; rw [g2, ln]) (fun b o n1 e => ?_) (hW2.same s6)
          have e1 := s1 _ _ e
          exact s6 _ _ (st b o n1 (ne_of_none e hl) e1)
end
end My
namespace My
open PySem PySem.Spec PyProof.Rows L2 PySem.GX L2H LamX
/-- how many moods a way has -/
def WayOk (way size count : Nat) : Prop := (way = 1 → size = count) ∧ (way = 2 → size = count + 2) ∧ (way = 3 → size = 4) ∧ (way = 4 → count = 2 ∧ size = 5) ∧ 1 ≤ size ∧ size ≤ 5 ∧ 1 ≤ count ∧ count ≤ 3
def spAim : Sp := fun vs H Q _ => ∃ (p : Addr) (way size count spot step : Nat), vs = [.ref p, .int (way : Int), .int (size : Int), .int (count : Int), .int (spot : Int), .int (step : Int)] ∧ Wl H p ∧ WayOk way size count ∧ spot < size ∧ step < count ∧
  ∀ (i : Nat) (H' : Hp), i < size → Sb p H H' → Wl H' p → Q (.int (i : Int)) H'
def tBad : TE := fun σ H Q => ∃ (p : Addr) (spot : Nat), σ[0]? = some (some (.ref p)) ∧ σ[4]? = some (some (.int (spot : Int))) ∧ Wl H p ∧ ∀ (b : Bool) (H' : Hp), Sb p H H' → Wl H' p → Q (.bl b) H'
section
variable {P : Program} {w : World} {K : PySem.W.Frag} {mg : Str → Option Value} {base : Heap}
abbrev nAim : List Str := ["_law_purse_here", "_law_way", "_law_size", "_law_count", "_law_spot", "_law_step", "_law_bad"]
theorem scAim : FnScope nAim ["_law_purse_here", "_law_way", "_law_size", "_law_count", "_law_spot", "_law_step"] (defScope sAim) := ⟨rfl, rfl, rfl, by decide +kernel, rfl, by decide +kernel, by decide +kernel⟩
theorem dec_int {a b : Nat} (h : decide (V.int (a : Int) = V.int (b : Int)) = true) : a = b := by
  have := of_decide_eq_true h
  injection this with e
  omega
theorem ok_aim {f : Addr} {fd : FuncData} (F : Fun K "_law_aim" "_law_aim" sAim f fd) (hP : Hv P w K mg base 1 "_law_pick" ["_law_purse_here", "_law_size"] spPk) (hI : mg "int" = none) : FnOk P w K mg base CX0 2 f fd ["_law_purse_here", "_law_way", "_law_size", "_law_count", "_law_spot", "_law_step"] spAim := by
  refine F.ok scAim (fun vs H Q E h => ?_) (fun cdv A outer s H vs Q E hr h => ?_)
  · obtain ⟨p, way, size, count, spot, step, rfl, _⟩ := h
    rfl
  · obtain ⟨p, way, size, count, spot, step, rfl, hW, ⟨w1, w2, w3, w4, z1, z5, c1, c3⟩, hs, ht, k⟩ := h
    refine ⟨_, pss_cons (ps_if (pt_cmpR op_eq (pv 1) pe_int (nomark _)) (pss_one (ps_ret (pv 5))) pss_nil)
      (pss_cons (ps_if (pt_cmpR op_eq (pv 1) pe_int (nomark _))
        (pss_cons (ps_if (pt_cmpR op_eq (pv 4) (pe_op op_sub (pv 2) pe_int) (nomark _)) (pss_one (ps_ret (pv 4))) pss_nil)
        (pss_cons (ps_set (i := 6) scAim.nd rfl (Or.inl rfl) (PE_imp (t' := tBad) (pe_and (pe_cmpR op_gt (pv 4) pe_int (nomark _)) (pe_one (pe_cmpR op_eq (pe_cl hP hr rfl pass0 (pa_cons (pv 0) (pa_cons pe_int pa_nil))) pe_int (nomark _)))) ?iBad))
        (pss_one (ps_ret (pe_ifExp (pt_val (pv 6)) (pe_op op_sub (pv 2) pe_int) (pe_op op_add pe_int (pv 5))))))) pss_nil)
      (pss_cons (ps_if (pt_cmpR op_eq (pv 1) pe_int (nomark _)) (pss_one (ps_ret (pe_op op_mod (pe_callTy call_int1 (by rfl) hI (by decide +kernel) (pa_cons (pe_op op_add (pe_op op_mul (pv 4) (pv 3)) (pv 5)) pa_nil)) (pv 2)))) pss_nil)
      (pss_cons (ps_if (pt_cmpR op_eq (pv 1) pe_int (nomark _)) (pss_one (ps_ret (pe_ifExp (pt_cmpR op_eq (pv 4) pe_int (nomark _)) (pe_op op_add pe_int (pe_op op_mul pe_int (pv 5))) (pe_op op_add (pe_op op_add pe_int (pe_op op_mul (pe_op op_fdiv (pe_op op_sub (pv 4) pe_int) pe_int) pe_int)) (pv 5))))) pss_nil)
      (pss_one (ps_ret (pe_cl hP hr rfl pass0 (pa_cons (pv 0) (pa_cons (pv 2) pa_nil)))))))), ?_⟩
    case iBad =>
      rintro σ H Q ⟨p, spot, e0, e4, hW, q⟩
      refine ⟨_, e4, _, _, rfl, rfl, _, rfl, ite2 (fun c => ?_) (fun c => ?_)⟩
      · exact ⟨_, e0, p, 3, rfl, hW, by decide, by decide, fun d H' d0 d1 sb hW' => ⟨rfl, q _ _ sb hW'⟩⟩
      · exact q false H (Sb.refl _ _) hW
    have kk : ∀ (z : Int) (i : Nat) (H' : Hp), z = (i : Int) → i < size → Sb p H H' → Wl H' p → Q (.int z) H' := fun z i H' e hi sb hw => by rw [e]; exact k i H' hi sb hw
    refine ⟨_, rfl, rfl, _, rfl, ite2 (fun c => ?_) (fun c => ?_)⟩
    · have e := w1 (dec_int (b := 1) c)
      exact ⟨_, rfl, k step H (by omega) (Sb.refl _ _) hW⟩
    refine ⟨_, rfl, rfl, _, rfl, ite2 (fun c => ?_) (fun c => ?_)⟩
    · have e := w2 (dec_int (b := 2) c)
      refine ⟨_, rfl, _, rfl, _, _, rfl, rfl, rfl, _, rfl, ite2 (fun c => ?_) (fun c => ?_)⟩
      · exact ⟨_, rfl, k spot H hs (Sb.refl _ _) hW⟩
      · refine ⟨p, spot, rfl, rfl, hW, fun b H1 sb1 hW1 => ⟨_, rfl, _, rfl, ite2 (fun _ => ?_) (fun _ => ?_)⟩⟩
        · exact ⟨_, rfl, _, _, rfl, rfl, kk _ (size - 1) H1 (by omega) (by omega) sb1 hW1⟩
        · exact ⟨_, rfl, _, _, rfl, rfl, kk _ (1 + step) H1 (by omega) (by omega) sb1 hW1⟩
    refine ⟨_, rfl, rfl, _, rfl, ite2 (fun c => ?_) (fun c => ?_)⟩
    · have e := w3 (dec_int (b := 3) c)
      refine ⟨_, rfl, _, rfl, _, _, rfl, rfl, .inl ⟨by show -(2 ^ 64 : Int) < (spot : Int); omega, by show (spot : Int) < 2 ^ 64; omega⟩, _, rfl, _, _, rfl, rfl, .inl ⟨_, rfl, _, rfl, _, _, rfl, rfl, (by show (0 : Int) < (size : Int); omega), ?_⟩⟩
      refine kk _ ((spot * count + step) % size) H ?_ (Nat.mod_lt _ (by omega)) (Sb.refl _ _) hW
      rw [Int.natCast_emod, Int.natCast_add, Int.natCast_mul]
    refine ⟨_, rfl, rfl, _, rfl, ite2 (fun c => ?_) (fun c => ?_)⟩
    · obtain ⟨e1, e2⟩ := w4 (dec_int (b := 4) c)
      refine ⟨_, rfl, rfl, _, rfl, ite2 (fun c => ?_) (fun c => ?_)⟩
      · exact ⟨_, rfl, _, _, rfl, rfl, .inl ⟨by decide, by decide⟩, _, _, rfl, rfl, kk _ (1 + 3 * step) H (by omega) (by omega) (Sb.refl _ _) hW⟩
      · have hs0 : spot ≠ 0 := fun z => c (decide_eq_true (by rw [z]; rfl))
        refine ⟨_, rfl, _, _, rfl, rfl, _, _, rfl, rfl, ⟨by decide, by decide⟩, _, _, rfl, rfl, .inr ⟨by decide, by decide⟩, _, _, rfl, rfl, _, rfl, _, _, rfl, rfl, ?_⟩
        refine kk _ (1 + (spot - 1) / 2 * 2 + step) H ?_ (by omega) (Sb.refl _ _) hW
        omega
    exact ⟨_, rfl, _, rfl, p, _, rfl, hW, by omega, by omega, fun d H1 d0 d1 sb hW1 => by
      obtain ⟨m, rfl⟩ := Int.eq_ofNat_of_zero_le d0
      exact k m H1 (by omega) sb hW1⟩
end
end My
namespace My
open PySem PySem.Spec PyProof.Rows L2 PySem.GX L2H LamX
abbrev stock : List Str := ["p", "pq", "q", "good", "maa", "signs", "ppq", "mab", "moods", "qqqqqqqq"]
def tagsL (f st n : Nat) : List Str := (List.range n).map fun k => stock.getD ((f + st * k) % 10) Str.empty
theorem tags_len (f st n : Nat) : (tagsL f st n).length = n := by unfold tagsL; rw [List.length_map, List.length_range]
theorem tags_ok : ∀ f, f < 10 → ∀ st ∈ [1, 3, 7, 9], ∀ n, n < 6 → 1 ≤ n → areMoodsL (tagsL f st n) = true := by decide +kernel
theorem filt_map (z : Str) : ∀ fs : List Str, (fs.filterMap fun t => if t = z then none else some (V.str t)) = (fs.filter fun t => !decide (t = z)).map V.str
  | [] => rfl
  | t :: r => by
    rw [List.filterMap_cons]
    by_cases htz : t = z
    · rw [if_pos htz, List.filter_cons_of_neg (by simp [htz])]
      exact filt_map z r
    · rw [if_neg htz, List.filter_cons_of_pos (by simp [htz]), List.map_cons, ← filt_map z r]
/-- a box stands at q -/
def BxAt (H : Hp) (q : Addr) (x : Str) (ws fs : List Str) (kvs : List (List Key × V)) : Prop := ∃ lw lf g, H q = some (.tup [.str x, .ref lw, .ref lf, .ref g]) ∧ H lw = some (.lst (ws.map V.str)) ∧ H lf = some (.lst (fs.map V.str)) ∧ H g = some (.dT kvs)
/-- its lists and its dict are new -/
def BxNw (H H' : Hp) (q : Addr) : Prop := ∀ s lw lf g, H' q = some (.tup [s, .ref lw, .ref lf, .ref g]) → H lw = none ∧ H lf = none ∧ H g = none
def spBox : Sp := fun vs H Q _ => ∃ (p : Addr) (x : Str), vs = [.ref p, .str x] ∧ Wl H p ∧ areSignsL [x] = true ∧ ∀ (q : Addr) (ws fs : List Str) (kvs : List (List Key × V)) (H' : Hp), Fine x ws fs kvs → ws.length ≤ 5 → kvs.length ≤ 15 → Sb p H H' → Wl H' p → BxAt H' q x ws fs kvs → BxNw H H' q → Q (.ref q) H'
section
variable {P : Program} {w : World} {K : PySem.W.Frag} {mg : Str → Option Value} {base : Heap}
abbrev nBox : List Str := ["_law_purse_here", "_law_letters_here", "_law_count", "_law_way", "_law_size", "_law_stock", "_law_first", "_law_step", "_law_tags", "_law_goals", "_law_spot", "_law_at", "_law_fine", "_law_k", "_law_tag"]
theorem scBox : FnScope nBox ["_law_purse_here", "_law_letters_here"] (defScope sBox) := ⟨rfl, rfl, rfl, by decide +kernel, rfl, by decide +kernel, by decide +kernel⟩
def tWay : TS := fun D σ H => ∃ (a0 a1 : Option V) (count way : Nat), σ = [a0, a1, some (.int (count : Int)), some (.int (way : Int)), none, none, none, none, none, none, none, none, none, none, none] ∧ way < 6 ∧
  ∀ w' : Nat, w' < 6 → (w' = 4 → count = 2) → D.nx [a0, a1, some (.int (count : Int)), some (.int (w' : Int)), none, none, none, none, none, none, none, none, none, none, none] H
def tSub : TS := fun D σ H => ∃ (lf lt : Addr) (ws fs : List Str) (way : Nat) (v0 v1 v2 v4 v5 v6 v7 v9 v10 v11 : Option V), σ = [v0, v1, v2, some (.int (way : Int)), v4, v5, v6, v7, some (.ref lt), v9, v10, v11, some (.ref lf), none, none] ∧ H lf = some (.lst (fs.map V.str)) ∧ H lt = some (.lst (ws.map V.str)) ∧ ws ≠ [] ∧ fs.length ≤ 1000 ∧
  ∀ (lf' : Addr) (fs' : List Str) (H' : Hp), fs'.Sublist fs → (lf' = lf ∨ H lf' = none) → Same H H' → H' lf' = some (.lst (fs'.map V.str)) → D.nx [v0, v1, v2, some (.int (way : Int)), v4, v5, v6, v7, some (.ref lt), v9, v10, v11, some (.ref lf'), none, none] H'
theorem ok_box {f : Addr} {fd : FuncData} (F : Fun K "_law_box" "_law_box" sBox f fd) (hP : Hv P w K mg base 1 "_law_pick" ["_law_purse_here", "_law_size"] spPk) (hA : Hv P w K mg base 2 "_law_aim" ["_law_purse_here", "_law_way", "_law_size", "_law_count", "_law_spot", "_law_step"] spAim) (hI : mg "int" = none) (hL : mg "len" = none) (hR : mg "range" = none) : FnOk P w K mg base CX0 3 f fd ["_law_purse_here", "_law_letters_here"] spBox := by
  refine F.ok scBox (fun vs H Q E h => ?_) (fun cdv A outer s H vs Q E hr h => ?_)
  · obtain ⟨p, x, rfl, _⟩ := h
    rfl
  · obtain ⟨p, x, rfl, hW, hx, k⟩ := h
    have hu := hu_of hr
    have hr1 : Room 1 (A.deeper (envOfC "_law_box" (defScope sBox) s.heap.objs.size f cdv)) := hr.mono (by decide)
    refine ⟨_, pss_cons (ps_par (i := 2) (j := 3) rfl scBox.nd rfl rfl (by decide) rfl rfl (pa_cons (pe_callB call_len_str (by rfl) hL PySem.boot_len (pa_cons (pv 1) pa_nil)) (pa_cons (pe_cl hP hr1 rfl pass0 (pa_cons (pv 0) (pa_cons pe_int pa_nil))) pa_nil)) rfl)
      (pss_cons (PS_imp (t' := tWay) (ps_if (PW.pt (pw_and (pt_cmpR op_eq (pv 3) pe_int (nomark _)) (pw_and1 (pt_cmpR op_ne (pv 2) pe_int (nomark _))))) (pss_one (ps_set (i := 3) scBox.nd rfl (Or.inl rfl) pe_int)) pss_nil) ?iWay)
      (pss_cons (ps_set (i := 4) scBox.nd rfl (Or.inl rfl) (pe_op op_add pe_int (pe_cl hP hr1 rfl pass0 (pa_cons (pv 0) (pa_cons pe_int pa_nil)))))
      (pss_cons (ps_set (i := 4) scBox.nd rfl (Or.inl rfl) (pe_ix ix_list (pe_lst (pa_cons (pv 4) (pa_cons (pv 2) (pa_cons (pe_op op_add (pv 2) pe_int) (pa_cons pe_int (pa_cons pe_int (pa_cons pe_int pa_nil))))))) (pv 3) (fun _ _ => rfl)))
      (pss_cons (ps_set (i := 5) scBox.nd rfl (Or.inr rfl) (pe_lst (pa_cons pe_str (pa_cons pe_str (pa_cons pe_str (pa_cons pe_str (pa_cons pe_str (pa_cons pe_str (pa_cons pe_str (pa_cons pe_str (pa_cons pe_str (pa_cons pe_str pa_nil))))))))))))
      (pss_cons (ps_asg (pe_tup (pa_cons (pe_cl hP hr1 rfl pass0 (pa_cons (pv 0) (pa_cons pe_int pa_nil))) (pa_cons (pe_ix ix_list (pe_lst (pa_cons pe_int (pa_cons pe_int (pa_cons pe_int (pa_cons pe_int pa_nil))))) (pe_cl hP hr1 rfl pass0 (pa_cons (pv 0) (pa_cons pe_int pa_nil))) (fun _ _ => rfl)) pa_nil)))
          (pg_tup rfl (pgs_cons (pg_name (i := 6) scBox.nd rfl (Or.inr rfl)) (pgs_cons (pg_name (i := 7) scBox.nd rfl (Or.inr rfl)) pgs_nil))))
      (pss_cons (ps_asg (pe_tup (pa_cons (pe_lc (own := [("_law_k", 13)]) (g := gName 13) (tt := tYes) rfl scBox.nd (pi_range1 rfl hR (pa_cons (pv 4) pa_nil)) (blkOk_by (N := nBox) (sc := defScope sBox) (by decide +kernel)) (fun _ _ _ _ _ => pg_name (i := 13) scBox.nd rfl (Or.inl rfl)) (fun _ _ _ _ _ => pts_nil)
            (fun _ _ _ _ _ => pe_ix (ix_listK (K := K) rfl) (pv 5) (pe_op op_mod (pe_callTy call_int1 (by rfl) hI (by decide +kernel) (pa_cons (pe_op op_add (pv 6) (pe_op op_mul (pv 7) (pv 13))) pa_nil)) pe_int) (fun _ _ => rfl))) (pa_cons pe_dnewT pa_nil)))
          (pg_tup rfl (pgs_cons (pg_name (i := 8) scBox.nd rfl (Or.inr rfl)) (pgs_cons (pg_name (i := 9) scBox.nd rfl (Or.inl rfl)) pgs_nil))))
      (pss_cons (ps_for PassesOwn.never rfl (pi_range1 rfl hR (pa_cons (pv 4) pa_nil)) (pg_name (i := 10) scBox.nd rfl (Or.inl rfl)) (pss_one (ps_for PassesOwn.never rfl (pi_range1 rfl hR (pa_cons (pv 2) pa_nil)) (pg_name (i := 11) scBox.nd rfl (Or.inl rfl))
          (pss_one (ps_dput hu (pv 9) (pe_tup (pa_cons (pe_ix ix_list (pv 8) (pv 10) (fun _ _ => rfl)) (pa_cons (pe_ix ix_str (pv 1) (pv 11) (fun _ _ => rfl)) pa_nil))) (pe_ix ix_list (pv 8) (pe_cl hA hr rfl pass0 (pa_cons (pv 0) (pa_cons (pv 3) (pa_cons (pv 4) (pa_cons (pv 2) (pa_cons (pv 10) (pa_cons (pv 11) pa_nil))))))) (fun _ _ => rfl)) rfl)))))
      (pss_cons (ps_setLc (i := 12) (own := [("_law_tag", 14)]) (g := gName 14) (by rfl) scBox.nd rfl rfl (sw_true rfl rfl rfl (by decide +kernel)) (pi_list (pv 8)) (blkOk_by (N := nBox) (sc := defScope sBox) (by decide +kernel)) (fun _ _ _ _ _ => pg_name (i := 14) scBox.nd rfl (Or.inl rfl))
            (fun _ _ _ _ _ => pts_one (pt_cmpR op_eq (pe_cl hP hr1 rfl pass0 (pa_cons (pv 0) (pa_cons pe_int pa_nil))) pe_int (nomark _))) (fun _ _ _ _ _ => pv 14))
      (pss_cons (PS_imp (t' := tSub) (ps_if (pt_cmpR op_eq (pv 3) pe_int (nomark _)) (pss_one (ps_setLc (i := 12) (own := [("_law_tag", 14)]) (g := gName 14) (by rfl) scBox.nd rfl rfl (sw_true rfl rfl rfl (by decide +kernel)) (pi_list (pv 12)) (blkOk_by (N := nBox) (sc := defScope sBox) (by decide +kernel)) (fun _ _ _ _ _ => pg_name (i := 14) scBox.nd rfl (Or.inl rfl))
            (fun _ _ _ _ _ => pts_one (pt_cmpR op_ne (pv 14) (pe_ix (ix_listK (K := K) rfl) (pv 8) (pe_un un_neg pe_int) (fun _ _ => rfl)) (nomark _))) (fun _ _ _ _ _ => pv 14))) pss_nil) ?iSub)
      (pss_one (ps_ret (pe_tup (pa_cons (pv 1) (pa_cons (pv 8) (pa_cons (pv 12) (pa_cons (pv 9) pa_nil)))))))))))))))), ?_⟩
    case iWay =>
      rintro D σ H ⟨a0, a1, count, way, rfl, hw, q⟩
      refine ⟨_, rfl, rfl, _, rfl, ite2 (fun c => ?_) (fun c => iteF (q way hw fun e => absurd (by rw [e]; exact decide_eq_true rfl) c))⟩
      refine ⟨_, rfl, rfl, _, rfl, ite2 (fun c2 => q 0 (by decide) (fun e => absurd e (by decide))) (fun c2 => q way hw fun _ => ?_)⟩
      apply Classical.byContradiction
      intro z
      apply c2
      simp
      omega
    case iSub =>
      rintro D σ H ⟨lf, lt, ws, fs, way, v0, v1, v2, v4, v5, v6, v7, v9, v10, v11, rfl, e1, e2, hne, hl, q⟩
      refine ⟨_, rfl, rfl, _, rfl, ite2 (fun c => ?_) (fun c => q lf fs H (List.Sublist.refl _) (.inl rfl) (Same.refl _) e1)⟩
      obtain ⟨ms, z, rfl⟩ : ∃ ms z, ws = ms ++ [z] := ⟨ws.dropLast, ws.getLast hne, (List.dropLast_concat_getLast hne).symm⟩
      refine ⟨_, rfl, lf, rfl, ⟨_, SqL.of e1⟩, fun D1 hD1 => ?_⟩
      refine lcG fs (fun t => if t = z then none else some (V.str t)) (walk_listL (K := K) (a := lf) fs V.str) (by omega) hD1 (yat_same _) (fun H' s' => SqL.of (s' _ _ e1)) (fun i t y H' H'' k1 ht sj hy k2 => ?_) (fun H6 s6 e6 => ?_)
      · obtain ⟨rfl, hy⟩ := hy
        have ey := map_get ht hy
        subst ey
        refine ⟨rfl, _, rfl, _, rfl, 1, rfl, lt, _, _, V.str z, rfl, rfl, SqL.of (sj _ _ e2), ?_, rfl, _, rfl, ?_⟩
        · rw [List.map_append]
          exact atI_last _ _
        · have k2 := k2 _ (Same.refl _)
          by_cases htz : t = z
          · rw [if_pos htz] at k2
            exact if_false_of (by rw [htz]; simp) k2
          · rw [if_neg htz] at k2
            refine ite2 (fun _ => ⟨_, rfl, k2⟩) (fun c => absurd ?_ c)
            simp [htz]
      · refine q D1 (fs.filter fun t => !decide (t = z)) H6 List.filter_sublist (.inr hD1) s6 ?_
        rw [e6]
        exact congrArg (fun z => some (HO.lst z)) (filt_map z fs)
    have hx3 : 1 ≤ x.length ∧ x.length ≤ 3 := by
      rw [areS1] at hx
      simp only [Bool.and_eq_true, decide_eq_true_eq] at hx
      exact ⟨hx.1.1.1, hx.1.1.2⟩
    have zx : x.length ≤ sizeLine := by rw [sizeLine_eq]; omega
    refine ⟨_, rfl, x, rfl, zx, _, rfl, p, 6, rfl, hW, by decide, by decide, fun wy H1 d0 d1 sb1 hW1 => ⟨_, _, rfl, ?_⟩⟩
    obtain ⟨way, rfl⟩ := Int.eq_ofNat_of_zero_le d0
    refine ⟨_, _, x.length, way, rfl, by omega, fun w' hw' hc => ?_⟩
    clear d0 d1
    refine ⟨_, rfl, p, 4, rfl, hW1, by decide, by decide, fun d H2 d0 d1 sb2 hW2 => ⟨_, _, rfl, rfl, ?_⟩⟩
    obtain ⟨m, rfl⟩ := Int.eq_ofNat_of_zero_le d0
    have sbA := sb1.trans sb2
    clear sb1 sb2 hW1 d0
    obtain ⟨size, hsz, hWO⟩ : ∃ size : Nat, ([V.int (1 + (m : Int)), V.int (x.length : Int), V.int ((x.length : Int) + 2), V.int 4, V.int 5, V.int 2] : List V)[w']? = some (V.int (size : Int)) ∧ WayOk w' size x.length := by
      unfold WayOk
      match w', hw', hc with
      | 0, _, _ => exact ⟨1 + m, by rw [show (((1 + m : Nat)) : Int) = 1 + (m : Int) by omega]; rfl, by omega⟩
      | 1, _, _ => exact ⟨x.length, rfl, by omega⟩
      | 2, _, _ => exact ⟨x.length + 2, by rw [show (((x.length + 2 : Nat)) : Int) = (x.length : Int) + 2 by omega]; rfl, by omega⟩
      | 3, _, _ => exact ⟨4, rfl, by omega⟩
      | 4, _, hc => exact ⟨5, rfl, by have := hc rfl; omega⟩
      | 5, _, _ => exact ⟨2, rfl, by omega⟩
    refine ⟨_, rfl, _, rfl, _, rfl, _, _, rfl, rfl, by show 6 ≤ sizeLine; decide, fun l6 h6 => ⟨_, rfl, l6, _, _, V.int (size : Int), rfl, rfl, SqL.of upd_same, atI_nat hsz, ?_⟩⟩
    have sbA := sbA.trans (Sb.of (same_new (o := .lst [V.int (1 + (m : Int)), V.int (x.length : Int), V.int ((x.length : Int) + 2), V.int 4, V.int 5, V.int 2]) h6))
    have hW2 := hW2.same (same_new (o := .lst [V.int (1 + (m : Int)), V.int (x.length : Int), V.int ((x.length : Int) + 2), V.int 4, V.int 5, V.int 2]) h6)
    generalize upd H2 l6 (.lst [V.int (1 + (m : Int)), V.int (x.length : Int), V.int ((x.length : Int) + 2), V.int 4, V.int 5, V.int 2]) = H3 at sbA hW2 ⊢
    clear h6 hsz
    refine ⟨by show 10 ≤ sizeLine; decide, fun ls hls => ?_⟩
    have els : upd H3 ls (.lst (stock.map V.str)) ls = some (.lst (stock.map V.str)) := upd_same
    have nls : ls ≠ p := hW2.new hls
    have sbA := sbA.trans (Sb.of (same_new (o := .lst (stock.map V.str)) hls))
    have hW2 := hW2.same (same_new (o := .lst (stock.map V.str)) hls)
    refine (fun (G : ∀ H4 : Hp, Sb p H H4 → Wl H4 p → H4 ls = some (.lst (stock.map V.str)) → _) => G _ sbA hW2 els) (fun H4 sbB hW4 els => ?_)
    clear sbA hW2 hls
    refine ⟨_, rfl, p, 10, rfl, hW4, by decide, by decide, fun fi H5 f0 f1 sb5 hW5 => ⟨by show 4 ≤ sizeLine; decide, fun l4 h4 => ?_⟩⟩
    obtain ⟨fz, rfl⟩ := Int.eq_ofNat_of_zero_le f0
    have els := sb5 _ _ nls els
    have n4 : l4 ≠ p := hW5.new h4
    have els := keep1 (o := .lst [.int 1, .int 3, .int 7, .int 9]) els h4
    have e4 : upd H5 l4 (.lst [.int 1, .int 3, .int 7, .int 9]) l4 = some (.lst [.int 1, .int 3, .int 7, .int 9]) := upd_same
    have sbC := (sbB.trans sb5).trans (Sb.of (same_new (o := .lst [.int 1, .int 3, .int 7, .int 9]) h4))
    have hW6 := hW5.same (same_new (o := .lst [.int 1, .int 3, .int 7, .int 9]) h4)
    generalize upd H5 l4 (.lst [.int 1, .int 3, .int 7, .int 9]) = H6 at els e4 sbC hW6 ⊢
    clear sbB sb5 hW5 h4 hW4
    refine ⟨_, rfl, p, 4, rfl, hW6, by decide, by decide, fun j H7 j0 j1 sb7 hW7 => ?_⟩
    obtain ⟨jn, rfl⟩ := Int.eq_ofNat_of_zero_le j0
    obtain ⟨st, hst, mst⟩ : ∃ st : Nat, ([V.int 1, V.int 3, V.int 7, V.int 9] : List V)[jn]? = some (V.int (st : Int)) ∧ st ∈ [1, 3, 7, 9] := by
      have : jn < 4 := by omega
      match jn, this with
      | 0, _ => exact ⟨1, rfl, by simp⟩
      | 1, _ => exact ⟨3, rfl, by simp⟩
      | 2, _ => exact ⟨7, rfl, by simp⟩
      | 3, _ => exact ⟨9, rfl, by simp⟩
    have els := sb7 _ _ nls els
    refine ⟨l4, _, _, V.int (st : Int), rfl, rfl, SqL.of (sb7 _ _ n4 e4), atI_nat hst, by show 2 ≤ sizeLine; decide, fun t1 ht1 => ⟨t1, _, rfl, SqT.of upd_same, rfl, _, _, rfl, _, _, rfl, rfl, ?_⟩⟩
    have els := keep1 (o := .tup [.int (fz : Int), .int (st : Int)]) els ht1
    have sbD := (sbC.trans sb7).trans (Sb.of (same_new (o := .tup [.int (fz : Int), .int (st : Int)]) ht1))
    have hW8 := hW7.same (same_new (o := .tup [.int (fz : Int), .int (st : Int)]) ht1)
    generalize upd H7 t1 (.tup [.int (fz : Int), .int (st : Int)]) = H8 at els sbD hW8 ⊢
    clear sbC sb7 hW6 hW7 ht1 e4 hst
    have st9 : st ≤ 9 := by simp at mst; omega
    have hz := hWO
    obtain ⟨_, _, _, _, z1, z5, _, _⟩ := hz
    have hmo := tags_ok fz (by omega) st mst size (by omega) z1
    refine ⟨_, rfl, (size : Int), rfl, by omega, by omega, fun D hD => ?_⟩
    refine lcG (List.range size) (fun k => some (V.str (stock.getD ((fz + st * k) % 10) Str.empty))) (by rw [List.length_range]; exact walk_range) (by rw [List.length_range]; omega) hD (fun i H x H' h => by rw [h.1]; exact Same.refl _) (fun _ _ => trivial) (fun i kk y H' H'' k1 hk sj hy k2 => ?_) (fun H9 s9 e9 => ?_)
    · obtain ⟨rfl, rfl⟩ := hy
      have hi : i < size := by
        have := (List.getElem?_eq_some_iff.mp hk).1
        rw [List.length_range] at this
        exact this
      have ek : kk = i := by
        rw [List.getElem?_range hi] at hk
        exact (Option.some.inj hk).symm
      subst ek
      refine ⟨rfl, _, rfl, _, rfl, _, rfl, _, rfl, _, _, rfl, rfl, .inl ⟨by show -(2 ^ 64 : Int) < (st : Int); omega, by show (st : Int) < 2 ^ 64; omega⟩, _, _, rfl, rfl, .inl ⟨_, rfl, _, _, rfl, rfl, (by show (0 : Int) < 10; decide), ls, _, _, V.str (stock.getD ((fz + st * kk) % 10) Str.empty), rfl, rfl, SqL.of (sj _ _ els), ?_, k2 _ (Same.refl _)⟩⟩
      have e1 : ((fz : Int) + (st : Int) * (0 + (kk : Int))) % 10 = (((fz + st * kk) % 10 : Nat) : Int) := by
        rw [Int.natCast_emod, Int.natCast_add, Int.natCast_mul, Int.zero_add]
        rfl
      show atI _ (((fz : Int) + (st : Int) * (0 + (kk : Int))) % 10) = _
      rw [e1]
      have lt10 : (fz + st * kk) % 10 < 10 := Nat.mod_lt _ (by decide)
      generalize (fz + st * kk) % 10 = r at lt10 ⊢
      refine atI_nat ?_
      have : ∀ r, r < 10 → stock[r]? = some (stock.getD r Str.empty) := by decide +kernel
      rw [List.getElem?_map, this r lt10]
      rfl
    · have ew : H9 D = some (.lst ((tagsL fz st size).map V.str)) := by
        rw [e9, List.filterMap_eq_map']
        unfold tagsL
        rw [List.map_map]
        rfl
      have lw := tags_len fz st size
      generalize tagsL fz st size = ws at ew hmo lw
      refine fun g hg => ⟨by show 2 ≤ sizeLine; decide, fun t2 ht2 => ⟨t2, _, rfl, SqT.of upd_same, rfl, _, _, rfl, _, _, rfl, rfl, ?_⟩⟩
      have nD : D ≠ p := hW8.new hD
      have hW9 := hW8.same s9
      have ng : g ≠ p := hW9.new hg
      have nDg : D ≠ g := ne_of_none ew hg
      have fgH : H g = none := (sbD.trans (Sb.of s9)).free ng hg
      have fDH : H D = none := sbD.free nD hD
      have sm := (same_new (o := .dT []) hg).trans (same_new (o := .tup [.ref D, .ref g]) ht2)
      have eg : upd (upd H9 g (.dT [])) t2 (.tup [.ref D, .ref g]) g = some (.dT []) := keep1 upd_same ht2
      have ew6 := sm _ _ ew
      have s6 := (sbD.trans (Sb.of s9)).trans (Sb.of (p := p) sm)
      have hW6 := hW9.same sm
      generalize upd (upd H9 g (.dT [])) t2 (.tup [.ref D, .ref g]) = H10 at eg ew6 s6 hW6 ⊢
      clear sm ew hW9 ht2 hg e9 s9 sbD hW8 els hD
      refine ⟨_, rfl, (size : Int), rfl, by omega, by omega, for_range (n := size) (fun i σ H' => ∃ v10 v11 kvs, σ = [some (.ref p), some (.str x), some (.int (x.length : Int)), some (.int (w' : Int)), some (.int (size : Int)), some (.ref ls), some (.int (fz : Int)), some (.int (st : Int)), some (.ref D), some (.ref g), v10, v11, none, none, none] ∧ Wl H' p ∧ H' g = some (.dT kvs) ∧ Cv kvs ws (doneL (ws.take i) x) ∧ (∀ b o, b ≠ p → b ≠ g → H10 b = some o → H' b = some o))
        ⟨none, none, [], rfl, hW6, eg, ⟨Nat.zero_le _, fun d hd => by simp [doneL] at hd⟩, fun b o _ _ e => e⟩ (fun i σ H' hi h => ?_) (fun σ H' h => ?_)⟩
      · obtain ⟨v10, v11, kvs, rfl, hW7, eg7, cv, stt⟩ := h
        have hm : ws[i]? = some ws[i] := List.getElem?_eq_getElem (by omega)
        refine ⟨_, rfl, (x.length : Int), rfl, by omega, by omega, for_range (n := x.length) (fun j σ H' => ∃ v11 kvs, σ = [some (.ref p), some (.str x), some (.int (x.length : Int)), some (.int (w' : Int)), some (.int (size : Int)), some (.ref ls), some (.int (fz : Int)), some (.int (st : Int)), some (.ref D), some (.ref g), some (.int (0 + (i : Int))), v11, none, none, none] ∧ Wl H' p ∧ H' g = some (.dT kvs) ∧ Cv kvs ws (doneL (ws.take i) x ++ (x.cps.toList.take j).map fun c => (ws[i], c)) ∧ (∀ b o, b ≠ p → b ≠ g → H10 b = some o → H' b = some o))
          ⟨v11, kvs, rfl, hW7, eg7, by rw [List.take_zero, List.map_nil, List.append_nil]; exact cv, stt⟩ (fun j σ H8 hj h => ?_) (fun σ H8 h => ?_)⟩
        · obtain ⟨v11, kvs, rfl, hW8, eg8, cv, stt⟩ := h
          have hjl : j < x.cps.toList.length := by rw [Array.length_toList]; exact hj
          have hcj : x.cps.toList[j]? = some x.cps.toList[j] := List.getElem?_eq_getElem hjl
          generalize hcc : x.cps.toList[j] = c at hcj
          have et : (x.cps.toList.take (j + 1)).map (fun c => (ws[i], c)) = (x.cps.toList.take j).map (fun c => (ws[i], c)) ++ [(ws[i], c)] := by
            rw [List.take_add_one, hcj, List.map_append]
            rfl
          have ewn := stt _ _ nD nDg ew6
          refine ⟨_, rfl, _, rfl, _, rfl, _, rfl, _, rfl, _, rfl, _, rfl, p, w', size, x.length, i, j, ?_, hW8, hWO, hi, hj, fun u H9 hu' sb9 hW9 => ?_⟩
          · show [V.ref p, V.int (w' : Int), V.int (size : Int), V.int (x.length : Int), V.int (0 + (i : Int)), V.int (0 + (j : Int))] = _
            rw [Int.zero_add, Int.zero_add]
          have hzu : ws[u]? = some ws[u] := List.getElem?_eq_getElem (by omega)
          have mz : ws[u] ∈ ws := List.getElem_mem (by omega)
          generalize ws[u] = z at hzu mz
          refine ⟨D, _, _, V.str z, rfl, rfl, SqL.of (sb9 _ _ nD ewn), atI_nat (by rw [List.getElem?_map, hzu]; rfl), ?_⟩
          have eg9 := sb9 _ _ ng eg8
          have ew9 := sb9 _ _ nD ewn
          have st9 : ∀ b o', b ≠ p → b ≠ g → H10 b = some o' → H9 b = some o' := fun b o' n1 n2 e => sb9 _ _ n1 (stt b o' n1 n2 e)
          refine ⟨_, rfl, _, rfl, _, rfl, D, _, _, V.str ws[i], rfl, rfl, SqL.of ew9, ?_, _, rfl, _, rfl, x, _, c, rfl, rfl, zx, ?_, (by show 2 ≤ sizeLine; decide), fun t ht => ⟨g, _, rfl, .inr ⟨kvs, kT ws[i] c, t, keep1 eg9 ht, rfl, upd_same, ?_, rfl⟩, ?_⟩⟩
          · rw [Int.zero_add]
            exact atI_nat (by rw [List.getElem?_map, hm]; rfl)
          · rw [Int.zero_add]
            exact atI_nat hcj
          · have a1 := cv.1
            rw [List.length_append, done_len, List.length_take, List.length_map, List.length_take] at a1
            have a2 : min i ws.length * x.length ≤ 9 * 3 := Nat.mul_le_mul (by omega) (by omega)
            rw [sizeLine_eq]
            have a3 : min j x.cps.toList.length ≤ j := Nat.min_le_left ..
            omega
          · have nt : g ≠ t := ne_of_none eg9 ht
            refine ⟨_, _, rfl, ((hW9.same (same_new ht)).upd_ ng), upd_same, ?_, fun b o' n1 n2 e => ?_⟩
            · rw [et, ← List.append_assoc]
              exact cv.put mz
            · rw [upd_ne n2, upd_ne (ne_of_none (st9 b o' n1 n2 e) ht)]
              exact st9 b o' n1 n2 e
        · obtain ⟨v11, kvs, rfl, hW8, eg8, cv, stt⟩ := h
          refine ⟨_, _, kvs, rfl, hW8, eg8, ?_, stt⟩
          have : x.cps.toList.take x.length = x.cps.toList := by
            show x.cps.toList.take x.cps.size = _
            rw [← Array.length_toList, List.take_length]
          rw [this] at cv
          rw [done_take hm]
          exact cv
      · obtain ⟨v10, v11, kvs, rfl, hW7, eg7, cv, stt⟩ := h
        have etk : ws.take size = ws := by rw [← lw, List.take_length]
        rw [etk] at cv
        have ew7 := stt _ _ nD nDg ew6
        have s7 : Sb p H H' := fun b o n e => by
          have nb : b ≠ g := fun z => by rw [z, fgH] at e; cases e
          exact stt b o n nb (s6 b o n e)
        refine ⟨_, rfl, D, rfl, ⟨_, SqL.of ew7⟩, fun D3 hD3 => ?_⟩
        have nD3 : D3 ≠ p := hW7.new hD3
        have fD3 : H D3 = none := s7.free nD3 hD3
        refine lc_it (walk_listL ws V.str) (fun i H'' => Wl H'' p ∧ (∀ b o, b ≠ p → b ≠ D3 → H' b = some o → H'' b = some o) ∧ ∃ fs : List Str, fs.Sublist (ws.take i) ∧ H'' D3 = some (.lst (fs.map V.str)))
          ⟨hW7.upd_ nD3, fun b o n1 n2 e => by rw [upd_ne n2]; exact e, [], by simp, upd_same⟩ (fun i H'' _ h => SqL.of (h.2.1 _ _ nD (ne_of_none ew7 hD3) ew7)) (fun i y H8 H9 hi h hy => ?_) (fun H9 h => ?_)
        · obtain ⟨rfl, hy⟩ := hy
          have hm : ws[i]? = some ws[i] := List.getElem?_eq_getElem hi
          obtain rfl := map_get hm hy
          obtain ⟨hW8, st8, fs, sub, eD⟩ := h
          have etk' : ws.take (i + 1) = ws.take i ++ [ws[i]] := by rw [List.take_add_one, hm]; rfl
          refine ⟨rfl, _, rfl, p, 2, rfl, hW8, (by decide), (by decide), fun d Hx d0 d1 sbx hW9 => ⟨rfl, _, rfl, ite2 (fun c => ?_) (fun c => ?_)⟩⟩
          · refine ⟨_, rfl, _, sbx _ _ nD3 eD, ?_, hW9.upd_ nD3, fun b o' n1 n2 e => ?_, fs ++ [ws[i]], by rw [etk']; exact sub.append (List.Sublist.refl _), ?_⟩
            · have := sub.length_le
              rw [List.length_take] at this
              rw [List.length_map, sizeLine_eq]
              omega
            · rw [upd_ne n2]
              exact sbx _ _ n1 (st8 b o' n1 n2 e)
            · rw [upd_same, List.map_append]
              rfl
          · refine ⟨hW9, fun b o' n1 n2 e => sbx _ _ n1 (st8 b o' n1 n2 e), fs, ?_, sbx _ _ nD3 eD⟩
            rw [etk']
            exact sub.trans (List.sublist_append_left _ _)
        · obtain ⟨hW8, st8, fs, sub, eD⟩ := h
          rw [List.take_length] at sub
          have eg8 := st8 _ _ ng (ne_of_none eg7 hD3) eg7
          have ew8 := st8 _ _ nD (ne_of_none ew7 hD3) ew7
          have hne : ws ≠ [] := fun z => by rw [z] at lw; simp at lw; omega
          have fl : fs.length ≤ 1000 := by have := sub.length_le; omega
          refine ⟨D3, D, ws, fs, w', _, _, _, _, _, _, _, _, _, _, rfl, eD, ew8, hne, fl, fun lf fs' H11 sub' hlf s11 elf => ?_⟩
          refine ⟨_, rfl, _, rfl, _, rfl, _, rfl, (by show 4 ≤ sizeLine; decide), fun q hq => ?_⟩
          have gl : ∀ t ∈ ws, ∀ c ∈ x.cps.toList, ∃ y ∈ ws, valV kvs (kT t c) = some (.str y) := fun t ht c hc => cv.2 (t, c) (List.mem_flatMap.mpr ⟨t, ht, List.mem_map.mpr ⟨c, hc, rfl⟩⟩)
          have lk : kvs.length ≤ 15 := by
            have := cv.1
            rw [done_len] at this
            have : ws.length * x.length ≤ 5 * 3 := Nat.mul_le_mul (by omega) (by omega)
            omega
          refine k q ws fs' kvs _ ⟨hx, hmo, sub'.trans sub, gl⟩ (by omega) lk (fun b o n e => ?_) ((hW8.same s11).same (same_new hq)) ⟨D, lf, g, upd_same, keep1 (s11 _ _ ew8) hq, keep1 elf hq, keep1 (s11 _ _ eg8) hq⟩ (fun s1 a1 a2 a3 e => ?_)
          · have e7 := s7 b o n e
            exact keep1 (s11 _ _ (st8 b o n (ne_of_none e7 hD3) e7)) hq
          · rw [upd_same] at e
            injection e with e
            injection e with e
            injection e with _ e
            injection e with e1 e
            injection e with e2 e
            injection e with e3 _
            injection e1 with e1
            injection e2 with e2
            injection e3 with e3
            subst e1 e2 e3
            refine ⟨fDH, ?_, fgH⟩
            rcases hlf with rfl | hlf
            · exact fD3
            · have sAll : Sb p H H9 := fun b o n e => by
                have e7 := s7 b o n e
                exact st8 b o n (ne_of_none e7 hD3) e7
              exact sAll.free (hW8.new hlf) hlf
end
end My
namespace My
open PySem PySem.Spec PyProof.Rows L2 PySem.GX L2H LamX
def spTextB : Sp := fun vs H Q _ => ∃ (q : Addr) (x : Str) (ws fs : List Str) (kvs : List (List Key × V)), vs = [.ref q] ∧ BxAt H q x ws fs kvs ∧ Short x ws fs kvs ∧ ∀ H', Same H H' → Q (.str (textL x ws fs kvs)) H'
/-- a box that tells the goals of p, whose moods begin otherwise -/
def BxF (H : Hp) (q : Addr) (p : Parts) (ws : List Str) : Prop := ∃ lw lf g kvs, H q = some (.tup [.str p.sg, .ref lw, .ref lf, .ref g]) ∧ H lw = some (.lst (ws.map V.str)) ∧ H lf = some (.lst (p.gs.map V.str)) ∧ H g = some (.dT kvs) ∧
  ∀ t ∈ p.ms, ∀ c ∈ p.sg.cps.toList, valV kvs (kT t c) = some (.str (ledL p t c))
theorem BxF.same {H H' : Hp} {q : Addr} {p : Parts} {ws : List Str} (h : BxF H q p ws) (s : Same H H') : BxF H' q p ws := by
  obtain ⟨lw, lf, g, kvs, a, b, c, d, e⟩ := h
  exact ⟨lw, lf, g, kvs, s _ _ a, s _ _ b, s _ _ c, s _ _ d, e⟩
theorem strs_ne3 (ws : List Str) (a b c : Int) : HO.lst (ws.map V.str) ≠ .lst [.int a, .int b, .int c] := fun z => by
  injection z with z
  cases ws with
  | nil => cases z
  | cons w t => injection z with z _; cases z
theorem BxF.sb {H H' : Hp} {q p0 : Addr} {p : Parts} {ws : List Str} (h : BxF H q p ws) (w : Wl H p0) (s : Sb p0 H H') : BxF H' q p ws := by
  obtain ⟨lw, lf, g, kvs, a, b, c, d, e⟩ := h
  refine ⟨lw, lf, g, kvs, s _ _ (w.ne a fun _ _ _ z => by cases z) a, s _ _ (w.ne b (strs_ne3 _)) b, s _ _ (w.ne c (strs_ne3 _)) c, s _ _ (w.ne d fun _ _ _ z => by cases z) d, e⟩
abbrev partsF (x : Str) (ws fs : List Str) (kvs : List (List Key × V)) : Parts := ⟨x, ws, fs, rsL x ws kvs⟩
theorem led_is {x : Str} {ws fs : List Str} {kvs : List (List Key × V)} (h : Fine x ws fs kvs) {t : Str} (ht : t ∈ ws) {c : Nat} (hc : c ∈ x.cps.toList) : valV kvs (kT t c) = some (.str (ledL (partsF x ws fs kvs) t c)) := by
  have e1 : ledL (partsF x ws fs kvs) t c = gf kvs t c := gf_is (fine_val h ht hc)
  obtain ⟨y, _, e2⟩ := h.gl t ht c hc
  rw [e1, e2, gf_is e2]
theorem bxF_of {H : Hp} {q : Addr} {x : Str} {ws fs : List Str} {kvs : List (List Key × V)} (h : Fine x ws fs kvs) (a : BxAt H q x ws fs kvs) : BxF H q (partsF x ws fs kvs) ws := by
  obtain ⟨lw, lf, g, a, b, c, d⟩ := a
  exact ⟨lw, lf, g, kvs, a, b, c, d, fun t ht c hc => led_is h ht hc⟩
theorem pok_of {x : Str} {ws fs : List Str} {kvs : List (List Key × V)} (h : Fine x ws fs kvs) : PartsOk (partsF x ws fs kvs) := parts_ok (fine_parse h)
def InS (p : Parts) (r : Str) : Prop := ∀ c ∈ r.cps.toList, c ∈ p.sg.cps.toList
def spEndB : Sp := fun vs H Q _ => ∃ (q : Addr) (p : Parts) (ws : List Str) (t r : Str), vs = [.ref q, .str t, .str r] ∧ BxF H q p ws ∧ PartsOk p ∧ t ∈ p.ms ∧ InS p r ∧ ∀ H', Same H H' → Q (.str (walkL p t r.cps.toList)) H'
section
variable {P : Program} {w : World} {K : PySem.W.Frag} {mg : Str → Option Value} {base : Heap}
abbrev nTextB : List Str := ["_law_box_here", "_law_lines", "_law_here", "_law_letter"]
theorem scTextB : FnScope nTextB ["_law_box_here"] (defScope sText) := ⟨rfl, rfl, rfl, by decide +kernel, rfl, by decide +kernel, by decide +kernel⟩
theorem ok_textB {f : Addr} {fd : FuncData} (F : Fun K "_law_text" "_law_text" sText f fd) : FnOk P w K mg base CX0 1 f fd ["_law_box_here"] spTextB := by
  refine F.ok scTextB (fun vs H Q E h => ?_) (fun cdv A outer s H vs Q E hr h => ?_)
  · obtain ⟨q, x, ws, fs, kvs, rfl, _⟩ := h
    rfl
  · obtain ⟨q, x, ws, fs, kvs, rfl, ⟨lw, lf, g, eq, ew, ef, eg⟩, sh, k⟩ := h
    refine ⟨_, pss_cons (ps_set (i := 1) scTextB.nd rfl (Or.inl rfl) (pe_lst (pa_cons (pe_op op_add_str pe_str (pe_ix ix_tup (pv 0) pe_int (fun _ _ => rfl))) (pa_cons (pe_join pe_str (pe_op op_cat (pe_lst (pa_cons pe_str pa_nil)) (pe_ix ix_tup (pv 0) pe_int (fun _ _ => rfl)))) (pa_cons (pe_join pe_str (pe_op op_cat (pe_lst (pa_cons pe_str pa_nil)) (pe_ix ix_tup (pv 0) pe_int (fun _ _ => rfl)))) pa_nil)))))
      (pss_cons (ps_for PassesOwn.never rfl (pi_list (pe_ix ix_tup (pv 0) pe_int (fun _ _ => rfl))) (pg_name (i := 2) scTextB.nd rfl (Or.inl rfl)) (pss_one (ps_for PassesOwn.never rfl (pi_str (pe_ix ix_tup (pv 0) pe_int (fun _ _ => rfl))) (pg_name (i := 3) scTextB.nd rfl (Or.inl rfl))
          (pss_one (ps_expr (pe_bm PySem.F.plainAttrs_list PySem.F.slot_list_append PySem.F.type_list_append mt_append (pv 1) (pa_cons (pe_op op_add_str (pe_op op_add_str (pe_op op_add_str (pe_op op_add_str (pv 2) pe_str) (pv 3)) pe_str) (pe_dget (hu_of hr) (pe_ix ix_tup (pv 0) pe_int (fun _ _ => rfl)) (pe_tup (pa_cons (pv 2) (pa_cons (pv 3) pa_nil))) (fun _ _ => rfl))) pa_nil)))))))
      (pss_one (ps_ret (pe_join pe_str (pv 1))))), ?_⟩
    have esp : (Str.ofString " ") = sp := by decide +kernel
    have enl : (Str.ofString "\n") = nl := by decide +kernel
    have hs := lines_short sh
    have z := sh.hx
    have z1 := sh.nw
    have z2 := sh.nf
    refine ⟨_, rfl, q, _, _, V.str x, rfl, rfl, SqT.of eq, atI_nat (j := 0) rfl, _, _, rfl, rfl, ?_, ?_⟩
    · have : ("signs " : Str).length = 6 := by decide +kernel
      rw [sizeLine_eq]
      omega
    refine ⟨⟨_, rfl⟩, (by show 1 ≤ sizeLine; decide), fun a1 h1 => ⟨_, rfl, q, _, _, V.ref lw, rfl, rfl, SqT.of (keep1 eq h1), atI_nat (j := 1) rfl, a1, lw, _, _, rfl, rfl, upd_same, keep1 ew h1, ?_, fun a2 h2 => ?_⟩⟩
    · rw [List.length_map, sizeLine_eq]
      simp
      omega
    have s2 := (same_new (o := .lst [V.str ("moods" : Str)]) h1).trans (same_new (o := .lst ([V.str ("moods" : Str)] ++ ws.map V.str)) h2)
    refine ⟨_, a2, ("moods" : Str) :: ws, rfl, rfl, .inl (SqL.of upd_same), ?_, ?_⟩
    · have b := sum_le sh.lw
      have c : ("moods" : Str).length = 5 := by decide +kernel
      have d : (Str.ofString " ").length = 1 := by decide +kernel
      rw [List.map_cons, List.sum_cons, List.length_cons, c, d]
      omega
    generalize upd (upd H a1 (.lst [V.str ("moods" : Str)])) a2 (.lst ([V.str ("moods" : Str)] ++ ws.map V.str)) = H2 at s2 ⊢
    refine ⟨⟨_, rfl⟩, (by show 1 ≤ sizeLine; decide), fun a3 h3 => ⟨_, rfl, q, _, _, V.ref lf, rfl, rfl, SqT.of (keep1 (s2 _ _ eq) h3), atI_nat (j := 2) rfl, a3, lf, _, _, rfl, rfl, upd_same, keep1 (s2 _ _ ef) h3, ?_, fun a4 h4 => ?_⟩⟩
    · rw [List.length_map, sizeLine_eq]
      simp
      omega
    have s4 := (s2.trans (same_new (o := .lst [V.str ("good" : Str)]) h3)).trans (same_new (o := .lst ([V.str ("good" : Str)] ++ fs.map V.str)) h4)
    refine ⟨_, a4, ("good" : Str) :: fs, rfl, rfl, .inl (SqL.of upd_same), ?_, ?_⟩
    · have b := sum_le sh.lf
      have c : ("good" : Str).length = 4 := by decide +kernel
      have d : (Str.ofString " ").length = 1 := by decide +kernel
      rw [List.map_cons, List.sum_cons, List.length_cons, c, d]
      omega
    generalize upd (upd H2 a3 (.lst [V.str ("good" : Str)])) a4 (.lst ([V.str ("good" : Str)] ++ fs.map V.str)) = H4 at s4 ⊢
    refine ⟨(by show 3 ≤ sizeLine; decide), fun l0 h0 => ?_⟩
    rw [esp]
    have s5 := s4.trans (same_new (o := .lst ((headL x ws fs).map V.str)) h0)
    have e5 : upd H4 l0 (.lst ((headL x ws fs).map V.str)) l0 = some (.lst ((headL x ws fs).map V.str)) := upd_same
    have eq5 := s5 _ _ eq
    have ew5 := s5 _ _ ew
    have eg5 := s5 _ _ eg
    have nq : q ≠ l0 := ne_of_none (s4 _ _ eq) h0
    have nw : lw ≠ l0 := ne_of_none (s4 _ _ ew) h0
    have ng : g ≠ l0 := ne_of_none (s4 _ _ eg) h0
    have fl : ∀ b o, H b = some o → b ≠ l0 := fun b o e => ne_of_none (s4 _ _ e) h0
    show ∃ a, _
    generalize eH5 : upd H4 l0 (.lst ((headL x ws fs).map V.str)) = H5 at s5 e5 eq5 ew5 eg5
    have eH5' : upd H4 l0 (.lst [V.str (("signs " : Str) ++ x), V.str (Txt.join sp (("moods" : Str) :: ws)), V.str (Txt.join sp (("good" : Str) :: fs))]) = H5 := eH5
    rw [eH5']
    refine ⟨_, rfl, q, _, _, V.ref lw, rfl, rfl, SqT.of eq5, atI_nat (j := 1) rfl, lw, rfl, ⟨_, SqL.of ew5⟩, ?_⟩
    refine for_it (walk_listL ws V.str) (fun i σ H' => ∃ (v2 v3 : Option V), σ = [some (.ref q), some (.ref l0), v2, v3] ∧ Sb l0 H5 H' ∧ H' l0 = some (.lst ((headL x ws fs ++ bodyL x (ws.take i) kvs).map V.str)))
      ⟨none, none, rfl, Sb.refl _ _, by rw [List.take_zero]; exact e5⟩ (fun i σ H' _ h => ?_) (fun i y σ H' H'' hi h hy => ?_) (fun σ H' h => ?_)
    · obtain ⟨v2, v3, rfl, st, _⟩ := h
      exact SqL.of (st _ _ nw ew5)
    · obtain ⟨rfl, hy⟩ := hy
      have hm : ws[i]? = some ws[i] := List.getElem?_eq_getElem hi
      obtain rfl := map_get hm hy
      obtain ⟨v2, v3, rfl, st, el⟩ := h
      refine ⟨_, rfl, q, _, _, V.str x, rfl, rfl, SqT.of (st _ _ nq eq5), atI_nat (j := 0) rfl, x, rfl, ?_⟩
      refine for_it walk_str (fun j σ H' => ∃ (v3 : Option V), σ = [some (.ref q), some (.ref l0), some (.str ws[i]), v3] ∧ Sb l0 H5 H' ∧ H' l0 = some (.lst ((headL x ws fs ++ bodyL x (ws.take i) kvs ++ (x.cps.toList.take j).map fun c => lineL kvs ws[i] c).map V.str)))
        ⟨v3, rfl, st, by rw [List.take_zero, List.map_nil, List.append_nil]; exact el⟩ (fun _ _ _ _ _ => trivial) (fun j y σ H7 H8 hj h hy => ?_) (fun σ H7 h => ?_)
      · obtain ⟨rfl, c, hc, rfl⟩ := hy
        obtain ⟨v3, rfl, st7, el7⟩ := h
        rw [← Array.getElem?_toList] at hc
        have hmw : ws[i] ∈ ws := List.getElem_mem hi
        have hcx : c ∈ x.cps.toList := List.mem_of_getElem? hc
        obtain ⟨gy, lg, egy⟩ := sh.gl ws[i] hmw c hcx
        have lt := sh.lw ws[i] hmw
        have d : (sp : Str).length = 1 := rfl
        have d2 : ({ cps := #[c] } : Str).length = 1 := rfl
        refine ⟨_, rfl, .inl ⟨rfl, _, SqL.of el7⟩, _, rfl, _, _, rfl, rfl, (by rw [sizeLine_eq]; omega), _, rfl, _, _, rfl, rfl, (by rw [sizeLine_eq, len_app]; omega), _, _, rfl, rfl, (by rw [sizeLine_eq, len_app, len_app]; omega), _, rfl, q, _, _, V.ref g, rfl, rfl, SqT.of (st7 _ _ nq eq5), atI_nat (j := 3) rfl, _, rfl, _, rfl, (by show 2 ≤ sizeLine; decide), fun t ht => ?_⟩
        refine ⟨g, V.str gy, rfl, ?_, _, _, rfl, rfl, ?_, l0, _, _, rfl, rfl, keep1 el7 ht, ?_, ?_⟩
        · have := DGet.t (k := kT ws[i] c) (keep1 (st7 _ _ ng eg5) ht) (upd_same (o := .tup ((kT ws[i] c).map kV)))
          rw [egy] at this
          exact this
        · rw [sizeLine_eq, len_app, len_app, len_app]
          omega
        · have a1 : (headL x ws fs ++ bodyL x (ws.take i) kvs).length ≤ 63 := by
            rw [List.length_append, body_len, List.length_take]
            have : min i ws.length * x.length ≤ 20 * 3 := Nat.mul_le_mul (by omega) z
            show 3 + _ ≤ 63
            omega
          have a2 : ((x.cps.toList.take j).map fun c => lineL kvs ws[i] c).length ≤ 3 := by
            rw [List.length_map, List.length_take, Array.length_toList]
            exact Nat.le_trans (Nat.min_le_right ..) z
          rw [List.length_map, List.length_append, sizeLine_eq]
          omega
        · refine ⟨_, rfl, fun b o n e => ?_, ?_⟩
          · rw [upd_ne n]
            exact keep1 (st7 _ _ n e) ht
          · rw [upd_same, List.take_add_one, hc]
            show some (HO.lst (_ ++ [V.str _])) = _
            rw [List.map_append (f := fun c => lineL kvs ws[i] c), ← List.append_assoc, List.map_append (f := V.str) (l₂ := List.map (fun c => lineL kvs ws[i] c) (some c).toList)]
            have e9 : V.str (ws[i] ++ sp ++ { cps := #[c] } ++ sp ++ gy) = V.str (lineL kvs ws[i] c) := by
              unfold lineL
              rw [gf_is egy]
            exact congrArg (fun z => some (HO.lst (_ ++ [z]))) e9
      · obtain ⟨v3, rfl, st7, el7⟩ := h
        refine ⟨_, _, rfl, st7, ?_⟩
        have : x.cps.toList.take x.cps.size = x.cps.toList := by rw [← Array.length_toList, List.take_length]
        rw [this] at el7
        rw [body_take hm, ← List.append_assoc]
        exact el7
    · obtain ⟨v2, v3, rfl, st, el⟩ := h
      rw [List.take_length] at el
      refine ⟨⟨_, rfl⟩, _, rfl, _, l0, linesL x ws fs kvs, rfl, rfl, .inl (SqL.of el), ?_, ?_⟩
      · have b := sum_le hs.2
        have c := hs.1
        have d : (Str.ofString "\n").length = 1 := by decide +kernel
        have e : (linesL x ws fs kvs).length * 200 ≤ 63 * 200 := Nat.mul_le_mul_right _ c
        rw [d]
        omega
      · rw [enl]
        exact k _ fun b o e => st _ _ (fl b o e) (s5 _ _ e)
end
end My
namespace My
open PySem PySem.Spec PyProof.Rows L2 PySem.GX L2H LamX
theorem ix_tupK {X : Cx} {K : PySem.W.Frag} (h : X.K = K) : IxR X (rIxT K) := by subst h; exact ix_tup
theorem call_isiK {X : Cx} {K : PySem.W.Frag} (h : X.K = K) : CallR X (.builtin "isinstance") (rIsi K) := by subst h; exact call_isi
def rJoinK (K : PySem.W.Frag) : V → List V → Hp → VK → Prop := fun x xs H Q => ∃ a p, ∃ ys : List Str, x = .str a ∧ xs = [.ref p] ∧ (SqL K H p (ys.map V.str) ∨ SqT K H p (ys.map V.str)) ∧ (ys.map (·.length)).sum + ys.length * a.length ≤ 16777216 ∧ Q (.str (Txt.join a ys)) H
theorem pe_joinK {X : Cx} {K : PySem.W.Frag} {o e : Expr} {to te : TE} {apos pos : Pos} (h : X.K = K) (ho : PE X o to) (he : PE X e te) (hs : starEach [e] X.env = [(false, eval e X.env)] := by rfl) (hbase : attributeBase o "join" X.env (eval o X.env) = eval o X.env := by rfl) (hline : (apos.endLine == pos.line) = true := by rfl) :
    PE X (.Call (.Attribute o "join" apos) [e] [] pos) (tM1 (rJoinK K) to te) := by
  subst h
  exact pe_join ho he hs hbase hline
theorem pi_listK {X : Cx} {K : PySem.W.Frag} {tg l : Expr} {tl : TE} (h : X.K = K) (hl : PE X l tl) : PI X tg l (iList K tl) := by
  subst h
  exact pi_list hl
theorem op_in_seqK {X : Cx} {K : PySem.W.Frag} (h : X.K = K) : OpR X (compareOp .In) (rIn K false) := by subst h; exact op_in_seq
end My
namespace My
open PySem PySem.Spec PyProof.Rows L2 PySem.GX L2H LamX
theorem lt_le {a b : Str} (h : ltCps b.cps.toList a.cps.toList = false) : a.cps.toList ≤ b.cps.toList := by
  rw [ltCps_eq] at h
  exact fun z => of_decide_eq_false h z
theorem rising_pair : ∀ (l : List Str) (p : Str), risingS p l = true → (p :: l).Pairwise (fun a b : Str => a.cps.toList ≤ b.cps.toList)
  | [], p, _ => by simp
  | x :: r, p, h => by
    unfold risingS at h
    simp only [Bool.and_eq_true] at h
    have ih := rising_pair r x h.2
    have h1 : p.cps.toList ≤ x.cps.toList := lt_le (by simpa using h.1)
    rw [List.pairwise_cons]
    refine ⟨fun z hz => ?_, ih⟩
    rcases List.mem_cons.mp hz with rfl | m
    · exact h1
    · exact List.le_trans h1 ((List.pairwise_cons.mp ih).1 z m)
theorem sorted_pair (l : List Str) (h : sortedS l = true) : l.Pairwise (fun a b : Str => a.cps.toList ≤ b.cps.toList) := by
  match l, h with
  | [], _ => exact List.Pairwise.nil
  | x :: r, h => exact rising_pair r x h
theorem pair_uniq : ∀ {a b : List Str}, a.Pairwise (fun a b : Str => a.cps.toList ≤ b.cps.toList) → b.Pairwise (fun a b : Str => a.cps.toList ≤ b.cps.toList) → a.Perm b → a = b
  | [], b, _, _, p => (List.Perm.nil_eq p)
  | x :: xs, [], _, _, p => absurd p.length_eq (by simp)
  | x :: xs, y :: ys, h1, h2, p => by
    rw [List.pairwise_cons] at h1 h2
    have e : x = y := by
      have m1 := p.mem_iff.mp (List.mem_cons_self (a := x) (l := xs))
      have m2 := p.mem_iff.mpr (List.mem_cons_self (a := y) (l := ys))
      rcases List.mem_cons.mp m1 with m1 | m1
      · exact m1
      · rcases List.mem_cons.mp m2 with m2 | m2
        · exact m2.symm
        · exact str_ext (List.le_antisymm (h1.1 _ m2) (h2.1 _ m1))
    subst e
    rw [pair_uniq h1.2 h2.2 (List.Perm.cons_inv p)]
end My
namespace L2
open PySem PySem.Spec PyProof.Rows PySem.GX
section
variable {α β : Type} {J : It} {G : Hp → Prop} {Y : Nat → Hp → V → Hp → Prop} {g g1 : TG} {tt tt1 : TT} {wi1 : TI} {te : TE} {vs vs1 : List Nat} {σ : St} {H1 : Hp} {D : Addr} {Qd : Hp → Prop}
theorem fm_len (xs : List α) (ys : List β) (f : α → β → V) : (xs.flatMap fun a => ys.map (f a)).length = xs.length * ys.length := by
  induction xs with
  | nil => simp
  | cons a t ih => rw [List.flatMap_cons, List.length_append, ih, List.length_map, List.length_cons, Nat.succ_mul, Nat.add_comm]
def NxL (H' : Hp) (D : Addr) (l : List V) : Hp → Prop := fun H6 => (∀ b o, b ≠ D → H' b = some o → H6 b = some o) ∧ H6 D = some (.lst l)
/-- [e for x in .. for y in ..], the second walk always over the same -/
theorem lc2G (xs : List α) (ys : List β) (f : α → β → V) (w : Walk J xs.length G Y) (hz : xs.length * ys.length ≤ 16000000) (hD : H1 D = none) (hY : ∀ i H x H', Y i H x H' → Same H H') (hG : ∀ H', Same H1 H' → G H')
    (turn : ∀ (i : Nat) (a : α) (x : V) (H' H'' : Hp) (Nx : Hp → Prop) (go : It → Hp → St → Prop), xs[i]? = some a → Same H1 H' → Y i H' x H'' →
      (∀ (J1 : It) (H4 : Hp) (σ2 : St) (G1 : Hp → Prop) (Y1 : Nat → Hp → V → Hp → Prop), Same H'' H4 → Walk J1 ys.length G1 Y1 → (∀ i H x H', Y1 i H x H' → Same H H') → (∀ H', Same H1 H' → G1 H') →
        (∀ (j : Nat) (b : β) (y : V) (H5 H6 : Hp) (k : Option V → Hp → Prop), ys[j]? = some b → Same H1 H5 → Y1 j H5 y H6 → (∀ H9, Same H6 H9 → k (some (f a b)) H9) →
          g1 y (wipe σ2 vs1) H6 fun σ3 H7 => wipe σ3 vs1 = wipe σ2 vs1 ∧ tt1 σ3 H7 fun c H8 => if c = true then te σ3 H8 fun v H9 => k (some v) H9 else k none H8) → go J1 H4 σ2) →
      g x (wipe σ vs) H'' fun σ2 H2 => wipe σ2 vs = wipe σ vs ∧ tt σ2 H2 fun b H3 => if b = true then wi1 σ2 H3 fun J1 H4 => go J1 H4 σ2 else Nx H3)
    (hd : ∀ H', Same H1 H' → H' D = some (.lst (xs.flatMap fun a => ys.map (f a))) → Qd H') :
    ∃ W : Nat → Nat → Hp → Prop, (∃ m, W 0 m (upd H1 D (.lst []))) ∧ ∀ i m H, W i m H →
      (J.stop i H ∧ Qd H) ∨ (J.go i H ∧ ∃ Nx : Hp → Prop, (∀ H', Nx H' → ∃ m', m' < m ∧ W (i + 1) m' H') ∧ ∀ x H', J.yld i H x H' → g x (wipe σ vs) H' fun σ2 H2 => wipe σ2 vs = wipe σ vs ∧ tt σ2 H2 fun b H3 =>
        if b = true then wi1 σ2 H3 fun J1 H4 => ∃ W1 : Nat → Nat → Hp → Prop, (∃ m, W1 0 m H4) ∧ ∀ j k H, W1 j k H →
          (J1.stop j H ∧ Nx H) ∨ (J1.go j H ∧ ∃ Nx1 : Hp → Prop, (∀ H', Nx1 H' → ∃ k', k' < k ∧ W1 (j + 1) k' H') ∧ ∀ x H', J1.yld j H x H' → g1 x (wipe σ2 vs1) H' fun σ3 H5 => wipe σ3 vs1 = wipe σ2 vs1 ∧ tt1 σ3 H5 fun b H6 =>
            if b = true then te σ3 H6 fun y H7 => ∃ acc, H7 D = some (.lst acc) ∧ acc.length < sizeLine ∧ Nx1 (upd H7 D (.lst (acc ++ [y]))) else Nx1 H6)
        else Nx H3) := by
  refine ⟨fun i m H => i ≤ xs.length ∧ m = xs.length - i ∧ Same H1 H ∧ H D = some (.lst ((xs.take i).flatMap fun a => ys.map (f a))), ⟨_, Nat.zero_le _, rfl, same_new hD, by rw [upd_same]; rfl⟩, fun i m H ⟨hi, hm, sH, eD⟩ => ?_⟩
  by_cases h : i < xs.length
  rotate_left
  · have e : i = xs.length := by omega
    subst e
    rw [List.take_length] at eD
    exact .inl ⟨w.stops H (hG H sH), hd H sH eD⟩
  have ei : xs[i]? = some xs[i] := List.getElem?_eq_getElem h
  generalize xs[i] = a at ei
  refine .inr ⟨w.goes i H h (hG H sH), fun H' => Same H1 H' ∧ H' D = some (.lst ((xs.take (i + 1)).flatMap fun a => ys.map (f a))), fun H' ⟨s, e⟩ => ⟨_, (by omega : xs.length - (i + 1) < m), by omega, rfl, s, e⟩, fun x H' hy => ?_⟩
  have hy := w.yields i H x H' h (hG H sH) hy
  have sy := hY _ _ _ _ hy
  refine turn i a x H H' _ (fun J1 H4 σ2 => ∃ W1 : Nat → Nat → Hp → Prop, _) ei sH hy fun J1 H4 σ2 G1 Y1 s4 w1 hY1 hG1 t1 => ?_
  refine ⟨fun j k H => j ≤ ys.length ∧ k = ys.length - j ∧ (∀ b o, b ≠ D → H' b = some o → H b = some o) ∧ H D = some (.lst (((xs.take i).flatMap fun a => ys.map (f a)) ++ (ys.take j).map (f a))), ⟨_, Nat.zero_le _, rfl, fun b o _ e => s4 b o e, ?_⟩, fun j k H5 ⟨hj, hk, s5, e5⟩ => ?_⟩
  · rw [List.take_zero, List.map_nil, List.append_nil]
    exact s4 _ _ (sy _ _ eD)
  have s1 : Same H1 H5 := fun b o e => s5 b o (ne_of_none e hD) (sy _ _ (sH _ _ e))
  by_cases h' : j < ys.length
  rotate_left
  · have e : j = ys.length := by omega
    subst e
    refine .inl ⟨w1.stops H5 (hG1 H5 s1), s1, ?_⟩
    rw [e5, List.take_length, List.take_add_one, ei, List.flatMap_append]
    simp
  have ej : ys[j]? = some ys[j] := List.getElem?_eq_getElem h'
  generalize ys[j] = b at ej
  refine .inr ⟨w1.goes j H5 h' (hG1 H5 s1), NxL H' D (((xs.take i).flatMap fun a => ys.map (f a)) ++ (ys.take (j + 1)).map (f a)), fun H6 ⟨s, e⟩ => ⟨_, (by omega : ys.length - (j + 1) < k), by omega, rfl, s, e⟩, fun y H6 hy1 => ?_⟩
  have hy1 := w1.yields j H5 y H6 h' (hG1 H5 s1) hy1
  have s6 := hY1 _ _ _ _ hy1
  refine t1 j b y H5 H6 (fun o H9 => match o with
    | some v => ∃ acc, H9 D = some (.lst acc) ∧ acc.length < sizeLine ∧ NxL H' D (((xs.take i).flatMap fun a => ys.map (f a)) ++ (ys.take (j + 1)).map (f a)) (upd H9 D (.lst (acc ++ [v])))
    | none => NxL H' D (((xs.take i).flatMap fun a => ys.map (f a)) ++ (ys.take (j + 1)).map (f a)) H9) ej s1 hy1 fun H9 s9 => ?_
  have e9 := s9 _ _ (s6 _ _ e5)
  refine ⟨_, e9, ?_, fun c o n e => ?_, ?_⟩
  · rw [List.length_append, fm_len, List.length_map, List.length_take, List.length_take, sizeLine_eq]
    have h1 : min i xs.length = i := by omega
    have h2 : min j ys.length = j := by omega
    rw [h1, h2]
    have h3 : (i + 1) * ys.length ≤ xs.length * ys.length := Nat.mul_le_mul_right _ h
    rw [Nat.succ_mul] at h3
    omega
  · rw [upd_ne n]
    exact s9 _ _ (s6 _ _ (s5 c o n e))
  · rw [upd_same, List.take_add_one, ej, List.map_append, ← List.append_assoc]
    rfl
end
end L2
namespace L2
open PySem PySem.Spec PyProof.Rows PySem.GX
section
variable {X : Cx}
/-- name = {k: v for ..} on one line, the name a local -/
theorem ps_setDc {i : Nat} {y : Str} {py : Pos} {kx vx tg iter : Expr} {ifs : List Expr} {scope : Scope} {own : List (Str × Nat)} {pos spos : Pos} {wi : TI} {g : TG} {tt : TT} {tk tv : TE} (hc : X.calm = true) (hN : X.N.Nodup) (hy : X.N[i]? = some y) (hyl : X.env.scope.names.lookup y = some .local)
    (hsw : swapsWith (.DictComp kx vx [⟨tg, iter, ifs, 0⟩] scope pos) (some (.Name y py)) spos.line X.env = pure true) (hi : PI X tg iter wi) (ok : BlkOk X.N X.env.scope scope own)
    (hg : ∀ (s : Shared) (H : Hp) (C : Addr) (cl : List (Str × Addr)) (fp : List Addr), PG (X.blk s H scope (compEnvC scope cl C X.env) fp) tg g) (ht : ∀ (s : Shared) (H : Hp) (C : Addr) (cl : List (Str × Addr)) (fp : List Addr), PTs (X.blk s H scope (compEnvC scope cl C X.env) fp) ifs tt)
    (hk : ∀ (s : Shared) (H : Hp) (C : Addr) (cl : List (Str × Addr)) (fp : List Addr), PE (X.blk s H scope (compEnvC scope cl C X.env) fp) kx tk)
    (he : ∀ (s : Shared) (H : Hp) (C : Addr) (cl : List (Str × Addr)) (fp : List Addr), PE (X.blk s H scope (compEnvC scope cl C X.env) fp) vx tv) (hs : ∀ x, foldedSetIterable iter X.env x = pure x := by intro _; rfl) :
    PS X (.Assign [.Name y py] (.DictComp kx vx [⟨tg, iter, ifs, 0⟩] scope pos) spos) (tAsg (tDc wi g tt tk tv (own.map (·.2))) (gName i)) := by
  refine ⟨fun pins s σ H D I h => ?_⟩
  rw [exec_Assign_Name_used _ _ _ _ hsw]
  refine wpAny_bind (wpAny_standAt (wpAny_bind ?_))
  show wpAny _ X.A (do let _ ← comprehension (.DictComp kx vx [⟨tg, iter, ifs, 0⟩] scope pos) scope X.env (firstIterPos [⟨tg, iter, ifs, 0⟩] pos) newDict false (eval iter X.env) (some (assign (.Name y py) X.env))) _ _ s
  have h : tDc wi g tt tk tv (own.map (·.2)) σ H (fun x H1 => gName i x σ H1 D.nx) := h
  refine wpAny_bind (thn (dc_core (Qf := fun _ s' => SP X pins D .next s') hc hN I hi ok hg ht hk he hs h fun L C s' m H' I' q hn f => ?_) fun _ s' hq => wpAny_pure (wpAny_pure hq))
  show wpAny _ _ (assign (.Name y py) X.env (.ref L)) _ _ _
  refine wpAny_assign_Name (store_ok2 (v := V.ref L) I' hN hy (.inl hyl) rfl (fun s2 I2 ⟨a, sb, ha⟩ => ?_) (.inr hyl))
  obtain ⟨f0, f1, f2, f3, f4, f5⟩ := f
  have haC : C ≠ a := by
    rcases ha with z | z
    · rw [z]; exact f1
    · exact fun e => f4 y a z e.symm
  refine ⟨m, hn.sameBut sb haC, fun h3 sb3 => ?_⟩
  exact ⟨_, H', I2.turned (t' := s2.toks) (fun b o hb e => (sb3.2 b hb).trans e) f0 f1 f3 f4 f5, q⟩
theorem sw_trueD {kx vx : Expr} {gs : List Comprehension} {scope : Scope} {pos py : Pos} {y : Str} {l : Nat} {env : Env} (hk : env.scope.kind = .function) (hy : env.scope.names.lookup y = some .local) (hl : (py.line == pos.line) = true)
    (ha : (scope.names.any fun (n, k) => n == y && (k == .local || k == .cell)) = false) : swapsWith (.DictComp kx vx gs scope pos) (some (.Name y py)) l env = pure true := by
  have ky : env.kindOf y = some .local := hy
  have hb : env.blockKind = .function := by unfold Env.blockKind; rw [hk]; rfl
  unfold swapsWith
  simp only [hb, ky, ha, Expr.pos, hl]
  rfl
end
end L2
namespace L2
open PySem PySem.Spec PyProof.Rows PySem.GX
/-! enumerate(tuple) -/
set_option maxHeartbeats 4000000 in
theorem meets_enumerate_newG {v : Value} {o : Obj} {H : Heap → Prop} (B : Begins v o H) :
    Meets (Builtin.«enumerate.__new__» ⟨[.type "enumerate", v], []⟩) (fun _ R s => H s.heap ∧
      R (.ok (.ret (.ref (s.heap.push o).objs.size))) { s with heap := (s.heap.push o).push { cls := .type "enumerate", data := .fields #[.none, .bool false, .ref s.heap.objs.size, rawInt 0, .none, .none] } }) :=
  .of_wp fun prog w A R s h => by
    obtain ⟨hp, g, d, tk, os⟩ := s; obtain ⟨h1, h⟩ := h
    have hsub := sub_enumerate
    have q1 : ∀ {A' : Around} {E : Value → Shared → Prop} {Q : Value → Shared → Prop}, Q (.ref hp.objs.size) ⟨hp.push o, g, d, tk, os⟩ → wpAny (model prog w) A' (pyIter v) Q E ⟨hp, g, d, tk, os⟩ :=
      fun q => B.iter prog w _ _ ⟨hp, g, d, tk, os⟩ _ h1 q
    wp_walk using q1
    refine wpAny_stack_any fun st => wpAny_pure ?_
    split
    · rename_i c _ _ _ _ _
      cases (c == Value.type "enumerate")
      · wp_walk using q1
        exact ⟨_, rfl, h⟩
      · wp_walk using q1
        exact ⟨_, rfl, h⟩
    · wp_walk using q1
      exact ⟨_, rfl, h⟩
theorem call_enumerate_tuple {prog : Program} {w : World} {A : Around} {E : Value → Shared → Prop} {s : Shared} {l : Addr} {items : Array Value} {Q : Value → Shared → Prop} (hL : s.heap.IsTuple l items)
    (h : ∀ h', IsEnum h' (s.heap.objs.size + 1) s.heap.objs.size 0 .none → h'.IsTupleIter s.heap.objs.size l 0 → h'.objs.size = s.heap.objs.size + 2 →
      (∀ b o, s.heap.get? b = some o → h'.get? b = some o) → Q (.ref (s.heap.objs.size + 1)) { s with heap := h' }) :
    wpAny (model prog w) A (call (.type "enumerate") [.ref l]) Q E s := by
  refine callType_new F.called_enumerate (by decide) (F.typeCall_enumerate_1 _) (F.newCall_enumerate_1 _) (fun obj => F.args_object_init_2 obj _) F.entry_enumerate_new
    (meets_enumerate_newG (begins_tuple l items)) ⟨hL, ?_⟩
  have hz : (s.heap.push { cls := .type "tuple_iterator", data := .fields #[.ref l, .int 0 0] }).objs.size = s.heap.objs.size + 1 := Heap.size_push ..
  show _ ∧ _
  rw [hz]
  have he : IsEnum ((s.heap.push { cls := .type "tuple_iterator", data := .fields #[.ref l, .int 0 0] }).push
      { cls := .type "enumerate", data := .fields #[.none, .bool false, .ref s.heap.objs.size, rawInt 0, .none, .none] }) (s.heap.objs.size + 1) s.heap.objs.size 0 .none := by
    have := Heap.get?_push_size (s.heap.push { cls := .type "tuple_iterator", data := .fields #[.ref l, .int 0 0] })
      (o := { cls := .type "enumerate", data := .fields #[.none, .bool false, .ref s.heap.objs.size, rawInt 0, .none, .none] }) rfl
    rw [hz] at this; exact this
  refine ⟨⟨_, he, rfl⟩, h _ he ⟨_, Heap.get?_push_of_some _ (Heap.get?_push_size _ rfl), rfl, rfl⟩ (by rw [Heap.size_push, hz]) fun b o x => Heap.get?_push_of_some _ (Heap.get?_push_of_some _ x)⟩
theorem wpAny_pyNext_enum_endT {prog : Program} {w : World} {A : Around} {E : Value → Shared → Prop} {s : Shared} {e it l : Addr} {i : Nat} {items : Array Value} {old : Value} {Q : Option Value → Shared → Prop} (hh : A.handled = none)
    (he : IsEnum s.heap e it i old) (hit : s.heap.IsTupleIter it l i) (hl : s.heap.IsTuple l items) (hx : items[i]? = none)
    (hQ : ∀ h', Heap.ExtBut it s.heap h' → Q none { s with heap := h' }) : wpAny (model prog w) A (pyNext (.ref e)) Q E s := by
  have hT : s.TypeIs (.ref e) "enumerate" := ⟨_, he, rfl⟩
  unfold pyNext
  refine wpAny_bind (wpAny_attempt (wpAny_callSpecial?_slot (name := Str.ofString "__next__") hT F.slot_enumerate_next
    (wpAny_call_entry F.slot_enumerate_next hT F.entry_enumerate_next ?_ (F.args_enumerate_next_1 _))))
  show wpAny _ _ (field (.ref e) 2 >>= _) _ _ _
  refine wpAny_bind (wpAny_field he rfl (x := .ref it) rfl ?_)
  refine wpAny_bind (wpAny_nextOf_tuple_end hh hit hl hx fun h' x he' hx' => ?_)
  obtain ⟨o, ho, hc⟩ := hx'
  refine wpAny_bind (wpAny_isInstance (T := "StopIteration") (b := true) ⟨o, ho, hc⟩ isSubtype_stop ?_)
  exact wpAny_pure (hQ _ he')
/-- the tuple at a, each item in a new pair -/
def IteT (K : PySem.W.Frag) (a : Addr) : It :=
  ⟨fun i H => ∃ (xs : List V) (x : V), SqT K H a xs ∧ xs[i]? = some x, fun i H v H' => ∃ T x, v = .ref T ∧ H T = none ∧ H' = upd H T (.tup [.int (i : Nat), x]) ∧ ∀ xs, SqT K H a xs → xs[i]? = some x, fun i H => ∃ xs : List V, SqT K H a xs ∧ xs.length ≤ i⟩
theorem turn_enumT {P : Program} {w : World} {K : PySem.W.Frag} {elts : List Expr} {kk : Nat} {tpos : Pos} (a e it : Addr) :
    Turn P w K (.Tuple elts kk tpos) (IteT K a) [e, it] e (fun i h => (∃ old, IsEnum h e it ((i : Nat) : Int) old) ∧ h.IsTupleIter it a i ∧ e ≠ it ∧ a ≠ it ∧ e ≠ a) where
  mem := by simp
  obj := fun i h st b hb => by
    obtain ⟨⟨old, he⟩, ⟨o, ho, hc, hd⟩, _⟩ := st
    have e' : b = e ∨ b = it := by simpa using hb
    rcases e' with z | z
    · rw [z]; exact ⟨_, he, fun v q => nomatch q⟩
    · rw [z]; exact ⟨o, ho, fun v q => by rw [hd] at q; cases q⟩
  keep := fun i h h' st k => let ⟨⟨old, he⟩, hi, hne⟩ := st; ⟨⟨old, k e (by simp) _ he⟩, hi.at fun o q => k it (by simp) o q, hne⟩
  item := by
    intro X hP hw hK hc i pins s σ H E I hf st hg
    subst hP hw hK
    obtain ⟨⟨old, he⟩, hit, hne, hai, hea⟩ := st
    obtain ⟨xs, x, hq, hx⟩ := hg
    obtain ⟨its, rv, p, hz⟩ := I.tuple hq
    obtain ⟨u, hu, ru⟩ := rv.get hx
    have hel : e < s.heap.objs.size := Heap.lt_size he
    have hil : it < s.heap.objs.size := by obtain ⟨_, q, _⟩ := hit; exact Heap.lt_size q
    have hlen : i < its.toArray.size := by
      have : i < its.length := (List.getElem?_eq_some_iff.mp hu).1
      simpa using this
    refine wpAny_pyNext_enum_itemD (Draws.tuple (A := X.A.in1) (by show X.A.handled = none; exact I.ok.hd hc) it a hai its.toArray) he ⟨hit, p⟩ hlen hne (by simp [hne, hea]) fun x' h' tk hx' ho hit' hT hsz hk => ?_
    have ex' : x' = u := by
      have h2 : its.toArray[i]? = some u := by simpa using hu
      exact Option.some.inj (hx'.symm.trans h2)
    subst ex'
    refine ⟨_, rfl, wpAny_letOwnedTupleGo_enum (s := { s with heap := h', toks := tk + 1 }) ho fun h'' he' sb => ?_⟩
    have hT2 : h''.get? s.heap.objs.size = some { cls := .type "tuple", data := .seq #[.int i tk, x'] } := (sb.2 _ (Nat.ne_of_gt hel)).trans hT
    have new : ObjOk X.prog X.w (upd H s.heap.objs.size (.tup [.int (i : Nat), x])) h'' s.heap.objs.size (.tup [.int (i : Nat), x]) :=
      ⟨by show 2 ≤ sizeLine; decide, [.int i tk, x'], .cons ⟨_, rfl⟩ (.cons ru .nil), ⟨_, hT2, rfl, _, rfl⟩⟩
    have I1 : Inv X pins σ (upd H s.heap.objs.size (.tup [.int (i : Nat), x])) { s with heap := h'', toks := tk + 1 } :=
      I.turnedNew (ch := [e, it]) (fun b ob hb q => (sb.2 b (fun z => hb (by simp [z]))).trans (hk b ob (fun z => hb (by simp [z])) (fun z => hb (by simp [z])) q)) hf (Nat.le_refl _) new
    refine ⟨.ref s.heap.objs.size, _, I1, rfl, ⟨_, x, rfl, I.hok.fresh (Nat.le_refl _), rfl, fun ys hy => by rw [I.tuple_inj hy hq]; exact hx⟩, ⟨⟨x', ?_⟩, hit'.1.at fun o q => (sb.2 it (Ne.symm hne)).trans q, hne, hai, hea⟩, fun b hb => ?_⟩
    · have e1 : ((i + 1 : Nat) : Int) = (i : Int) + 1 := by omega
      rw [e1]; exact he'
    · have hb' : b < s.heap.objs.size := by
        have e' : b = e ∨ b = it := by simpa using hb
        rcases e' with z | z
        · rw [z]; exact hel
        · rw [z]; exact hil
      rw [upd_ne (Nat.ne_of_lt hb')]
      exact (hf b hb).1
  done := by
    intro X hP hw hK hc i pins s σ H E I hf st hg
    subst hP hw hK
    obtain ⟨⟨old, he⟩, hit, hne, hai, hea⟩ := st
    obtain ⟨xs, hq, hx⟩ := hg
    obtain ⟨its, rv, p, hz⟩ := I.tuple hq
    obtain ⟨f0, f1, f2, f3, f4, f5⟩ := hf it (by simp)
    have hl := rv.length
    refine wpAny_pyNext_enum_endT (I.ok.hd hc) he hit p (by simp; omega) fun h' eb => ⟨rfl, I.turned (t' := s.toks) (fun b o hb q => eb b o hb q) f0 f1 f3 f4 f5⟩
  self := fun A i s Q E st h => let ⟨⟨_, he⟩, _⟩ := st; wpAny_pyIter_enum he h
def iEnumT (K : PySem.W.Frag) (ta : TA) : TI := fun σ H R => ta σ H fun vs H1 => ∃ a xs, vs = [.ref a] ∧ SqT K H1 a xs ∧ R (IteT K a) H1
theorem pi_enumT {X : Cx} {e : Expr} {ta : TA} {p pos tpos : Pos} {elts : List Expr} {kk : Nat} (hg : Gl X "enumerate") (hm : X.mg "enumerate" = none) (ha : PA X [e] ta) (hs : starEach [e] X.env = [(false, eval e X.env)] := by rfl) :
    PI X (.Tuple elts kk tpos) (.Call (.Name "enumerate" p) [e] [] pos) (iEnumT X.K ta) := by
  refine ⟨fun pins s σ H R I h => ?_⟩
  refine Call_ (ld_blt I hg hm boot_enumerate (PyProof.Rows.callWith_type1 (thn (ha.run pos pins s σ H _ I h) fun us s1 ⟨vs, H1, I1, r1, q1⟩ => ?_) hs rfl))
  obtain ⟨a, xs, ex, hq, q⟩ := q1
  subst ex
  cases r1 with
  | cons r rr =>
    cases rr
    cases r
    obtain ⟨its, rv, p', hz⟩ := I1.tuple hq
    have hla : a < s1.heap.objs.size := by
      obtain ⟨o, ho, _⟩ := id p'
      exact Heap.lt_size ho
    refine call_enumerate_tuple p' fun h' he hit hsz hk => wpAny_pyIter_enum he ?_
    have I2 : Inv X pins σ H1 { s1 with heap := h' } := I1.kept (t' := s1.toks) hk
    refine ⟨s1.heap.objs.size + 1, [s1.heap.objs.size + 1, s1.heap.objs.size], _, _, H1, rfl, I2, turn_enumT a (s1.heap.objs.size + 1) s1.heap.objs.size, ⟨⟨.none, he⟩, hit, Nat.succ_ne_self _, Nat.ne_of_lt hla, (Nat.ne_of_lt (Nat.lt_succ_of_lt hla)).symm⟩, fun b hb => ?_, q⟩
    have e' : b = s1.heap.objs.size + 1 ∨ b = s1.heap.objs.size := by simpa using hb
    have hle : s1.heap.objs.size ≤ b := by
      rcases e' with z | z
      · rw [z]; exact Nat.le_add_right _ _
      · rw [z]; exact Nat.le_refl _
    exact I1.fpOk hle (I1.hok.fresh hle)
/-- its walk -/
theorem walk_enumT {K : PySem.W.Frag} {a : Addr} {xs : List V} : Walk (IteT K a) xs.length (fun H => SqT K H a xs) (fun i H v H' => ∃ T x, v = .ref T ∧ H T = none ∧ H' = upd H T (.tup [.int (i : Nat), x]) ∧ xs[i]? = some x) where
  goes := fun i H h g => ⟨xs, xs[i], g, List.getElem?_eq_getElem h⟩
  stops := fun H g => ⟨xs, g, Nat.le_refl _⟩
  yields := fun i H x H' h g ⟨T, y, a, b, c, d⟩ => ⟨T, y, a, b, c, d xs g⟩
end L2
namespace My
open PySem PySem.Spec PyProof.Rows L2 PySem.GX L2H LamX
/-! rules under names -/
/-- the property x of the class tells the field y -/
def PrF (P : Program) (w : World) (K : PySem.W.Frag) (mg : Str → Option Value) (base : Heap) (C : Addr) (x y : Str) : Prop := ∃ (p g : Addr) (fd : FuncData), PropOf K C x p g ∧ FnOk P w K mg base CX0 1 g fd ["self"] (getSp C y) ∧ Binds K fd ["self"] []
/-- a name, the text of its rule, where the rule stands -/
abbrev Ent := Str × Str × Addr
def entD (f : Ent → V) (T : List Ent) : List (Key × V) := T.map fun z => ((Sum.inr z.1 : Key), f z)
abbrev deskD (T : List Ent) : List (Key × V) := entD (fun z => .ref z.2.2) T
abbrev lawD (T : List Ent) : List (Key × V) := entD (fun z => .str z.2.1) T
def hasT (T : List Ent) (k : Str) : Bool := T.any fun z => decide (z.1 = k)
def putT (T : List Ent) (e : Ent) : List Ent := if hasT T e.1 = true then T.map (fun z => if z.1 = e.1 then e else z) else T ++ [e]
def dropT (T : List Ent) (k : Str) : List Ent := T.filter fun z => decide (z.1 ≠ k)
theorem inr_iff (a b : Str) : ((Sum.inr a : Key) = Sum.inr b) ↔ a = b := ⟨fun h => by injection h, fun h => by rw [h]⟩
theorem any_ent (f : Ent → V) (k : Str) : ∀ T : List Ent, ((entD f T).any fun kv => decide (kv.1 = Sum.inr k)) = hasT T k
  | [] => rfl
  | z :: T => by
    have ih := any_ent f k T
    unfold entD hasT at ih ⊢
    rw [List.map_cons, List.any_cons, List.any_cons, ih]
    congr 1
    rw [Bool.eq_iff_iff, decide_eq_true_eq, decide_eq_true_eq]
    exact inr_iff _ _
theorem put_ent (f : Ent → V) (T : List Ent) (e : Ent) : putK (entD f T) (Sum.inr e.1) (f e) = entD f (putT T e) := by
  unfold putK putT
  rw [any_ent]
  by_cases h : hasT T e.1 = true
  · rw [if_pos h, if_pos h]
    unfold entD
    rw [List.map_map, List.map_map]
    refine List.map_congr_left fun z _ => ?_
    show (if (Sum.inr z.1 : Key) = Sum.inr e.1 then ((Sum.inr z.1 : Key), f e) else ((Sum.inr z.1 : Key), f z)) = ((Sum.inr (if z.1 = e.1 then e else z).1 : Key), f (if z.1 = e.1 then e else z))
    by_cases q : z.1 = e.1
    · rw [if_pos ((inr_iff _ _).mpr q), if_pos q, q]
    · rw [if_neg fun w => q ((inr_iff _ _).mp w), if_neg q]
  · rw [if_neg h, if_neg h]
    unfold entD
    rw [List.map_append]
    rfl
theorem drop_ent (f : Ent → V) (k : Str) : ∀ T : List Ent, dropK (entD f T) (Sum.inr k) = entD f (dropT T k)
  | [] => rfl
  | z :: T => by
    have ih := drop_ent f k T
    unfold dropK entD dropT at ih ⊢
    rw [List.map_cons]
    by_cases q : z.1 = k
    · rw [List.filter_cons_of_neg (by simp [inr_iff, q]), List.filter_cons_of_neg (by simp [q])]
      exact ih
    · rw [List.filter_cons_of_pos (by simp [inr_iff, q]), List.filter_cons_of_pos (by simp [q]), List.map_cons, ih]
theorem val_none (f : Ent → V) (T : List Ent) (k : Str) : (valV (entD f T) (Sum.inr k)).isSome = hasT T k := by
  rw [← valV_any, any_ent]
theorem val_ent (f : Ent → V) : ∀ (T : List Ent), (T.map (·.1)).Nodup → ∀ z ∈ T, valV (entD f T) (Sum.inr z.1) = some (f z)
  | [], _, z, h => by cases h
  | y :: T, nd, z, h => by
    rw [List.map_cons, List.nodup_cons] at nd
    unfold entD
    rw [List.map_cons]
    rcases List.mem_cons.mp h with rfl | h
    · exact valV_pos rfl
    · have ne : ¬ y.1 = z.1 := fun e => nd.1 (e ▸ List.mem_map.mpr ⟨z, h, rfl⟩)
      rw [valV_neg fun e => ne ((inr_iff _ _).mp e)]
      exact val_ent f T nd.2 z h
theorem hasT_iff {T : List Ent} {k : Str} : hasT T k = true ↔ ∃ z ∈ T, z.1 = k := by
  unfold hasT
  rw [List.any_eq_true]
  exact ⟨fun ⟨z, h, e⟩ => ⟨z, h, of_decide_eq_true e⟩, fun ⟨z, h, e⟩ => ⟨z, h, decide_eq_true e⟩⟩
theorem ent_len (f : Ent → V) (T : List Ent) : (entD f T).length = T.length := List.length_map _
theorem put_len (T : List Ent) (e : Ent) : (putT T e).length ≤ T.length + 1 := by
  unfold putT
  split
  · rw [List.length_map]; omega
  · rw [List.length_append]; exact Nat.le_refl _
theorem mem_put {T : List Ent} {e z : Ent} (h : z ∈ putT T e) : z ∈ T ∨ z = e := by
  unfold putT at h
  split at h
  · obtain ⟨y, hy, rfl⟩ := List.mem_map.mp h
    split
    · exact .inr rfl
    · exact .inl hy
  · rcases List.mem_append.mp h with h | h
    · exact .inl h
    · exact .inr (List.mem_singleton.mp h)
/-- names that differ and are words -/
structure TOk (T : List Ent) : Prop where
  nd : (T.map (·.1)).Nodup
  wd : ∀ z ∈ T, isWordL z.1 = true
theorem put_names {T : List Ent} {e : Ent} (h : hasT T e.1 = true) : (putT T e).map (·.1) = T.map (·.1) := by
  unfold putT
  rw [if_pos h, List.map_map]
  refine List.map_congr_left fun z _ => ?_
  show (if z.1 = e.1 then e else z).1 = z.1
  split
  · rename_i q; exact q.symm
  · rfl
theorem TOk.put {T : List Ent} (h : TOk T) {e : Ent} (he : isWordL e.1 = true) : TOk (putT T e) := by
  refine ⟨?_, fun z hz => ?_⟩
  · by_cases q : hasT T e.1 = true
    · rw [put_names q]
      exact h.nd
    · unfold putT
      rw [if_neg q, List.map_append, List.nodup_append]
      refine ⟨h.nd, by simp, fun x hx y hy e' => ?_⟩
      obtain ⟨z, hz, rfl⟩ := List.mem_map.mp hx
      have : y = e.1 := by simpa using hy
      exact q (hasT_iff.mpr ⟨z, hz, e'.trans this⟩)
  · rcases mem_put hz with hz | rfl
    · exact h.wd z hz
    · exact he
theorem TOk.drop {T : List Ent} (h : TOk T) (k : Str) : TOk (dropT T k) :=
  ⟨h.nd.sublist (List.filter_sublist.map _), fun z hz => h.wd z (List.mem_filter.mp hz).1⟩
/-- a text that tells a rule -/
structure TxOk (t : Str) (p : Parts) : Prop where
  len : t.length ≤ 1000000
  ok : PyData.strOk t = true
  pr : parseL t = some p
def RulesH (H : Hp) (CU : Addr) (T : List Ent) : Prop := ∀ z ∈ T, ∃ p, RuleAt H CU z.2.2 z.2.1 p ∧ TxOk z.2.1 p
abbrev stFs (d sd : Addr) (e : V) (n : Nat) : List (Str × V) := [("held", .ref d), ("said", .ref sd), ("earlier", e), ("depth", .int (n : Int))]
/-- a desk stands at q; its dict is none of those -/
def DeskH (H : Hp) (CD CS CU q : Addr) (T : List Ent) (n : Nat) (ms : List Addr) : Prop := ∃ dx dx' st d sd e, H q = some (.ins CD dx [("state", .ref st)]) ∧ H st = some (.ins CS dx' (stFs d sd e n)) ∧ H d = some (.dK (deskD T)) ∧ H sd = some (.tup []) ∧ RulesH H CU T ∧ ∀ m ∈ ms, d ≠ m
/-- all but these stay -/
def Fr (S : List Addr) (H H' : Hp) : Prop := ∀ b o, (∀ a ∈ S, b ≠ a) → H b = some o → H' b = some o
theorem Fr.of {S : List Addr} {H H' : Hp} (s : Same H H') : Fr S H H' := fun b o _ e => s b o e
theorem Fr.refl {S : List Addr} {H : Hp} : Fr S H H := fun _ _ _ e => e
theorem Fr.trans {S : List Addr} {H H' H'' : Hp} (a : Fr S H H') (b : Fr S H' H'') : Fr S H H'' := fun c o n e => b c o n (a c o n e)
theorem Fr.sb {S : List Addr} {H H' : Hp} {p : Addr} (s : Sb p H H') (h : p ∈ S) : Fr S H H' := fun b o n e => s b o (n p h) e
theorem RuleAt.fr {S : List Addr} {H H' : Hp} {C a : Addr} {t : Str} {p : Parts} (h : RuleAt H C a t p) (s : Fr S H H') (hS : ∀ b ∈ S, (∃ ns : List Int, H b = some (.lst (ns.map V.int))) ∨ (∃ C' dx st, H b = some (.ins C' dx [("state", .ref st)])) ∨ ∃ kvs, H b = some (.dK kvs)) : RuleAt H' C a t p := by
  obtain ⟨dx, M, G, D, e1, e2, e3, e4⟩ := h
  have go : ∀ {b o}, H b = some o → (∀ ns : List Int, o ≠ .lst (ns.map V.int)) → (∀ C' dx st, o ≠ .ins C' dx [("state", .ref st)]) → (∀ kvs, o ≠ .dK kvs) → H' b = some o := fun {b o} e n1 n2 n3 => s b o (fun a ha z => by
    subst z
    rcases hS b ha with ⟨ns, h⟩ | ⟨C', dx', st, h⟩ | ⟨kvs, h⟩
    · exact n1 ns (Option.some.inj (e.symm.trans h))
    · exact n2 C' dx' st (Option.some.inj (e.symm.trans h))
    · exact n3 kvs (Option.some.inj (e.symm.trans h))) e
  refine ⟨dx, M, G, D, go e1 (fun _ z => by cases z) (fun _ _ _ z => by cases z) (fun _ z => by cases z), go e2 (fun _ z => by cases z) (fun _ _ _ z => by cases z) (fun _ z => by cases z), go e3 (fun _ z => by cases z) (fun _ _ _ z => by cases z) (fun _ z => by cases z), go e4 (fun _ z => by cases z) (fun _ _ _ z => by cases z) (fun _ z => by cases z)⟩
end My
namespace My
open PySem PySem.Spec PyProof.Rows L2 PySem.GX L2H LamX
def spInB (K : PySem.W.Frag) : Sp := fun vs H Q _ => ∃ (v : V) (d : PyData) (lo hi : Int), vs = [v, .int lo, .int hi] ∧ Sh K H v d ∧ Q (.bl (inb d lo hi)) H
section
variable {P : Program} {w : World} {K : PySem.W.Frag} {mg : Str → Option Value} {base : Heap}
theorem scInB : FnScope ["value", "low", "high"] ["value", "low", "high"] (defScope sBounds) := ⟨rfl, rfl, rfl, by decide +kernel, rfl, by decide +kernel, by decide +kernel⟩
theorem ok_inb {f : Addr} {fd : FuncData} (F : Fun K "in_bounds" "in_bounds" sBounds f fd) (hIs : mg "isinstance" = none) (hI : mg "int" = none) (hB : mg "bool" = none) : FnOk P w K mg base CX0 1 f fd ["value", "low", "high"] (spInB K) := by
  refine F.ok scInB (fun vs H Q E h => ?_) (fun cdv A outer s H vs Q E hr h => ?_)
  · obtain ⟨v, d, lo, hi, rfl, _⟩ := h
    rfl
  · obtain ⟨v, d, lo, hi, rfl, hd, k⟩ := h
    refine ⟨_, pss_one (ps_ret (pe_and (pe_callB call_isi (by rfl) hIs (by decide +kernel) (pa_cons (pv 0) (pa_cons (pe_bltn (v := .ty "int") (by rfl) hI (by decide +kernel) rfl) pa_nil)))
        (pe_and (pe_not (pe_callB call_isi (by rfl) hIs (by decide +kernel) (pa_cons (pv 0) (pa_cons (pe_bltn (v := .ty "bool") (by rfl) hB (by decide +kernel) rfl) pa_nil))))
        (pe_one (pe_chain op_le op_le (pv 1) (pv 0) (pv 2)))))), ?_⟩
    obtain ⟨ty, hty, k1, k2, _⟩ := sh_kit hd
    refine ⟨_, rfl, v, .ty "int", ty, .type "int", isI d, rfl, .ty _, hty, k1, _, rfl, ite2 (fun c1 => ?_) (fun c1 => ?_)⟩
    · refine ⟨_, rfl, v, .ty "bool", ty, .type "bool", isB d, rfl, .ty _, hty, k2, _, rfl, _, rfl, ite2 (fun c2 => ?_) (fun c2 => ?_)⟩
      · match d, hd, c1, c2, k with
        | .int i, hd, _, _, k =>
          obtain rfl := sh_int hd
          refine ⟨_, rfl, _, rfl, _, _, rfl, rfl, _, rfl, ite2 (fun c3 => ⟨_, rfl, _, _, rfl, rfl, ?_⟩) (fun c3 => ?_)⟩
          · have e : inb (.int i) lo hi = decide (i ≤ hi) := by
              show (decide (lo ≤ i) && decide (i ≤ hi)) = _
              rw [c3, Bool.true_and]
            rw [e] at k
            exact k
          · have e : inb (.int i) lo hi = false := by
              show (decide (lo ≤ i) && decide (i ≤ hi)) = _
              rw [Bool.eq_false_iff.mpr c3, Bool.false_and]
            rw [e] at k
            exact k
      · have e : inb d lo hi = false := by
          match d, c2 with
          | .bool b, _ => rfl
          | .int i, c2 => exact absurd rfl c2
          | .none, _ => rfl
          | .str _, _ => rfl
          | .list _, _ => rfl
          | .tuple _, _ => rfl
          | .dict _, _ => rfl
        rw [e] at k
        exact k
    · have e : inb d lo hi = false := by
        match d, c1 with
        | .int i, c1 => exact absurd rfl c1
        | .bool b, _ => rfl
        | .none, _ => rfl
        | .str _, _ => rfl
        | .list _, _ => rfl
        | .tuple _, _ => rfl
        | .dict _, _ => rfl
      rw [e] at k
      exact k
end
end My
namespace My
open PySem PySem.Spec PyProof.Rows L2 PySem.GX L2H LamX
theorem if_true_of {c : Bool} {A B : Prop} (hc : c = true) (h : A) : if c = true then A else B := by
  rw [if_pos hc]
  exact h
/-! wishes about rows -/
def goodRowL (p : Parts) (r : Str) : Bool := madeL r p.sg && decide (moodL p r ∈ p.gs)
def wishL (p : Parts) (w r : Str) : Bool := decide (goodRowL p r = decide (w = "good"))
def RowW (w : Str) : Prop := w = "good" ∨ w = "bad"
/-- letters alone, not too long -/
def LinL (r : Str) : Prop := r.length ≤ 1000 ∧ madeL r abc = true
theorem LinL.row {r : Str} (h : LinL r) : isRowL abc r = true := by
  unfold isRowL
  rw [Bool.and_eq_true_iff]
  refine ⟨decide_eq_true h.1, ?_⟩
  have := h.2
  rw [made_all] at this
  exact this
theorem row_made {p : Parts} {r : Str} (hl : r.length ≤ 1000) (h : madeL r p.sg = true) : isRowL p.sg r = true := by
  unfold isRowL
  rw [Bool.and_eq_true_iff]
  refine ⟨decide_eq_true hl, ?_⟩
  rw [made_all] at h
  exact h
def spGoodRow (C : Addr) : Sp := fun vs H Q _ => ∃ (a : Addr) (r t : Str) (p : Parts), vs = [.ref a, .str r] ∧ RuleAt H C a t p ∧ PartsOk p ∧ r.length ≤ 1000 ∧ ∀ H', Same H H' → Q (.bl (goodRowL p r)) H'
def spHoldsR (C : Addr) : Sp := fun vs H Q _ => ∃ (a c : Addr) (w r t : Str) (p : Parts), vs = [.ref a, .ref c] ∧ RuleAt H C a t p ∧ PartsOk p ∧ H c = some (.tup [.str w, .str r]) ∧ RowW w ∧ r.length ≤ 1000 ∧ ∀ H', Same H H' → Q (.bl (wishL p w r)) H'
def spEvidR : Sp := fun vs H Q _ => ∃ (a : V) (c : Addr) (w r : Str), vs = [a, .ref c] ∧ H c = some (.tup [.str w, .str r]) ∧ RowW w ∧ ∀ H', Same H H' → Q .non H'
def spIsWishR : Sp := fun vs H Q _ => ∃ (c : Addr) (k : V) (w r : Str), vs = [.ref c, k] ∧ H c = some (.tup [.str w, .str r]) ∧ RowW w ∧ LinL r ∧ ∀ H', Same H H' → Q (.bl true) H'
section
variable {P : Program} {w : World} {K : PySem.W.Frag} {mg : Str → Option Value} {base : Heap}
theorem scGoodRow : FnScope ["rule", "row"] ["rule", "row"] (defScope sGoodRow) := ⟨rfl, rfl, rfl, by decide +kernel, rfl, by decide +kernel, by decide +kernel⟩
theorem ok_goodRow {f C : Addr} {fd : FuncData} (F : Fun K "is_good_row" "is_good_row" sGoodRow f fd) (T : RuC K C) (hO : Hv P w K mg base 1 "made_of" ["text", "letters"] spMade) (pS : PrF P w K mg base C "signs" "letters") (hH : HvM P w K mg base 4 C "has" ["self", "row"] (spHas C)) : FnOk P w K mg base CX0 5 f fd ["rule", "row"] (spGoodRow C) := by
  obtain ⟨pp, gp, fdp, PP, GP, bP⟩ := pS
  refine F.ok scGoodRow (fun vs H Q E h => ?_) (fun cdv A outer s H vs Q E hr h => ?_)
  · obtain ⟨a, r, t, p, rfl, _⟩ := h
    rfl
  · obtain ⟨a, r, t, p, rfl, hA, ok, hl, k⟩ := h
    have hr1 := hr.mono (by decide : 1 ≤ 4)
    have hr2 := hr.mono (by decide : 2 ≤ 4)
    refine ⟨_, pss_one (ps_ret (pe_and (pe_cl hO hr1 rfl pass0 (pa_cons (pv 1) (pa_cons (pe_prop (pv 0) T.cl PP GP hr2 bP .nil pass0 (by rfl)) pa_nil))) (pe_one (pe_mt hH (pv 0) T.cl hr pass0 (pa_cons (pv 1) pa_nil))))), ?_⟩
    obtain ⟨dx, M, G, D, e1, e2, e3, e4⟩ := id hA
    refine ⟨_, rfl, _, rfl, a, dx, _, rfl, e1, a, dx, _, .str p.sg, rfl, e1, rfl, r, p.sg, rfl, by omega, fun H1 s1 => ⟨_, rfl, ite2 (fun c => ?_) (fun c => ?_)⟩⟩
    · refine ⟨_, rfl, a, dx, _, rfl, s1 _ _ e1, rfl, _, rfl, a, r, t, p, rfl, hA.same s1, ok, row_made hl c, fun H2 s2 => ?_⟩
      unfold goodRowL at k
      rw [c, Bool.true_and] at k
      exact k _ (s1.trans s2)
    · have c' : madeL r p.sg = false := by simpa using c
      unfold goodRowL at k
      rw [c', Bool.false_and] at k
      exact k _ s1
abbrev nHolds : List Str := ["rule", "wish", "word", "rest"]
theorem scHolds : FnScope nHolds ["rule", "wish"] (defScope sHoldsW) := ⟨rfl, rfl, rfl, by decide +kernel, rfl, by decide +kernel, by decide +kernel⟩
theorem rw_kept {w : Str} (h : RowW w) : decide (V.str w = V.str "kept") = false := by rcases h with rfl | rfl <;> decide +kernel
theorem rw_never {w : Str} (h : RowW w) : decide (V.str w = V.str "never") = false := by rcases h with rfl | rfl <;> decide +kernel
theorem wish_eq {b : Bool} {w : Str} : decide (V.bl b = V.bl (decide (V.str w = V.str "good"))) = decide (b = decide (w = "good")) := by
  have e : decide (V.str w = V.str "good") = decide (w = "good") := by
    rw [Bool.eq_iff_iff, decide_eq_true_eq, decide_eq_true_eq]
    exact ⟨fun h => by injection h, fun h => by rw [h]⟩
  rw [e, Bool.eq_iff_iff, decide_eq_true_eq, decide_eq_true_eq]
  exact ⟨fun h => by injection h, fun h => by rw [h]⟩
theorem ok_holdsR {f C : Addr} {fd : FuncData} (F : Fun K "holds" "holds" sHoldsW f fd) (hG : Hv P w K mg base 5 "is_good_row" ["rule", "row"] (spGoodRow C)) : FnOk P w K mg base CX0 6 f fd ["rule", "wish"] (spHoldsR C) := by
  refine F.ok scHolds (fun vs H Q E h => ?_) (fun cdv A outer s H vs Q E hr h => ?_)
  · obtain ⟨a, c, w, r, t, p, rfl, _⟩ := h
    rfl
  · obtain ⟨a, c, w, r, t, p, rfl, hA, ok, ec, hw, hl, k⟩ := h
    refine ⟨_, pss_cons (ps_asg (pv 1) (pg_star (n := 2) (i := 1) rfl (pgs_cons (pg_name (i := 2) scHolds.nd rfl (Or.inl rfl)) (pgs_star (pg_name (i := 3) scHolds.nd rfl (Or.inl rfl)) pgs_nil))))
      (pss_cons (ps_if (pt_cmpR op_eq (pv 2) pe_str (nomark _)) (pss_one ps_never) pss_nil)
      (pss_cons (ps_if (pt_cmpR op_eq (pv 2) pe_str (nomark _)) (pss_one ps_never) pss_nil)
      (pss_one (ps_ret (pe_cmpR op_eq (pe_cl hG hr rfl pass0 (pa_cons (pv 0) (pa_cons (pe_ix ix_list (pv 3) pe_int (fun _ _ => rfl)) pa_nil))) (pe_cmpR op_eq (pv 2) pe_str (nomark _)) (nomark _)))))), ?_⟩
    refine ⟨_, rfl, c, [.str w, .str r], rfl, SqT.of ec, by show 1 < 2; decide, by show 2 ≤ 3; decide, by show 2 ≤ 16384; decide, fun Dl hD => ⟨_, _, rfl, _, _, rfl, rfl, ?_⟩⟩
    have s1 := same_new (o := .lst [.str r]) hD
    refine ⟨_, rfl, rfl, _, rfl, if_false_of (rw_kept hw) ⟨_, rfl, rfl, _, rfl, if_false_of (rw_never hw) ?_⟩⟩
    refine ⟨_, rfl, _, rfl, Dl, _, _, V.str r, rfl, rfl, SqL.of upd_same, atI_nat (j := 0) rfl, a, r, t, p, rfl, hA.same s1, ok, hl, fun H2 s2 => ⟨_, rfl, rfl, rfl, ?_⟩⟩
    have y := k _ (s1.trans s2)
    unfold wishL at y
    rw [← wish_eq] at y
    exact y
theorem scEvid : FnScope ["rule", "wish", "word", "rest", "kind", "number"] ["rule", "wish"] (defScope sEvid) := ⟨rfl, rfl, rfl, by decide +kernel, rfl, by decide +kernel, by decide +kernel⟩
theorem ok_evidR {f : Addr} {fd : FuncData} (F : Fun K "evidence" "evidence" sEvid f fd) : FnOk P w K mg base CX0 1 f fd ["rule", "wish"] spEvidR := by
  refine F.ok scEvid (fun vs H Q E h => ?_) (fun cdv A outer s H vs Q E hr h => ?_)
  · obtain ⟨a, c, w, r, rfl, _⟩ := h
    rfl
  · obtain ⟨a, c, w, r, rfl, ec, hw, k⟩ := h
    refine ⟨_, pss_cons (ps_asg (pv 1) (pg_star (n := 2) (i := 1) rfl (pgs_cons (pg_name (i := 2) scEvid.nd rfl (Or.inl rfl)) (pgs_star (pg_name (i := 3) scEvid.nd rfl (Or.inl rfl)) pgs_nil))))
      (pss_cons (ps_if (pt_cmpR op_eq (pv 2) pe_str (nomark _)) (pss_one ps_never) pss_nil)
      (pss_cons (ps_if (pt_cmpR op_ne (pv 2) pe_str (nomark _)) (pss_one (ps_ret pe_non)) pss_nil)
      (pss_cons ps_never (pss_cons ps_never (pss_one ps_never))))), ?_⟩
    refine ⟨_, rfl, c, [.str w, .str r], rfl, SqT.of ec, by show 1 < 2; decide, by show 2 ≤ 3; decide, by show 2 ≤ 16384; decide, fun Dl hD => ⟨_, _, rfl, _, _, rfl, rfl, ?_⟩⟩
    have s1 := same_new (o := .lst [.str r]) hD
    refine ⟨_, rfl, rfl, _, rfl, if_false_of (rw_never hw) ⟨_, rfl, rfl, _, rfl, if_true_of (by rw [rw_kept hw]; rfl) (k _ s1)⟩⟩
theorem scIsWish : FnScope ["value", "kinds", "word", "rest"] ["value", "kinds"] (defScope sIsWish) := ⟨rfl, rfl, rfl, by decide +kernel, rfl, by decide +kernel, by decide +kernel⟩
theorem rw_in {w : Str} (h : RowW w) : inV (.str w) [.str "good", .str "bad"] = true := by rcases h with rfl | rfl <;> decide +kernel
theorem ok_isWishR {f : Addr} {fd : FuncData} {tA : Tok} (F : Fun K "is_wish" "is_wish" sIsWish f fd) (hR : Hv P w K mg base 2 "is_row_of" ["value", "letters"] spRow) (hA : mg "LETTERS" = some (.str abc tA)) (hIs : mg "isinstance" = none) (hSt : mg "str" = none) (hTu : mg "tuple" = none) (hL : mg "len" = none) : FnOk P w K mg base CX0 3 f fd ["value", "kinds"] spIsWishR := by
  refine F.ok scIsWish (fun vs H Q E h => ?_) (fun cdv A outer s H vs Q E hr h => ?_)
  · obtain ⟨c, k0, w, r, rfl, _⟩ := h
    rfl
  · obtain ⟨c, k0, w, r, rfl, ec, hw, hl, k⟩ := h
    refine ⟨_, pss_cons (ps_if (pt_not (PW.pt (pw_and (pt_val (pe_callB call_isi (by rfl) hIs (by decide +kernel) (pa_cons (pv 0) (pa_cons (pe_bltn (v := .ty "tuple") (by rfl) hTu (by decide +kernel) rfl) pa_nil)))) (pw_and (pt_cmpR op_gt (pe_callB call_len_seq (by rfl) hL PySem.boot_len (pa_cons (pv 0) pa_nil)) pe_int (nomark _)) (pw_and1 (pt_val (pe_callB call_isi (by rfl) hIs (by decide +kernel) (pa_cons (pe_ix ix_tup (pv 0) pe_int (fun _ _ => rfl)) (pa_cons (pe_bltn (v := .ty "str") (by rfl) hSt (by decide +kernel) rfl) pa_nil))))))))) (pss_one (ps_ret pe_bl)) pss_nil)
      (pss_cons (ps_asg (pv 0) (pg_star (n := 2) (i := 1) rfl (pgs_cons (pg_name (i := 2) scIsWish.nd rfl (Or.inl rfl)) (pgs_star (pg_name (i := 3) scIsWish.nd rfl (Or.inl rfl)) pgs_nil))))
      (pss_cons (ps_if (pt_cmpR op_eq (pv 2) pe_str (nomark _)) (pss_one ps_never) pss_nil)
      (pss_cons (ps_if (pt_cmpR op_ne (pe_callB call_len_seq (by rfl) hL PySem.boot_len (pa_cons (pv 3) pa_nil)) pe_int (nomark _)) (pss_one ps_never) pss_nil)
      (pss_cons (ps_if (pt_cmpR op_eq (pv 2) pe_str (nomark _)) (pss_one ps_never) pss_nil)
      (pss_one (ps_ret (pe_and (pe_cmpR op_in_seq (pv 2) (pe_tup (pa_cons pe_str (pa_cons pe_str pa_nil))) (by rfl)) (pe_one (pe_cl hR hr rfl pass0 (pa_cons (pe_ix ix_list (pv 3) pe_int (fun _ _ => rfl)) (pa_cons (pe_glob (v := .str abc) rfl hA ⟨_, rfl⟩) pa_nil))))))))))), ?_⟩
    refine ⟨_, rfl, .ref c, .ty "tuple", _, .type "tuple", true, rfl, .ty _, .base (.tup ec), kit_ty (by decide +kernel), _, rfl, iteT ?_⟩
    refine ⟨_, rfl, c, _, rfl, .inr (SqT.of ec), _, _, rfl, rfl, _, rfl, iteT ?_⟩
    refine ⟨_, rfl, c, _, _, V.str w, rfl, rfl, SqT.of ec, atI_nat (j := 0) rfl, .str w, .ty "str", _, .type "str", true, rfl, .ty _, .base (.str w), kit_ty (by decide +kernel), _, rfl, iteF ?_⟩
    refine ⟨_, rfl, c, [.str w, .str r], rfl, SqT.of ec, by show 1 < 2; decide, by show 2 ≤ 3; decide, by show 2 ≤ 16384; decide, fun Dl hD => ⟨_, _, rfl, _, _, rfl, rfl, ?_⟩⟩
    have s1 := same_new (o := .lst [.str r]) hD
    refine ⟨_, rfl, rfl, _, rfl, if_false_of (rw_kept hw) ?_⟩
    refine ⟨_, rfl, Dl, [.str r], rfl, .inl (SqL.of upd_same), rfl, _, rfl, iteF ?_⟩
    refine ⟨_, rfl, rfl, _, rfl, if_false_of (rw_never hw) ?_⟩
    refine ⟨_, rfl, by show 2 ≤ sizeLine; decide, fun tp ht => ⟨tp, _, rfl, .inr (SqT.of upd_same), rfl, rfl, _, rfl, if_true_of (rw_in hw) ?_⟩⟩
    have s2 := s1.trans (same_new (o := .tup [.str "good", .str "bad"]) ht)
    refine ⟨_, rfl, Dl, [.str r], _, V.str r, rfl, rfl, SqL.of (keep1 upd_same ht), atI_nat (j := 0) rfl, r, abc, rfl, by have := hl.1; omega, fun H3 s3 => ?_⟩
    rw [hl.row]
    exact k _ (s2.trans s3)
end
end My
namespace L2
open PySem PySem.Spec PyProof.Rows PySem.GX
section
variable {α : Type} {J : It} {G : Hp → Prop} {Y : Nat → Hp → V → Hp → Prop} {g : TG} {tt : TT} {tk tv : TE} {vs : List Nat} {σ : St} {H1 : Hp} {D : Addr} {Qd : Hp → Prop}
/-- {k: v for x in .. if t}, keys ints or texts -/
theorem dcF (xs : List α) (keep : α → Bool) (key : α → Key) (val : α → V) (w : Walk J xs.length G Y) (hz : xs.length ≤ 16000000) (hD : H1 D = none) (hY : ∀ i H x H', Y i H x H' → Same H H') (hG : ∀ H', Same H1 H' → G H')
    (turn : ∀ (i : Nat) (a : α) (x : V) (H' H'' : Hp) (k : V → V → Hp → Prop) (k0 : Hp → Prop), xs[i]? = some a → Same H1 H' → Y i H' x H'' → (keep a = true → ∀ H4, Same H'' H4 → k (kV (key a)) (val a) H4) → (keep a = false → ∀ H4, Same H'' H4 → k0 H4) →
      g x (wipe σ vs) H'' fun σ2 H2 => wipe σ2 vs = wipe σ vs ∧ tt σ2 H2 fun b H3 => if b = true then tk σ2 H3 fun y H4 => tv σ2 H4 fun z H5 => k y z H5 else k0 H3)
    (hd : ∀ H', Same H1 H' → H' D = some (.dK (dOf key val (xs.filter keep))) → Qd H') :
    ∃ W : Nat → Nat → Hp → Prop, (∃ m, W 0 m (upd H1 D (.dK []))) ∧ ∀ i m H, W i m H →
      (J.stop i H ∧ Qd H) ∨ (J.go i H ∧ ∃ Nx : Hp → Prop, (∀ H', Nx H' → ∃ m', m' < m ∧ W (i + 1) m' H') ∧ ∀ x H', J.yld i H x H' → g x (wipe σ vs) H' fun σ2 H2 => wipe σ2 vs = wipe σ vs ∧ tt σ2 H2 fun b H3 =>
        if b = true then tk σ2 H3 fun y H4 => tv σ2 H4 fun z H5 => ∃ kvs k, y = kV k ∧ H5 D = some (.dK kvs) ∧ kvs.length < sizeLine ∧ Nx (upd H5 D (.dK (putK kvs k z))) else Nx H3) := by
  refine dc_it w (nx := fun i H' => Same H1 H' ∧ H' D = some (.dK (dOf key val ((xs.take i).filter keep)))) (body := fun i x H' Nx => g x (wipe σ vs) H' fun σ2 H2 => wipe σ2 vs = wipe σ vs ∧ tt σ2 H2 fun b H3 =>
        if b = true then tk σ2 H3 fun y H4 => tv σ2 H4 fun z H5 => ∃ kvs k, y = kV k ∧ H5 D = some (.dK kvs) ∧ kvs.length < sizeLine ∧ Nx (upd H5 D (.dK (putK kvs k z))) else Nx H3)
    ⟨same_new hD, upd_same⟩ (fun i H _ h => hG H h.1) (fun i x H H' hi h hy => ?_) (fun H h => hd H h.1 (by rw [h.2, List.take_length]))
  have ei : xs[i]? = some xs[i] := List.getElem?_eq_getElem hi
  have sy := hY _ _ _ _ hy
  have tk : xs.take (i + 1) = xs.take i ++ [xs[i]] := by rw [List.take_add_one, ei]; rfl
  refine turn i xs[i] x H H' (fun y z H5 => ∃ kvs k, y = kV k ∧ H5 D = some (.dK kvs) ∧ kvs.length < sizeLine ∧ _) _ ei h.1 hy (fun hk H4 s4 => ⟨_, _, rfl, s4 _ _ (sy _ _ h.2), ?_, fun b o z => ?_, ?_⟩) fun hk H4 s4 => ⟨fun b o z => s4 _ _ (sy _ _ (h.1 b o z)), ?_⟩
  · have := dOf_len key val ((xs.take i).filter keep)
    have h2 := List.length_filter_le keep (xs.take i)
    rw [List.length_take] at h2
    rw [sizeLine_eq]
    omega
  · rw [upd_ne (ne_of_none z hD)]
    exact s4 _ _ (sy _ _ (h.1 b o z))
  · rw [upd_same, tk, List.filter_append, List.filter_cons_of_pos hk, List.filter_nil, dOf_snoc]
  · rw [tk, List.filter_append, List.filter_cons_of_neg (by rw [hk]; exact Bool.false_ne_true), List.filter_nil, List.append_nil]
    exact s4 _ _ (sy _ _ h.2)
end
end L2
namespace My
open PySem PySem.Spec PyProof.Rows L2 PySem.GX L2H LamX
structure StC (K : PySem.W.Frag) (C : Addr) : Prop where
  cl : Cls K C
  f1 : NoAttr K C "held"
  f2 : NoAttr K C "said"
  f3 : NoAttr K C "earlier"
  f4 : NoAttr K C "depth"
structure DkC (K : PySem.W.Frag) (C : Addr) : Prop where
  cl : Cls K C
  f1 : NoAttr K C "state"
/-- what isinstance asks of a class -/
structure InC (K : PySem.W.Frag) (C : Addr) : Prop where
  cl : Cls K C
  ha : PySem.W.findIn K (.ref C) "__class__" = some (some (.builtin "object.__class__"))
  hn : PySem.W.specialIn K (.builtin "object.__class__") "__get__" = some (some (.builtin "getset_descriptor.__get__"))
  tk : PySem.W.takesIn K (.builtin "object.__class__") = some true
  mo : PySem.W.mroIn K C (.type "object") = some true
  kit : PySem.W.kitOne K (.ref C) (.ref C) = some true
abbrev sStInit : Stmt := inClass sState 0
abbrev sDkInit : Stmt := inClass sDesk 0
/-- how deep behind the earlier state -/
def DepOk (H : Hp) (CS : Addr) (e : V) (n : Nat) : Prop := (e = .non ∧ n = 0) ∨ ∃ b dx d sd e' n', e = .ref b ∧ H b = some (.ins CS dx (stFs d sd e' n')) ∧ n = n' + 1
def spStInit (CS : Addr) : Sp := fun vs H Q _ => ∃ (a dx d sd : Addr) (e : V) (n : Nat), vs = [.ref a, .ref d, .ref sd, e] ∧ H a = some (.ins CS dx []) ∧ DepOk H CS e n ∧ ∀ H', (∀ b o, b ≠ a → H b = some o → H' b = some o) → H' a = some (.ins CS dx (stFs d sd e n)) → Q .non H'
def tDep (CS : Addr) : TE := fun σ H Q => ∃ (e : V) (n : Nat), σ[3]? = some (some e) ∧ DepOk H CS e n ∧ Q (.int (n : Int)) H
def spDkInit (CD CS CU : Addr) : Sp := fun vs H Q _ => ∃ (a dx : Addr), vs = [.ref a] ∧ H a = some (.ins CD dx []) ∧ ∀ H', (∀ b o, b ≠ a → H b = some o → H' b = some o) → (∀ ms : List Addr, (∀ m ∈ ms, H m ≠ none) → DeskH H' CD CS CU a [] 0 ms) → Q .non H'
def spCkRule (CU : Addr) : Sp := fun vs H Q _ => ∃ (r : Addr) (t : Str) (p : Parts), vs = [.ref r] ∧ RuleAt H CU r t p ∧ ∀ H', Same H H' → Q .non H'
section
variable {P : Program} {w : World} {K : PySem.W.Frag} {mg : Str → Option Value} {base : Heap} {CD CS CU : Addr}
theorem isi_rule {H : Hp} {r : Addr} {t : Str} {p : Parts} (I : InC K CU) (h : RuleAt H CU r t p) : TyX K H (.ref r) (.ref CU) := by
  obtain ⟨dx, M, G, D, e, _⟩ := h
  exact .base (.ins e I.cl I.ha I.hn I.tk I.mo)
theorem scStInit : FnScope ["self", "held", "said", "earlier"] ["self", "held", "said", "earlier"] (defScope sStInit) := ⟨rfl, rfl, rfl, by decide +kernel, rfl, by decide +kernel, by decide +kernel⟩
theorem ok_stInit {f : Addr} {fd : FuncData} (F : Fun K "__init__" "State.__init__" sStInit f fd) (T : StC K CS) : FnOk P w K mg base CX0 1 f fd ["self", "held", "said", "earlier"] (spStInit CS) := by
  refine F.ok scStInit (fun vs H Q E h => ?_) (fun cdv A outer s H vs Q E hr h => ?_)
  · obtain ⟨a, dx, d, sd, e, n, rfl, _⟩ := h
    rfl
  · obtain ⟨a, dx, d, sd, e, n, rfl, ha, hd, k⟩ := h
    refine ⟨_, pss_cons (ps_fld (pv 0) (pv 1) rfl) (pss_cons (ps_fld (pv 0) (pv 2) rfl) (pss_cons (ps_fld (pv 0) (pv 3) rfl) (pss_one (ps_fld (pv 0) (PE_imp (t' := tDep CS) (pe_ifExp (pt_cmpR op_isN (pv 3) pe_non (nomark _)) pe_int (pe_op op_add (pe_fld (pv 3) rfl) pe_int)) ?iDep) rfl)))), ?_⟩
    case iDep =>
      rintro σ H Q ⟨e, n, e3, hd, y⟩
      rcases hd with ⟨rfl, rfl⟩ | ⟨b, dx, d, sd, e', n', rfl, hb, rfl⟩
      · exact ⟨_, e3, rfl, _, rfl, iteT y⟩
      · refine ⟨_, e3, rfl, _, rfl, iteF ⟨_, e3, b, CS, dx, _, _, rfl, hb, T.cl, T.f4, rfl, _, _, rfl, rfl, ?_⟩⟩
        rw [show ((n' + 1 : Nat) : Int) = (n' : Int) + 1 by omega] at y
        exact y
    have nb : ∀ {b dx d sd e' n'}, H b = some (.ins CS dx (stFs d sd e' n')) → b ≠ a := fun e => ne_of e ha (by intro z; cases z)
    refine ⟨_, rfl, _, rfl, a, CS, dx, _, rfl, ha, T.cl, T.f1, by decide, ?_⟩
    refine ⟨_, rfl, _, rfl, a, CS, dx, _, rfl, upd_same, T.cl, T.f2, (by show 1 < 1000; decide), ?_⟩
    rw [upd_upd]
    refine ⟨_, rfl, _, rfl, a, CS, dx, _, rfl, upd_same, T.cl, T.f3, (by show 2 < 1000; decide), ?_⟩
    rw [upd_upd]
    refine ⟨e, n, rfl, ?_, _, rfl, a, CS, dx, _, rfl, upd_same, T.cl, T.f4, (by show 3 < 1000; decide), ?_⟩
    · rcases hd with h | ⟨b, dx', d', sd', e', n', h1, hb, h2⟩
      · exact .inl h
      · exact .inr ⟨b, dx', d', sd', e', n', h1, by rw [upd_ne (nb hb)]; exact hb, h2⟩
    rw [upd_upd]
    exact k _ (fun b o n e => by rw [upd_ne n]; exact e) upd_same
theorem scDkInit : FnScope ["self"] ["self"] (defScope sDkInit) := ⟨rfl, rfl, rfl, by decide +kernel, rfl, by decide +kernel, by decide +kernel⟩
theorem ok_dkInit {f fS : Addr} {fd fdS : FuncData} (F : Fun K "__init__" "Desk.__init__" sDkInit f fd) (T : DkC K CD) (MS : Mk K CS fS) (GS : FnOk P w K mg base CX0 1 fS fdS ["self", "held", "said", "earlier"] (spStInit CS)) (bS : Binds K fdS ["self", "held", "said", "earlier"] []) (gS : mg "State" = some (.ref CS)) : FnOk P w K mg base CX0 3 f fd ["self"] (spDkInit CD CS CU) := by
  refine F.ok scDkInit (fun vs H Q E h => ?_) (fun cdv A outer s H vs Q E hr h => ?_)
  · obtain ⟨a, dx, rfl, _⟩ := h
    rfl
  · obtain ⟨a, dx, rfl, ha, k⟩ := h
    refine ⟨_, pss_one (ps_fld (pv 0) (pe_make MS GS hr rfl gS bS .nil pass0 (pa_cons pe_dnewK (pa_cons (pe_tup pa_nil) (pa_cons pe_non pa_nil)))) rfl), ?_⟩
    refine fun d hd => ⟨by show 0 ≤ sizeLine; decide, fun sd hsd x dy hx hdy ne => ?_⟩
    have sm := (((same_new (o := .dK []) hd).trans (same_new (o := .tup []) hsd)).trans (same_new (o := .own x) hdy)).trans (same_new (o := .ins CS dy []) (by rw [upd_ne ne.symm]; exact hx))
    have ed := keep1 (o := .tup []) (upd_same (a := d) (H := H) (o := .dK [])) hsd
    have esd := upd_same (a := sd) (H := upd H d (.dK [])) (o := .tup [])
    generalize hHB : upd (upd H d (.dK [])) sd (.tup []) = HB at *
    have hx2 : (upd HB dy (.own x)) x = none := by rw [upd_ne ne.symm]; exact hx
    have ed2 := keep1 (o := .ins CS dy []) (keep1 (o := .own x) ed hdy) hx2
    have esd2 := keep1 (o := .ins CS dy []) (keep1 (o := .own x) esd hdy) hx2
    refine ⟨x, dy, d, sd, .non, 0, rfl, upd_same, .inl ⟨rfl, rfl⟩, fun H6 keep ex => ⟨rfl, ?_⟩⟩
    have ha2 := sm _ _ ha
    have hax : a ≠ x := ne_of_none (keep1 (o := .own x) (by rw [← hHB]; exact keep1 (keep1 ha hd) hsd) hdy) hx2
    have ha6 := keep _ _ hax ha2
    refine ⟨_, rfl, a, CD, dx, _, rfl, ha6, T.cl, T.f1, by decide, ?_⟩
    have dx_ : d ≠ x := ne_of_none (keep1 (o := .own x) ed hdy) hx2
    have sdx_ : sd ≠ x := ne_of_none (keep1 (o := .own x) esd hdy) hx2
    have ed6 := keep _ _ dx_ ed2
    have esd6 := keep _ _ sdx_ esd2
    refine k _ (fun b o nb e => ?_) fun ms hms => ⟨dx, dy, x, d, sd, .non, upd_same, ?_, ?_, ?_, (fun z hz => (by cases hz)), fun m hm e => ?_⟩
    · rw [upd_ne nb]
      refine keep _ _ ?_ (sm _ _ e)
      exact ne_of_none (keep1 (o := .own x) (by rw [← hHB]; exact keep1 (keep1 e hd) hsd) hdy) hx2
    · rw [upd_ne hax.symm]; exact ex
    · rw [upd_ne (ne_of ed6 ha6 (by intro z; cases z))]; exact ed6
    · rw [upd_ne (ne_of esd6 ha6 (by intro z; cases z))]; exact esd6
    · subst e
      exact hms d hm hd
theorem scCkRule : FnScope ["value"] ["value"] (defScope sCRule) := ⟨rfl, rfl, rfl, by decide +kernel, rfl, by decide +kernel, by decide +kernel⟩
theorem ok_ckRule {f : Addr} {fd : FuncData} (F : Fun K "check_rule" "check_rule" sCRule f fd) (I : InC K CU) (hIs : mg "isinstance" = none) (gU : mg "Rule" = some (.ref CU)) : FnOk P w K mg base CX0 1 f fd ["value"] (spCkRule CU) := by
  refine F.ok scCkRule (fun vs H Q E h => ?_) (fun cdv A outer s H vs Q E hr h => ?_)
  · obtain ⟨r, t, p, rfl, _⟩ := h
    rfl
  · obtain ⟨r, t, p, rfl, hR, k⟩ := h
    refine ⟨_, pss_one (ps_if (pt_not (pt_val (pe_callB call_isi (by rfl) hIs (by decide +kernel) (pa_cons (pv 0) (pa_cons (pe_glob (v := .ref CU) rfl gU rfl) pa_nil))))) (pss_one ps_never) pss_nil), ?_⟩
    exact ⟨_, rfl, .ref r, .ref CU, _, .ref CU, true, rfl, .own _, isi_rule I hR, I.kit, _, rfl, iteF (k H (Same.refl _))⟩
end
end My
namespace My
open PySem PySem.Spec PyProof.Rows L2 PySem.GX L2H LamX
/-! pieces of k46's texts that speak of no method -/
theorem walk_ent {d : Addr} {od : Obj} {f : Ent → V} {T : List Ent} : Walk (Itk d od (entD f T)) T.length (fun H => H d = some (.frz od (.dK (entD f T)))) (fun i H x H' => H' = H ∧ ∃ k v, (entD f T)[i]? = some (k, v) ∧ x = kV k) := by
  have := walk_keys (d := d) (o := od) (kvs := entD f T)
  rw [ent_len] at this
  exact this
theorem ent_at {f : Ent → V} {T : List Ent} {i : Nat} {z : Ent} {k : Key} {v : V} (h : T[i]? = some z) (e : (entD f T)[i]? = some (k, v)) : k = Sum.inr z.1 := by
  unfold entD at e
  rw [List.getElem?_map, h] at e
  have e := Option.some.inj e
  injection e with e _
  exact e.symm
theorem RulesH.same {H H' : Hp} {CU : Addr} {T : List Ent} (h : RulesH H CU T) (s : Same H H') : RulesH H' CU T := fun z hz => let ⟨p, a, b⟩ := h z hz; ⟨p, a.same s, b⟩
theorem TOk.keys {T : List Ent} (h : TOk T) : (T.map fun z => (Sum.inr z.1 : Key)).Nodup := by
  have h1 := List.pairwise_map.mp h.nd
  exact List.pairwise_map.mpr (h1.imp fun ne e => ne ((inr_iff _ _).mp e))
theorem cut_len0 (z : Str) (lo hi : Option Int) : (cutS z lo hi).length ≤ z.length := by
  unfold cutS
  show (List.toArray _).size ≤ z.length
  rw [List.size_toArray, List.length_take, List.length_drop, Array.length_toList]
  show _ ≤ z.cps.size
  omega
theorem join_sgs (cs : List Nat) : Txt.join Str.empty (cs.map sg) = ⟨cs.toArray⟩ := str_ext (by rw [TL.join_eq, join_signs])
theorem word_iff {x : Str} : isWordL x = true ↔ 1 ≤ x.length ∧ x.length ≤ 8 ∧ ∀ c ∈ x.cps.toList, c ∈ abc.cps.toList := by
  unfold isWordL
  rw [made_all, Bool.and_eq_true, Bool.and_eq_true, decide_eq_true_eq, decide_eq_true_eq, List.all_eq_true, and_assoc]
  exact and_congr Iff.rfl (and_congr Iff.rfl ⟨fun h c hc => of_decide_eq_true (h c hc), fun h c hc => decide_eq_true (h c hc)⟩)
theorem cut_lo {x : Str} {j : Nat} (h : j ≤ x.length) (hx : x.length ≤ 1000000) : (cutS x (some (j : Int)) none).cps.toList = x.cps.toList.drop j := by
  unfold cutS
  have e1 : HT.sIx x.length x.length none = x.length := rfl
  have e0 : HT.sIx x.length 0 (some (j : Int)) = j := by
    unfold HT.sIx
    have hn : ¬ ((j : Int) < 0) := by omega
    simp [hn]
    omega
  rw [e0, e1]
  show List.take (x.length - j) (List.drop j x.cps.toList) = _
  refine List.take_of_length_le ?_
  rw [List.length_drop]
  exact Nat.le_refl _
theorem cut_hi {x : Str} {j : Nat} (h : j ≤ x.length) (hx : x.length ≤ 1000000) : (cutS x none (some (j : Int))).cps.toList = x.cps.toList.take j := by
  unfold cutS
  have e1 : HT.sIx x.length 0 none = 0 := rfl
  have e0 : HT.sIx x.length x.length (some (j : Int)) = j := by
    unfold HT.sIx
    have hn : ¬ ((j : Int) < 0) := by omega
    simp [hn]
    omega
  rw [e0, e1]
  rfl
theorem from_len : ∀ (ts : List Str) (k : Nat) (acc : Str), (textFrom k acc ts).length ≤ acc.length + (ts.map fun t => t.length + 2).sum
  | [], _, _ => Nat.le_refl _
  | t :: ts, k, acc => by
    have := from_len ts (k + 1) (acc ++ (if k > 0 then ", " else "" : String) ++ t)
    rw [len_app, len_app] at this
    have e : (Str.ofString (if k > 0 then ", " else "" : String)).length ≤ 2 := by
      by_cases c : k > 0
      · simp only [c, if_true]; decide +kernel
      · simp only [c, if_false]; decide +kernel
    show (textFrom (k + 1) (acc ++ (if k > 0 then ", " else "" : String) ++ t) ts).length ≤ _
    rw [List.map_cons, List.sum_cons]
    omega
theorem shown_strs : ∀ ls : List Str, PyData.shownAll (ls.map PyData.str) = ls.map reprText
  | [] => rfl
  | a :: t => by
    rw [List.map_cons, List.map_cons, ← shown_strs t]
    simp only [PyData.shownAll, PyData.shown]
theorem able_strs : ∀ ls : List Str, PyData.showableAll (ls.map PyData.str) = true
  | [] => rfl
  | a :: t => by
    rw [List.map_cons]
    simp only [PyData.showableAll, PyData.showable, able_strs t, Bool.and_self]
theorem depth_strs : ∀ ls : List Str, PyData.depthAll (ls.map PyData.str) ≤ 1
  | [] => Nat.zero_le _
  | a :: t => by
    have := depth_strs t
    rw [List.map_cons]
    simp only [PyData.depthAll, PyData.depth]
    omega
theorem word_low {x : Str} (h : isWordL x = true) : Low x := fun c hc => by
  have m := (word_iff.mp h).2.2 c hc
  have all : ∀ d ∈ abc.cps.toList, d < 256 := by decide +kernel
  exact all c m
theorem tup_len : ∀ ys : List Str, (∀ y ∈ ys, isWordL y = true) → (Str.join ", " (ys.map reprText)).length ≤ 100 * ys.length
  | [], _ => Nat.zero_le _
  | a :: t, h => by
    have hb : ∀ x ∈ (a :: t).map reprText, x.length ≤ 82 := fun x hx => by
      obtain ⟨z, hz, rfl⟩ := List.mem_map.mp hx
      have := repr_short (word_low (h z hz))
      have := (word_iff.mp (h z hz)).2.1
      omega
    have b := sum_le hb
    rw [List.map_cons] at b ⊢
    rw [len_join_cons]
    have e : (", " : Str).length = 2 := rfl
    rw [e]
    rw [List.length_cons, List.length_map] at b
    rw [List.length_cons]
    rw [List.length_map]
    omega
theorem int_ok : ∀ n : Nat, n ≤ 1001 → (PyData.int (n : Int)).showable = true ∧ (PyData.int (n : Int)).shown.length ≤ 12000 := by
  have h : ∀ n : Nat, n < 1002 → (PyData.int (n : Int)).showable = true ∧ (PyData.int (n : Int)).shown.length ≤ 12000 := by decide +kernel
  exact fun n hn => h n (by omega)
def PrS (P : Program) (w : World) (K : PySem.W.Frag) (mg : Str → Option Value) (base : Heap) (C : Addr) (x : Str) (sp : Sp) : Prop := ∃ (p g : Addr) (fd : FuncData), PropOf K C x p g ∧ FnOk P w K mg base CX0 1 g fd ["self"] sp ∧ Binds K fd ["self"] []
theorem hasT_perm {T L : List Ent} (p : L.Perm T) {k : Str} : hasT L k = hasT T k := by
  rw [Bool.eq_iff_iff, hasT_iff, hasT_iff]
  exact ⟨fun ⟨z, h, e⟩ => ⟨z, p.mem_iff.mp h, e⟩, fun ⟨z, h, e⟩ => ⟨z, p.mem_iff.mpr h, e⟩⟩
theorem put_perm {T L : List Ent} (p : L.Perm T) (e : Ent) : (putT L e).Perm (putT T e) := by
  unfold putT
  rw [hasT_perm p]
  split
  · exact p.map _
  · exact p.append_right _
theorem text_ok_box {H : Hp} {q : Addr} {x : Str} {ws fs : List Str} {kvs : List (List Key × V)} (f : Fine x ws fs kvs) (l : ws.length ≤ 5) : TxOk (textL x ws fs kvs) (partsF x ws fs kvs) :=
  ⟨text_small (f.short (by omega)), text_ok f, fine_parse f⟩
end My
namespace My
open PySem PySem.Spec PyProof.Rows L2 PySem.GX L2H LamX
/-! claims about one rule's rows -/
abbrev pairW : List Str := ["alike", "within"]
def spWishOfR : Sp := fun vs H Q _ => ∃ (c : Addr) (w k r : Str), vs = [.ref c] ∧ H c = some (.tup [.str w, .str k, .str r]) ∧ ∀ (t : Addr) (H' : Hp), Same H H' → H' t = some (.tup [.str w, .str r]) → Q (.ref t) H'
def spNamesOfR : Sp := fun vs H Q _ => ∃ (c : Addr) (w k r : Str), vs = [.ref c] ∧ H c = some (.tup [.str w, .str k, .str r]) ∧ RowW w ∧ ∀ (t : Addr) (H' : Hp), Same H H' → H' t = some (.tup [.str k]) → Q (.ref t) H'
def spIsClaimR : Sp := fun vs H Q _ => ∃ (c : Addr) (w k r : Str), vs = [.ref c] ∧ H c = some (.tup [.str w, .str k, .str r]) ∧ RowW w ∧ LinL r ∧ ∀ H', Same H H' → Q (.bl true) H'
def spIsSoR (CU : Addr) : Sp := fun vs H Q _ => ∃ (d c : Addr) (w r : Str) (T : List Ent) (z : Ent) (p : Parts), vs = [.ref d, .ref c] ∧ H d = some (.dK (deskD T)) ∧ TOk T ∧ z ∈ T ∧ RuleAt H CU z.2.2 z.2.1 p ∧ PartsOk p ∧ H c = some (.tup [.str w, .str z.1, .str r]) ∧ RowW w ∧ r.length ≤ 1000 ∧ ∀ H', Same H H' → Q (.bl (wishL p w r)) H'
def spShownR : Sp := fun vs H Q _ => ∃ (d c : Addr) (w r : Str) (T : List Ent) (z : Ent), vs = [.ref d, .ref c] ∧ H d = some (.dK (deskD T)) ∧ TOk T ∧ z ∈ T ∧ H c = some (.tup [.str w, .str z.1, .str r]) ∧ RowW w ∧ ∀ H', Same H H' → Q .non H'
theorem rw_pair {w : Str} (h : RowW w) : inV (.str w) (pairW.map V.str) = false := by rcases h with rfl | rfl <;> decide +kernel
section
variable {P : Program} {w : World} {K : PySem.W.Frag} {mg : Str → Option Value} {base : Heap}
theorem scWishOf : FnScope ["claim"] ["claim"] (defScope sWishOf) := ⟨rfl, rfl, rfl, by decide +kernel, rfl, by decide +kernel, by decide +kernel⟩
theorem ok_wishOfR {f : Addr} {fd : FuncData} (F : Fun K "wish_of" "wish_of" sWishOf f fd) : FnOk P w K mg base CX0 1 f fd ["claim"] spWishOfR := by
  refine F.ok scWishOf (fun vs H Q E h => ?_) (fun cdv A outer s H vs Q E hr h => ?_)
  · obtain ⟨c, w, k, r, rfl, _⟩ := h
    rfl
  · obtain ⟨c, w, k0, r, rfl, ec, k⟩ := h
    refine ⟨_, pss_one (ps_ret (pe_tup (pa_cons (pe_ix ix_tup (pv 0) pe_int (fun _ _ => rfl)) (StX.pa_star (pe_slice sl_tup (pv 0) (po_some pe_int) po_none) pa_nil)))), ?_⟩
    refine ⟨_, rfl, c, _, _, V.str w, rfl, rfl, SqT.of ec, atI_nat (j := 0) rfl, _, rfl, _, rfl, c, _, rfl, SqT.of ec, by show ¬(HT.sIx 3 0 (some 2) = 0 ∧ HT.sIx 3 3 none = 3); decide, fun t1 h1 => ⟨t1, _, rfl, .inl (SqT.of upd_same), by show 2 ≤ sizeLine; decide, fun t2 h2 => ?_⟩⟩
    exact k t2 _ ((same_new h1).trans (same_new h2)) upd_same
theorem scNamesOf : FnScope ["claim"] ["claim"] (defScope sNamesOf) := ⟨rfl, rfl, rfl, by decide +kernel, rfl, by decide +kernel, by decide +kernel⟩
theorem ok_namesOfR {f tW : Addr} {fd : FuncData} (F : Fun K "names_of" "names_of" sNamesOf f fd) (gW : mg "PAIR_WORDS" = some (.ref tW)) (kW : ∀ H, SqT K H tW (pairW.map V.str)) : FnOk P w K mg base CX0 1 f fd ["claim"] spNamesOfR := by
  refine F.ok scNamesOf (fun vs H Q E h => ?_) (fun cdv A outer s H vs Q E hr h => ?_)
  · obtain ⟨c, w, k, r, rfl, _⟩ := h
    rfl
  · obtain ⟨c, w, k0, r, rfl, ec, hw, k⟩ := h
    refine ⟨_, pss_one (ps_ret (pe_ifExp (pt_cmpR op_in_seq (pe_ix ix_tup (pv 0) pe_int (fun _ _ => rfl)) (pe_glob (v := .ref tW) rfl gW rfl) (by rfl)) (pe_slice sl_tup (pv 0) (po_some pe_int) po_none) (pe_slice sl_tup (pv 0) (po_some pe_int) (po_some pe_int)))), ?_⟩
    refine ⟨_, rfl, c, _, _, V.str w, rfl, rfl, SqT.of ec, atI_nat (j := 0) rfl, tW, _, rfl, .inr (kW _), rfl, rfl, _, rfl, if_false_of (rw_pair hw) ?_⟩
    exact ⟨_, rfl, _, rfl, _, rfl, c, _, rfl, SqT.of ec, by show ¬(HT.sIx 3 0 (some 1) = 0 ∧ HT.sIx 3 3 (some 2) = 3); decide, fun t1 h1 => k t1 _ (same_new h1) upd_same⟩
theorem scIsClaim : FnScope ["value"] ["value"] (defScope sIsClaim) := ⟨rfl, rfl, rfl, by decide +kernel, rfl, by decide +kernel, by decide +kernel⟩
theorem ok_isClaimR {f tW tK : Addr} {fd : FuncData} (F : Fun K "is_claim" "is_claim" sIsClaim f fd) (hWo : Hv P w K mg base 1 "wish_of" ["claim"] spWishOfR) (hIw : Hv P w K mg base 3 "is_wish" ["value", "kinds"] spIsWishR) (gW : mg "PAIR_WORDS" = some (.ref tW)) (kW : ∀ H, SqT K H tW (pairW.map V.str)) (gK : mg "KINDS" = some (.ref tK))
    (hIs : mg "isinstance" = none) (hSt : mg "str" = none) (hTu : mg "tuple" = none) (hL : mg "len" = none) : FnOk P w K mg base CX0 4 f fd ["value"] spIsClaimR := by
  refine F.ok scIsClaim (fun vs H Q E h => ?_) (fun cdv A outer s H vs Q E hr h => ?_)
  · obtain ⟨c, w, k, r, rfl, _⟩ := h
    rfl
  · obtain ⟨c, w, k0, r, rfl, ec, hw, hl, k⟩ := h
    have hr1 := hr.mono (by decide : 1 ≤ 3)
    refine ⟨_, pss_cons (ps_if (pt_not (PW.pt (pw_and (pt_val (pe_callB call_isi (by rfl) hIs (by decide +kernel) (pa_cons (pv 0) (pa_cons (pe_bltn (v := .ty "tuple") (by rfl) hTu (by decide +kernel) rfl) pa_nil)))) (pw_and (pt_cmpR op_gt (pe_callB call_len_seq (by rfl) hL PySem.boot_len (pa_cons (pv 0) pa_nil)) pe_int (nomark _)) (pw_and1 (pt_val (pe_callB call_isi (by rfl) hIs (by decide +kernel) (pa_cons (pe_ix ix_tup (pv 0) pe_int (fun _ _ => rfl)) (pa_cons (pe_bltn (v := .ty "str") (by rfl) hSt (by decide +kernel) rfl) pa_nil))))))))) (pss_one (ps_ret pe_bl)) pss_nil)
      (pss_cons (ps_if (pt_cmpR op_in_seq (pe_ix ix_tup (pv 0) pe_int (fun _ _ => rfl)) (pe_glob (v := .ref tW) rfl gW rfl) (by rfl)) (pss_one ps_never) pss_nil)
      (pss_one (ps_ret (pe_cl hIw hr rfl pass0 (pa_cons (pe_cl hWo hr1 rfl pass0 (pa_cons (pv 0) pa_nil)) (pa_cons (pe_glob (v := .ref tK) rfl gK rfl) pa_nil)))))), ?_⟩
    refine ⟨_, rfl, .ref c, .ty "tuple", _, .type "tuple", true, rfl, .ty _, .base (.tup ec), kit_ty (by decide +kernel), _, rfl, iteT ?_⟩
    refine ⟨_, rfl, c, _, rfl, .inr (SqT.of ec), _, _, rfl, rfl, _, rfl, iteT ?_⟩
    refine ⟨_, rfl, c, _, _, V.str w, rfl, rfl, SqT.of ec, atI_nat (j := 0) rfl, .str w, .ty "str", _, .type "str", true, rfl, .ty _, .base (.str w), kit_ty (by decide +kernel), _, rfl, iteF ?_⟩
    refine ⟨_, rfl, c, _, _, V.str w, rfl, rfl, SqT.of ec, atI_nat (j := 0) rfl, tW, _, rfl, .inr (kW _), rfl, rfl, _, rfl, if_false_of (rw_pair hw) ?_⟩
    exact ⟨_, rfl, c, w, k0, r, rfl, ec, fun t H1 s1 et => ⟨t, _, w, r, rfl, et, hw, hl, fun H2 s2 => k _ (s1.trans s2)⟩⟩
abbrev nIsSo : List Str := ["held", "claim", "rules", "one", "other", "name"]
theorem scIsSo : FnScope nIsSo ["held", "claim"] (defScope sIsSoD) := ⟨rfl, rfl, rfl, by decide +kernel, rfl, by decide +kernel, by decide +kernel⟩
theorem ok_isSoR {f CU : Addr} {fd : FuncData} (F : Fun K "is_so" "is_so" sIsSoD f fd) (hNo : Hv P w K mg base 1 "names_of" ["claim"] spNamesOfR) (hWo : Hv P w K mg base 1 "wish_of" ["claim"] spWishOfR) (hHo : Hv P w K mg base 6 "holds" ["rule", "wish"] (spHoldsR CU)) (hL : mg "len" = none) : FnOk P w K mg base CX0 7 f fd ["held", "claim"] (spIsSoR CU) := by
  refine F.ok scIsSo (fun vs H Q E h => ?_) (fun cdv A outer s H vs Q E hr h => ?_)
  · obtain ⟨d, c, w, r, L, z, p, rfl, _⟩ := h
    rfl
  · obtain ⟨d, c, w, r, L, z, p, rfl, ed, okL, hz, hA, ok, ec, hw, hl, k⟩ := h
    have hr1 := hr.mono (by decide : 1 ≤ 6)
    have hu := hu_of hr
    refine ⟨_, pss_cons (ps_setLc (i := 2) (own := [("name", 5)]) (g := gName 5) (tt := tYes) (by rfl) scIsSo.nd rfl rfl (sw_true rfl rfl rfl (by decide +kernel)) (pi_tup (pe_cl hNo hr1 rfl pass0 (pa_cons (pv 1) pa_nil))) (blkOk_by (N := nIsSo) (sc := defScope sIsSoD) (by decide +kernel)) (fun _ _ _ _ _ => pg_name (i := 5) scIsSo.nd rfl (Or.inl rfl)) (fun _ _ _ _ _ => pts_nil) (fun _ _ _ _ _ => pe_dget hu (pv 0) (pv 5) (fun _ _ => rfl)))
      (pss_cons (ps_if (pt_cmpR op_eq (pe_callB call_len_seq (by rfl) hL PySem.boot_len (pa_cons (pv 2) pa_nil)) pe_int (nomark _)) (pss_one (ps_ret (pe_cl hHo hr rfl pass0 (pa_cons (pe_ix ix_list (pv 2) pe_int (fun _ _ => rfl)) (pa_cons (pe_cl hWo hr1 rfl pass0 (pa_cons (pv 1) pa_nil)) pa_nil))))) pss_nil)
      (pss_cons ps_never (pss_one ps_never))), ?_⟩
    refine ⟨_, rfl, c, w, z.1, r, rfl, ec, hw, fun t H1 s1 et => ⟨t, rfl, ⟨_, SqT.of et⟩, fun D hD => ?_⟩⟩
    refine lcG [z] (fun z => some (V.ref z.2.2)) (walk_tup (K := K) (a := t) (xs := [V.str z.1])) (by show 1 ≤ 16000000; decide) hD (fun i H x H' h => by rw [h.1]; exact Same.refl _) (fun H' s' => SqT.of (s' _ _ et)) (fun i o x H' H'' kk hi s2 hy k2 => ?_) (fun H' s2 eD => ?_)
    · obtain ⟨rfl, hx⟩ := hy
      have i0 : i = 0 := by
        have := (List.getElem?_eq_some_iff.mp hi).1
        simpa using this
      subst i0
      have ex : x = V.str z.1 := (Option.some.inj hx).symm
      have eo : o = z := (Option.some.inj hi).symm
      subst ex eo
      have g2 := DGet.k (k := Sum.inr o.1) (s2 _ _ (s1 _ _ ed))
      rw [val_ent _ _ okL.nd o hz] at g2
      exact ⟨rfl, _, rfl, _, rfl, d, V.ref o.2.2, rfl, g2, k2 _ (Same.refl _)⟩
    · have s3 := s1.trans s2
      refine ⟨_, rfl, D, _, rfl, .inl (SqL.of eD), rfl, _, rfl, iteT ?_⟩
      refine ⟨_, rfl, D, _, _, V.ref z.2.2, rfl, rfl, SqL.of eD, atI_nat (j := 0) rfl, _, rfl, c, w, z.1, r, rfl, s3 _ _ ec, fun t2 H3 s4 et2 => ?_⟩
      exact ⟨z.2.2, t2, w, r, z.2.1, p, rfl, hA.same (s3.trans s4), ok, et2, hw, hl, fun H4 s5 => k _ ((s3.trans s4).trans s5)⟩
theorem scShown : FnScope nIsSo ["held", "claim"] (defScope sShownA) := ⟨rfl, rfl, rfl, by decide +kernel, rfl, by decide +kernel, by decide +kernel⟩
theorem ok_shownR {f : Addr} {fd : FuncData} (F : Fun K "shown_against" "shown_against" sShownA f fd) (hNo : Hv P w K mg base 1 "names_of" ["claim"] spNamesOfR) (hWo : Hv P w K mg base 1 "wish_of" ["claim"] spWishOfR) (hEv : Hv P w K mg base 1 "evidence" ["rule", "wish"] spEvidR) (hL : mg "len" = none) : FnOk P w K mg base CX0 2 f fd ["held", "claim"] spShownR := by
  refine F.ok scShown (fun vs H Q E h => ?_) (fun cdv A outer s H vs Q E hr h => ?_)
  · obtain ⟨d, c, w, r, L, z, rfl, _⟩ := h
    rfl
  · obtain ⟨d, c, w, r, L, z, rfl, ed, okL, hz, ec, hw, k⟩ := h
    have hu := hu_of hr
    refine ⟨_, pss_cons (ps_setLc (i := 2) (own := [("name", 5)]) (g := gName 5) (tt := tYes) (by rfl) scShown.nd rfl rfl (sw_true rfl rfl rfl (by decide +kernel)) (pi_tup (pe_cl hNo hr rfl pass0 (pa_cons (pv 1) pa_nil))) (blkOk_by (N := nIsSo) (sc := defScope sShownA) (by decide +kernel)) (fun _ _ _ _ _ => pg_name (i := 5) scShown.nd rfl (Or.inl rfl)) (fun _ _ _ _ _ => pts_nil) (fun _ _ _ _ _ => pe_dget hu (pv 0) (pv 5) (fun _ _ => rfl)))
      (pss_cons (ps_if (pt_cmpR op_eq (pe_callB call_len_seq (by rfl) hL PySem.boot_len (pa_cons (pv 2) pa_nil)) pe_int (nomark _)) (pss_one (ps_ret (pe_cl hEv hr rfl pass0 (pa_cons (pe_ix ix_list (pv 2) pe_int (fun _ _ => rfl)) (pa_cons (pe_cl hWo hr rfl pass0 (pa_cons (pv 1) pa_nil)) pa_nil))))) pss_nil)
      (pss_cons ps_never (pss_one ps_never))), ?_⟩
    refine ⟨_, rfl, c, w, z.1, r, rfl, ec, hw, fun t H1 s1 et => ⟨t, rfl, ⟨_, SqT.of et⟩, fun D hD => ?_⟩⟩
    refine lcG [z] (fun z => some (V.ref z.2.2)) (walk_tup (K := K) (a := t) (xs := [V.str z.1])) (by show 1 ≤ 16000000; decide) hD (fun i H x H' h => by rw [h.1]; exact Same.refl _) (fun H' s' => SqT.of (s' _ _ et)) (fun i o x H' H'' kk hi s2 hy k2 => ?_) (fun H' s2 eD => ?_)
    · obtain ⟨rfl, hx⟩ := hy
      have i0 : i = 0 := by
        have := (List.getElem?_eq_some_iff.mp hi).1
        simpa using this
      subst i0
      have ex : x = V.str z.1 := (Option.some.inj hx).symm
      have eo : o = z := (Option.some.inj hi).symm
      subst ex eo
      have g2 := DGet.k (k := Sum.inr o.1) (s2 _ _ (s1 _ _ ed))
      rw [val_ent _ _ okL.nd o hz] at g2
      exact ⟨rfl, _, rfl, _, rfl, d, V.ref o.2.2, rfl, g2, k2 _ (Same.refl _)⟩
    · have s3 := s1.trans s2
      refine ⟨_, rfl, D, _, rfl, .inl (SqL.of eD), rfl, _, rfl, iteT ?_⟩
      refine ⟨_, rfl, D, _, _, V.ref z.2.2, rfl, rfl, SqL.of eD, atI_nat (j := 0) rfl, _, rfl, c, w, z.1, r, rfl, s3 _ _ ec, fun t2 H3 s4 et2 => ?_⟩
      exact ⟨V.ref z.2.2, t2, w, r, rfl, et2, hw, fun H4 s5 => k _ ((s3.trans s4).trans s5)⟩
end
end My
namespace My
open PySem PySem.Spec PyProof.Rows L2 PySem.GX L2H LamX
abbrev sPutM : Stmt := inClass sDesk 4
abbrev sRuleM : Stmt := inClass sDesk 5
abbrev sDropM : Stmt := inClass sDesk 6
abbrev sClaimM : Stmt := inClass sDesk 7
abbrev sLiftM : Stmt := inClass sDesk 8
abbrev sUndoM : Stmt := inClass sDesk 9
abbrev sTrialM : Stmt := inClass sDesk 10
abbrev sTriedM : Stmt := inClass sDesk 11
abbrev sChkN : Stmt := inClass sDesk 12
abbrev sNamesP : Stmt := inClass sDesk 1
abbrev sClaimsP : Stmt := inClass sDesk 2
abbrev sChangesP : Stmt := inClass sDesk 3
/-! a desk with claims and with what can be taken back -/
/-- a claim: its tuple, its items -/
abbrev Bid := Addr × List V
abbrev bidR (B : List Bid) : List V := B.map fun b => V.ref b.1
/-- a state of a desk; its dict is none of those -/
def StAt (H : Hp) (CS CU st : Addr) (T : List Ent) (B : List Bid) (e : V) (n : Nat) (ms : List Addr) : Prop := ∃ dx d sd, H st = some (.ins CS dx (stFs d sd e n)) ∧ H d = some (.dK (deskD T)) ∧ H sd = some (.tup (bidR B)) ∧ (∀ b ∈ B, H b.1 = some (.tup b.2)) ∧ RulesH H CU T ∧ ∀ m ∈ ms, d ≠ m
/-- the states behind -/
def PastH (H : Hp) (CS CU : Addr) (ms : List Addr) : V → List (List Ent × List Bid) → Prop
  | e, [] => e = .non
  | e, x :: r => ∃ st e', e = .ref st ∧ StAt H CS CU st x.1 x.2 e' r.length ms ∧ PastH H CS CU ms e' r
def DeskP (H : Hp) (CD CS CU q : Addr) (T : List Ent) (B : List Bid) (past : List (List Ent × List Bid)) (ms : List Addr) : Prop := ∃ dx st e, H q = some (.ins CD dx [("state", .ref st)]) ∧ StAt H CS CU st T B e past.length ms ∧ PastH H CS CU ms e past
/-- what may be changed beside desks -/
def Chg (H : Hp) (ms : List Addr) (b : Addr) : Prop := (∃ xs, H b = some (.lst xs)) ∨ (∃ C dx v, H b = some (.ins C dx [("state", v)])) ∨ (b ∈ ms ∧ ∃ kvs, H b = some (.dK kvs))
theorem Fr.keep {S ms : List Addr} {H H' : Hp} (s : Fr S H H') (hS : ∀ b ∈ S, Chg H ms b) {a : Addr} {o : HO} (e : H a = some o) (n1 : ∀ xs, o ≠ .lst xs) (n2 : ∀ C dx v, o ≠ .ins C dx [("state", v)]) (n3 : ∀ kvs, o = .dK kvs → a ∉ ms) : H' a = some o := s a o (fun b hb z => by
  subst z
  rcases hS a hb with ⟨xs, h⟩ | ⟨C, dx, v, h⟩ | ⟨m, kvs, h⟩
  · exact n1 xs (Option.some.inj (e.symm.trans h))
  · exact n2 C dx v (Option.some.inj (e.symm.trans h))
  · exact n3 kvs (Option.some.inj (e.symm.trans h)) m) e
theorem RuleAt.chg {S ms : List Addr} {H H' : Hp} {C a : Addr} {t : Str} {p : Parts} (h : RuleAt H C a t p) (s : Fr S H H') (hS : ∀ b ∈ S, Chg H ms b) : RuleAt H' C a t p := by
  obtain ⟨dx, M, G, D, e1, e2, e3, e4⟩ := h
  exact ⟨dx, M, G, D, s.keep hS e1 (fun _ z => by cases z) (fun _ _ _ z => by cases z) (fun _ z => by cases z), s.keep hS e2 (fun _ z => by cases z) (fun _ _ _ z => by cases z) (fun _ z => by cases z), s.keep hS e3 (fun _ z => by cases z) (fun _ _ _ z => by cases z) (fun _ z => by cases z), s.keep hS e4 (fun _ z => by cases z) (fun _ _ _ z => by cases z) (fun _ z => by cases z)⟩
theorem StAt.chg {S ms : List Addr} {H H' : Hp} {CS CU st : Addr} {T : List Ent} {B : List Bid} {e : V} {n : Nat} (h : StAt H CS CU st T B e n ms) (s : Fr S H H') (hS : ∀ b ∈ S, Chg H ms b) : StAt H' CS CU st T B e n ms := by
  obtain ⟨dx, d, sd, e1, e2, e3, e4, hR, hm⟩ := h
  refine ⟨dx, d, sd, s.keep hS e1 (fun _ z => by cases z) (fun _ _ _ z => by cases z) (fun _ z => by cases z), s.keep hS e2 (fun _ z => by cases z) (fun _ _ _ z => by cases z) (fun _ _ z => hm d z rfl), s.keep hS e3 (fun _ z => by cases z) (fun _ _ _ z => by cases z) (fun _ z => by cases z), fun b hb => s.keep hS (e4 b hb) (fun _ z => by cases z) (fun _ _ _ z => by cases z) (fun _ z => by cases z), fun z hz => ?_, hm⟩
  obtain ⟨p, a, b⟩ := hR z hz
  exact ⟨p, a.chg s hS, b⟩
theorem PastH.chg {S ms : List Addr} {H H' : Hp} {CS CU : Addr} (s : Fr S H H') (hS : ∀ b ∈ S, Chg H ms b) : ∀ {e : V} {past : List (List Ent × List Bid)}, PastH H CS CU ms e past → PastH H' CS CU ms e past
  | _, [], h => h
  | _, _ :: _, ⟨st, e', h1, h2, h3⟩ => ⟨st, e', h1, h2.chg s hS, PastH.chg s hS h3⟩
theorem DeskP.chg {S ms : List Addr} {H H' : Hp} {CD CS CU q : Addr} {T : List Ent} {B : List Bid} {past : List (List Ent × List Bid)} (h : DeskP H CD CS CU q T B past ms) (s : Fr S H H') (hS : ∀ b ∈ S, Chg H ms b) (hq : q ∉ S) : DeskP H' CD CS CU q T B past ms := by
  obtain ⟨dx, st, e, eq, hs, hp⟩ := h
  exact ⟨dx, st, e, s _ _ (fun a ha z => hq (z ▸ ha)) eq, hs.chg s hS, hp.chg s hS⟩
theorem DeskP.same {ms : List Addr} {H H' : Hp} {CD CS CU q : Addr} {T : List Ent} {B : List Bid} {past : List (List Ent × List Bid)} (h : DeskP H CD CS CU q T B past ms) (s : Same H H') : DeskP H' CD CS CU q T B past ms := h.chg (S := []) (Fr.of s) (fun b hb => by cases hb) (by simp)
theorem DeskP.sb {ms : List Addr} {H H' : Hp} {CD CS CU q p : Addr} {T : List Ent} {B : List Bid} {past : List (List Ent × List Bid)} (h : DeskP H CD CS CU q T B past ms) (hW : Wl H p) (s : Sb p H H') : DeskP H' CD CS CU q T B past ms := by
  obtain ⟨dx, st, e, eq, _⟩ := id h
  obtain ⟨a, b, c, _, _, hp⟩ := id hW
  refine h.chg (S := [p]) (Fr.sb s (by simp)) (fun b hb => ?_) ?_
  · rw [List.mem_singleton] at hb
    subst hb
    exact .inl ⟨_, hp⟩
  · rw [List.mem_singleton]
    exact ne_of eq hp (by intro z; cases z)
/-- with fewer dicts told -/
theorem StAt.sub {H : Hp} {CS CU st : Addr} {T : List Ent} {B : List Bid} {e : V} {n : Nat} {ms ms' : List Addr} (h : StAt H CS CU st T B e n ms) (hm : ∀ m ∈ ms', m ∈ ms) : StAt H CS CU st T B e n ms' := by
  obtain ⟨dx, d, sd, e1, e2, e3, e4, hR, h5⟩ := h
  exact ⟨dx, d, sd, e1, e2, e3, e4, hR, fun m z => h5 m (hm m z)⟩
theorem PastH.sub {H : Hp} {CS CU : Addr} {ms ms' : List Addr} (hm : ∀ m ∈ ms', m ∈ ms) : ∀ {e : V} {past : List (List Ent × List Bid)}, PastH H CS CU ms e past → PastH H CS CU ms' e past
  | _, [], h => h
  | _, _ :: _, ⟨st, e', h1, h2, h3⟩ => ⟨st, e', h1, h2.sub hm, PastH.sub hm h3⟩
theorem DeskP.sub {H : Hp} {CD CS CU q : Addr} {T : List Ent} {B : List Bid} {past : List (List Ent × List Bid)} {ms ms' : List Addr} (h : DeskP H CD CS CU q T B past ms) (hm : ∀ m ∈ ms', m ∈ ms) : DeskP H CD CS CU q T B past ms' := by
  obtain ⟨dx, st, e, eq, hs, hp⟩ := h
  exact ⟨dx, st, e, eq, hs.sub hm, hp.sub hm⟩
/-- one dict more, which is no desk's -/
def Foreign (H : Hp) (m : Addr) : Prop := ∀ kvs, H m = some (.dK kvs) → ∀ T, kvs = deskD T → T = []
theorem StAt.add {H : Hp} {CS CU st m : Addr} {T : List Ent} {B : List Bid} {e : V} {n : Nat} {ms : List Addr} (h : StAt H CS CU st T B e n ms) (hm : H m = none) : StAt H CS CU st T B e n (m :: ms) := by
  obtain ⟨dx, d, sd, e1, e2, e3, e4, hR, h5⟩ := h
  refine ⟨dx, d, sd, e1, e2, e3, e4, hR, fun x z => ?_⟩
  rcases List.mem_cons.mp z with rfl | z
  · intro hd
    subst hd
    rw [hm] at e2
    cases e2
  · exact h5 x z
theorem PastH.add {H : Hp} {CS CU m : Addr} {ms : List Addr} (hm : H m = none) : ∀ {e : V} {past : List (List Ent × List Bid)}, PastH H CS CU ms e past → PastH H CS CU (m :: ms) e past
  | _, [], h => h
  | _, _ :: _, ⟨st, e', h1, h2, h3⟩ => ⟨st, e', h1, h2.add hm, PastH.add hm h3⟩
/-- a dict that is new is no desk's -/
theorem DeskP.add {H : Hp} {CD CS CU q m : Addr} {T : List Ent} {B : List Bid} {past : List (List Ent × List Bid)} {ms : List Addr} (h : DeskP H CD CS CU q T B past ms) (hm : H m = none) : DeskP H CD CS CU q T B past (m :: ms) := by
  obtain ⟨dx, st, e, eq, hs, hp⟩ := h
  exact ⟨dx, st, e, eq, hs.add hm, hp.add hm⟩
/-- a dict of those may be locked -/
theorem DeskP.lock {H : Hp} {CD CS CU q m : Addr} {T : List Ent} {B : List Bid} {past : List (List Ent × List Bid)} {ms : List Addr} {kvs : List (Key × V)} {u : HO} (h : DeskP H CD CS CU q T B past ms) (hm : m ∈ ms) (em : H m = some (.dK kvs)) : DeskP (upd H m u) CD CS CU q T B past ms := by
  obtain ⟨dx, st, e, eq, _⟩ := id h
  refine h.chg (S := [m]) (fun b o nb e => by rw [upd_ne (nb m (by simp))]; exact e) (fun b hb => ?_) ?_
  · rw [List.mem_singleton.mp hb]
    exact .inr (.inr ⟨hm, _, em⟩)
  · rw [List.mem_singleton]
    exact ne_of eq em (by intro z; cases z)
/-- a new state is put at the desk -/
theorem deskP_new {H : Hp} {CD CS CU q dx st0 dx' x d sd : Addr} {e : V} {T : List Ent} {B : List Bid} {past : List (List Ent × List Bid)} {ms : List Addr} (eq : H q = some (.ins CD dx [("state", .ref st0)])) (ex : H x = some (.ins CS dx' (stFs d sd e past.length))) (ed : H d = some (.dK (deskD T))) (esd : H sd = some (.tup (bidR B))) (hB : ∀ b ∈ B, H b.1 = some (.tup b.2)) (hR : RulesH H CU T) (hm : ∀ m ∈ ms, d ≠ m) (hP : PastH H CS CU ms e past) :
    DeskP (upd H q (.ins CD dx [("state", .ref x)])) CD CS CU q T B past ms := by
  have fr : Fr [q] H (upd H q (.ins CD dx [("state", .ref x)])) := fun b o nb e => by rw [upd_ne (nb q (by simp))]; exact e
  have hS : ∀ b ∈ [q], Chg H ms b := fun b hb => by
    rw [List.mem_singleton.mp hb]
    exact .inr (.inl ⟨_, _, _, eq⟩)
  exact ⟨dx, x, e, upd_same, StAt.chg ⟨dx', d, sd, ex, ed, esd, hB, hR, hm⟩ fr hS, hP.chg fr hS⟩
/-! promises -/
def spChkP (CD CS CU : Addr) : Sp := fun vs H Q _ => ∃ (q : Addr) (k : Str) (T : List Ent) (B : List Bid) (past : List (List Ent × List Bid)), vs = [.ref q, .str k] ∧ DeskP H CD CS CU q T B past [] ∧ hasT T k = true ∧ Q .non H
def spRuleP (CD CS CU : Addr) : Sp := fun vs H Q _ => ∃ (q : Addr) (z : Ent) (T : List Ent) (B : List Bid) (past : List (List Ent × List Bid)), vs = [.ref q, .str z.1] ∧ DeskP H CD CS CU q T B past [] ∧ TOk T ∧ z ∈ T ∧ Q (.ref z.2.2) H
def spNamesPP (CD CS CU : Addr) : Sp := fun vs H Q _ => ∃ (q : Addr) (T : List Ent) (B : List Bid) (past : List (List Ent × List Bid)), vs = [.ref q] ∧ DeskP H CD CS CU q T B past [] ∧ T.length < 64 ∧ ∀ (ys : List Str) (t : Addr) (H' : Hp), Same H H' → H' t = some (.tup (ys.map V.str)) → ys.Perm (T.map (·.1)) → sortedS ys = true → Q (.ref t) H'
def spClaimsPP (CD CS CU : Addr) : Sp := fun vs H Q _ => ∃ (q : Addr) (T : List Ent) (B : List Bid) (past : List (List Ent × List Bid)), vs = [.ref q] ∧ DeskP H CD CS CU q T B past [] ∧ ∀ sd : Addr, H sd = some (.tup (bidR B)) → Q (.ref sd) H
def spChangesPP (CD CS CU : Addr) : Sp := fun vs H Q _ => ∃ (q : Addr) (T : List Ent) (B : List Bid) (past : List (List Ent × List Bid)), vs = [.ref q] ∧ DeskP H CD CS CU q T B past [] ∧ Q (.int (past.length : Int)) H
def spDkInitP (CD CS CU : Addr) : Sp := fun vs H Q _ => ∃ (a dx : Addr), vs = [.ref a] ∧ H a = some (.ins CD dx []) ∧ ∀ H', (∀ b o, b ≠ a → H b = some o → H' b = some o) → (∀ ms : List Addr, (∀ m ∈ ms, H m ≠ none) → DeskP H' CD CS CU a [] [] [] ms) → Q .non H'
section
variable {P : Program} {w : World} {K : PySem.W.Frag} {mg : Str → Option Value} {base : Heap} {CD CS CU : Addr}
theorem scChkN : FnScope ["self", "name"] ["self", "name"] (defScope sChkN) := ⟨rfl, rfl, rfl, by decide +kernel, rfl, by decide +kernel, by decide +kernel⟩
theorem scRuleM : FnScope ["self", "name"] ["self", "name"] (defScope sRuleM) := ⟨rfl, rfl, rfl, by decide +kernel, rfl, by decide +kernel, by decide +kernel⟩
theorem scNamesP : FnScope ["self"] ["self"] (defScope sNamesP) := ⟨rfl, rfl, rfl, by decide +kernel, rfl, by decide +kernel, by decide +kernel⟩
theorem scClaimsP : FnScope ["self"] ["self"] (defScope sClaimsP) := ⟨rfl, rfl, rfl, by decide +kernel, rfl, by decide +kernel, by decide +kernel⟩
theorem scChangesP : FnScope ["self"] ["self"] (defScope sChangesP) := ⟨rfl, rfl, rfl, by decide +kernel, rfl, by decide +kernel, by decide +kernel⟩
theorem ok_dkInitP {f fS : Addr} {fd fdS : FuncData} (F : Fun K "__init__" "Desk.__init__" sDkInit f fd) (T : DkC K CD) (MS : Mk K CS fS) (GS : FnOk P w K mg base CX0 1 fS fdS ["self", "held", "said", "earlier"] (spStInit CS)) (bS : Binds K fdS ["self", "held", "said", "earlier"] []) (gS : mg "State" = some (.ref CS)) : FnOk P w K mg base CX0 3 f fd ["self"] (spDkInitP CD CS CU) := by
  refine F.ok scDkInit (fun vs H Q E h => ?_) (fun cdv A outer s H vs Q E hr h => ?_)
  · obtain ⟨a, dx, rfl, _⟩ := h
    rfl
  · obtain ⟨a, dx, rfl, ha, k⟩ := h
    refine ⟨_, pss_one (ps_fld (pv 0) (pe_make MS GS hr rfl gS bS .nil pass0 (pa_cons pe_dnewK (pa_cons (pe_tup pa_nil) (pa_cons pe_non pa_nil)))) rfl), ?_⟩
    refine fun d hd => ⟨by show 0 ≤ sizeLine; decide, fun sd hsd x dy hx hdy ne => ?_⟩
    have sm := (((same_new (o := .dK []) hd).trans (same_new (o := .tup []) hsd)).trans (same_new (o := .own x) hdy)).trans (same_new (o := .ins CS dy []) (by rw [upd_ne ne.symm]; exact hx))
    have ed := keep1 (o := .tup []) (upd_same (a := d) (H := H) (o := .dK [])) hsd
    have esd := upd_same (a := sd) (H := upd H d (.dK [])) (o := .tup [])
    generalize hHB : upd (upd H d (.dK [])) sd (.tup []) = HB at *
    have hx2 : (upd HB dy (.own x)) x = none := by rw [upd_ne ne.symm]; exact hx
    have ed2 := keep1 (o := .ins CS dy []) (keep1 (o := .own x) ed hdy) hx2
    have esd2 := keep1 (o := .ins CS dy []) (keep1 (o := .own x) esd hdy) hx2
    refine ⟨x, dy, d, sd, .non, 0, rfl, upd_same, .inl ⟨rfl, rfl⟩, fun H6 keep ex => ⟨rfl, ?_⟩⟩
    have ha2 := sm _ _ ha
    have hax : a ≠ x := ne_of_none (keep1 (o := .own x) (by rw [← hHB]; exact keep1 (keep1 ha hd) hsd) hdy) hx2
    have ha6 := keep _ _ hax ha2
    refine ⟨_, rfl, a, CD, dx, _, rfl, ha6, T.cl, T.f1, by decide, ?_⟩
    have dx_ : d ≠ x := ne_of_none (keep1 (o := .own x) ed hdy) hx2
    have sdx_ : sd ≠ x := ne_of_none (keep1 (o := .own x) esd hdy) hx2
    have ed6 := keep _ _ dx_ ed2
    have esd6 := keep _ _ sdx_ esd2
    refine k _ (fun b o nb e => ?_) fun ms hms => ⟨dx, x, .non, upd_same, ⟨dy, d, sd, ?_, ?_, ?_, (fun b hb => by cases hb), (fun z hz => (by cases hz)), fun m hm e => ?_⟩, rfl⟩
    · rw [upd_ne nb]
      refine keep _ _ ?_ (sm _ _ e)
      exact ne_of_none (keep1 (o := .own x) (by rw [← hHB]; exact keep1 (keep1 e hd) hsd) hdy) hx2
    · rw [upd_ne hax.symm]; exact ex
    · rw [upd_ne (ne_of ed6 ha6 (by intro z; cases z))]; exact ed6
    · rw [upd_ne (ne_of esd6 ha6 (by intro z; cases z))]; exact esd6
    · subst e
      exact hms d hm hd
theorem ok_chkP {f : Addr} {fd : FuncData} (F : Fun K "check_name" "Desk.check_name" sChkN f fd) (T : DkC K CD) (TS : StC K CS) (hIs : mg "isinstance" = none) (hSt : mg "str" = none) : FnOk P w K mg base CX0 1 f fd ["self", "name"] (spChkP CD CS CU) := by
  refine F.ok scChkN (fun vs H Q E h => ?_) (fun cdv A outer s H vs Q E hr h => ?_)
  · obtain ⟨q, k, T, B, past, rfl, _⟩ := h
    rfl
  · obtain ⟨q, k, L, B, past, rfl, ⟨dx, st, e, eq, ⟨dx', d, sd, est, ed, esd, hB, hR, _⟩, _⟩, hk, y⟩ := h
    have hu := hu_of hr
    refine ⟨_, pss_one (ps_if (pt_not (PW.pt (pw_and (pt_val (pe_callB call_isi (by rfl) hIs (by decide +kernel) (pa_cons (pv 1) (pa_cons (pe_bltn (v := .ty "str") (by rfl) hSt (by decide +kernel) rfl) pa_nil)))) (pw_and1 (pt_cmp (pc_din hu (pv 1) (pe_fld (pe_fld (pv 0) rfl) rfl))))))) (pss_one ps_never) pss_nil), ?_⟩
    refine ⟨_, rfl, .str k, .ty "str", _, .type "str", true, rfl, .ty _, .base (.str k), kit_ty (by decide +kernel), _, rfl, iteT ?_⟩
    refine ⟨_, rfl, _, rfl, q, CD, dx, _, _, rfl, eq, T.cl, T.f1, rfl, st, CS, dx', _, _, rfl, est, TS.cl, TS.f1, rfl, d, _, rfl, DGet.k (k := Sum.inr k) ed, _, rfl, ?_⟩
    rw [val_none, hk]
    exact iteF y
theorem ok_ruleP {f : Addr} {fd : FuncData} (F : Fun K "rule" "Desk.rule" sRuleM f fd) (T : DkC K CD) (TS : StC K CS) (hCk : HvM P w K mg base 1 CD "check_name" ["self", "name"] (spChkP CD CS CU)) : FnOk P w K mg base CX0 2 f fd ["self", "name"] (spRuleP CD CS CU) := by
  refine F.ok scRuleM (fun vs H Q E h => ?_) (fun cdv A outer s H vs Q E hr h => ?_)
  · obtain ⟨q, z, L, B, past, rfl, _⟩ := h
    rfl
  · obtain ⟨q, z, L, B, past, rfl, hD, ok, hz, y⟩ := h
    have hu := hu_of hr
    refine ⟨_, pss_cons (ps_expr (pe_mt hCk (pv 0) T.cl hr pass0 (pa_cons (pv 1) pa_nil))) (pss_one (ps_ret (pe_dget hu (pe_fld (pe_fld (pv 0) rfl) rfl) (pv 1) (fun _ _ => rfl)))), ?_⟩
    obtain ⟨dx, st, e, eq, ⟨dx', d, sd, est, ed, esd, hB, hR, _⟩, _⟩ := id hD
    refine ⟨_, rfl, q, dx, _, rfl, eq, rfl, _, rfl, q, z.1, L, B, past, rfl, hD, hasT_iff.mpr ⟨z, hz, rfl⟩, ?_⟩
    refine ⟨_, rfl, q, CD, dx, _, _, rfl, eq, T.cl, T.f1, rfl, st, CS, dx', _, _, rfl, est, TS.cl, TS.f1, rfl, _, rfl, d, V.ref z.2.2, rfl, ?_, y⟩
    have g := DGet.k (k := Sum.inr z.1) ed
    rw [val_ent _ _ ok.nd z hz] at g
    exact g
theorem ok_namesPP {f : Addr} {fd : FuncData} (F : Fun K "names" "Desk.names" sNamesP f fd) (T : DkC K CD) (TS : StC K CS) (hTu : mg "tuple" = none) (hSo : mg "sorted" = none) (hLi : mg "list" = none) : FnOk P w K mg base CX0 1 f fd ["self"] (spNamesPP CD CS CU) := by
  refine F.ok scNamesP (fun vs H Q E h => ?_) (fun cdv A outer s H vs Q E hr h => ?_)
  · obtain ⟨q, L, B, past, rfl, _⟩ := h
    rfl
  · obtain ⟨q, L, B, past, rfl, ⟨dx, st, e, eq, ⟨dx', d, sd, est, ed, esd, hB, hR, _⟩, _⟩, zl, y⟩ := h
    refine ⟨_, pss_one (ps_ret (pe_callTy call_tuple_of (by rfl) hTu (by decide +kernel) (pa_cons (pe_callB cr_sortedS (by rfl) hSo (by decide +kernel) (pa_cons (pe_callTy (call_listD rfl) (by rfl) hLi (by decide +kernel) (pa_cons (pe_fld (pe_fld (pv 0) rfl) rfl) pa_nil)) pa_nil)) pa_nil))), ?_⟩
    refine ⟨_, rfl, q, CD, dx, _, _, rfl, eq, T.cl, T.f1, rfl, st, CS, dx', _, _, rfl, est, TS.cl, TS.f1, rfl, d, _, rfl, .inl ed, fun l hl => ?_⟩
    have ee : ((deskD L).map fun kv => kV kv.1) = (L.map (·.1)).map V.str := by
      unfold deskD entD
      rw [List.map_map, List.map_map]
      rfl
    rw [ee]
    refine ⟨l, L.map (·.1), rfl, SqL.of upd_same, by rw [List.length_map]; exact zl, fun ys p hp hs np => ?_⟩
    refine ⟨p, _, rfl, .inl ⟨SqL.of upd_same, fun t nt => ?_⟩⟩
    exact y ys t _ (((same_new hl).trans (same_new np)).trans (same_new nt)) upd_same hp hs
theorem ok_claimsPP {f : Addr} {fd : FuncData} (F : Fun K "claims" "Desk.claims" sClaimsP f fd) (T : DkC K CD) (TS : StC K CS) : FnOk P w K mg base CX0 1 f fd ["self"] (spClaimsPP CD CS CU) := by
  refine F.ok scClaimsP (fun vs H Q E h => ?_) (fun cdv A outer s H vs Q E hr h => ?_)
  · obtain ⟨q, L, B, past, rfl, _⟩ := h
    rfl
  · obtain ⟨q, L, B, past, rfl, ⟨dx, st, e, eq, ⟨dx', d, sd, est, ed, esd, hB, hR, _⟩, _⟩, y⟩ := h
    refine ⟨_, pss_one (ps_ret (pe_fld (pe_fld (pv 0) rfl) rfl)), ?_⟩
    exact ⟨_, rfl, q, CD, dx, _, _, rfl, eq, T.cl, T.f1, rfl, st, CS, dx', _, _, rfl, est, TS.cl, TS.f2, rfl, y sd esd⟩
theorem ok_changesPP {f : Addr} {fd : FuncData} (F : Fun K "changes" "Desk.changes" sChangesP f fd) (T : DkC K CD) (TS : StC K CS) : FnOk P w K mg base CX0 1 f fd ["self"] (spChangesPP CD CS CU) := by
  refine F.ok scChangesP (fun vs H Q E h => ?_) (fun cdv A outer s H vs Q E hr h => ?_)
  · obtain ⟨q, L, B, past, rfl, _⟩ := h
    rfl
  · obtain ⟨q, L, B, past, rfl, ⟨dx, st, e, eq, ⟨dx', d, sd, est, ed, esd, hB, hR, _⟩, _⟩, y⟩ := h
    refine ⟨_, pss_one (ps_ret (pe_fld (pe_fld (pv 0) rfl) rfl)), ?_⟩
    exact ⟨_, rfl, q, CD, dx, _, _, rfl, eq, T.cl, T.f1, rfl, st, CS, dx', _, _, rfl, est, TS.cl, TS.f4, rfl, y⟩
end
end My
namespace L2
open PySem PySem.Spec PyProof.Rows PySem.GX HotX L2H
/-! raise X(a, b): an own exception with two fields -/
def spI2 (C : Addr) (f g : Str) : Sp := fun vs H Q _ => ∃ (a : Addr) (v u : V), vs = [.ref a, v, u] ∧ H a = some (exo a C none) ∧
  ∀ d, H d = none → d ≠ a → Q .non (upd (upd (upd H d (exd d [(f, v)])) a (exo a C (some d))) d (exd d [(g, u), (f, v)]))
structure Mk2 (P : Program) (w : World) (K : PySem.W.Frag) (mg : Str → Option Value) (base : Heap) (x : Str) (C : Addr) (f g : Str) : Prop where
  ex : ExG K C
  gC : mg x = some (.ref C)
  ini : ∃ (fI : Addr) (fd : FuncData), PySem.W.findIn K (.ref C) "__init__" = some (some (.ref fI)) ∧ PySem.W.typeIn K (.ref fI) = some (.type "function") ∧ FnOk P w K mg base CX0 1 fI fd ["self", f, g] (spI2 C f g) ∧
    KBn K fd ["self", f, g] 3 [] (fun us _ => us) (fun vs _ => vs)
def tMk2 (C : Addr) (f g : Str) (ta : TA) : TE := fun σ H Q => ta σ H fun vs H1 => ∃ v u, vs = [v, u] ∧ ∀ (a d : Addr) (H2 : Hp), H1 a = none → d ≠ a → Same H1 H2 → ExAt H2 a C d [(g, u), (f, v)] → Q (.ref a) H2
theorem mk2_heap {H : Hp} {a d C : Addr} {f g : Str} {v u : V} (ha : H a = none) (hd : upd H a (exo a C none) d = none) (ne : d ≠ a) :
    Same H (upd (upd (upd (upd H a (exo a C none)) d (exd d [(f, v)])) a (exo a C (some d))) d (exd d [(g, u), (f, v)])) ∧
      ExAt (upd (upd (upd (upd H a (exo a C none)) d (exd d [(f, v)])) a (exo a C (some d))) d (exd d [(g, u), (f, v)])) a C d [(g, u), (f, v)] := by
  refine ⟨fun b o e => ?_, by rw [upd_ne ne.symm, upd_same], upd_same⟩
  have hd' : H d = none := by rw [upd_ne ne] at hd; exact hd
  rw [upd_ne (ne_of_none e hd'), upd_ne (ne_of_none e ha), upd_ne (ne_of_none e hd'), upd_ne (ne_of_none e ha)]
  exact e
section
variable {X : Cx} {x f g : Str} {C : Addr} {e : Expr} {es : List Expr} {ta : TA} {p pos pp pos2 : Pos} {W : L2.WX}
theorem pe_mk2 (M : Mk2 X.prog X.w X.K X.mg X.base x C f g) (hr : Room 2 X.A) (hg : Gl X x) (ha : PA X (e :: es) ta)
    (hdb : (x == ("__debug__" : Str)) = false := by decide) (he : starEach (e :: es) X.env = (false, eval e X.env) :: starEach es X.env := by rfl) (hpl : (backTo pos (starEach es X.env)).any (·.1) = false := by rfl) :
    PE X (.Call (.Name x p) (e :: es) [] pos) (tMk2 C f g ta) := by
  obtain ⟨fI, fd, iC, tI, F1, kb⟩ := M.ini
  refine ⟨fun pins s σ H Q I h => wpAny_Call_Name_kw (ld_glob I hg M.gC ?_ hdb)⟩
  refine PySem.W.callWith_K (h₀ := X.base) I.ok.mod.kin M.ex.kC (thn (ha.run pos pins s σ H _ I h) fun us s1 ⟨vs, H1, I1, r, v, u, ev, q⟩ => ⟨I1.kIn, ?_⟩) he hpl
  subst ev
  refine run_mkG (n := 2) (ks := []) (ws := []) (zs := []) M.ex iC tI F1 hr kb pass0 I1 r .nil rfl rfl (by show 2 ≤ 1000; decide) fun a na => ⟨a, v, u, rfl, upd_same, fun d nd ne => ⟨rfl, ?_⟩⟩
  obtain ⟨z1, z2⟩ := mk2_heap (f := f) (g := g) (v := v) (u := u) na nd ne
  exact q a d _ na ne z1 z2
/-- raise X(a, b): what leaves -/
def tRs2 (X : Cx) (C : Addr) (f g : Str) (W : L2.WX) (ta : TA) : TS := fun _ σ H => tMk2 C f g ta σ H fun x H1 => ∃ a C d, x = .ref a ∧ H1 a = some (exo a C (some d)) ∧ X.H_0 a = none ∧ Raises X (.ref C) ∧ W (.ref C) (some d) σ (delH H1 a)
theorem ps_raise2 (M : Mk2 X.prog X.w X.K X.mg X.base x C f g) (hr : Room 2 X.A) (hg : Gl X x) (hx : X.ex = []) (hc : X.calm = true) (tk : L2N.Takes X W) (ha : PA X (e :: es) ta)
    (hdb : (x == ("__debug__" : Str)) = false := by decide) (he : starEach (e :: es) X.env = (false, eval e X.env) :: starEach es X.env := by rfl) (hpl : (backTo pos (starEach es X.env)).any (·.1) = false := by rfl) :
    PS X (.Raise (some (.Call (.Name x pp) (e :: es) [] pos)) none pos2) (tRs2 X C f g W ta) :=
  L2N.ps_raise hc tk (pmk_exo hx (pe_mk2 (p := pp) M hr hg ha hdb he hpl))
theorem rs2_end {X : Cx} {C a d : Addr} {fs : List (Str × V)} {H1 H2 : Hp} {σ : St} {W : L2.WX} (rs : Raises X (.ref C)) (h0 : Same X.H_0 H1) (na : H1 a = none) (ne : d ≠ a) (s2 : Same H1 H2) (ex : ExAt H2 a C d fs)
    (k : ∀ H3, Same H1 H3 → H3 d = some (exd d fs) → W (.ref C) (some d) σ H3) : ∃ a' C' d', V.ref a = .ref a' ∧ H2 a' = some (exo a' C' (some d')) ∧ X.H_0 a' = none ∧ Raises X (.ref C') ∧ W (.ref C') (some d') σ (delH H2 a') := by
  refine ⟨a, C, d, rfl, ex.ob, h0.free na, rs, k _ (fun b o e => ?_) ?_⟩
  · rw [delH_ne (ne_of_none e na)]
    exact s2 b o e
  · rw [delH_ne ne]
    exact ex.di
end
end L2
namespace My
open PySem PySem.Spec PyProof.Rows L2 PySem.GX L2H LamX
/-! put (no claims yet), claim -/
def spPutP0 (CD CS CU : Addr) : Sp := fun vs H Q _ => ∃ (q r : Addr) (k t : Str) (p : Parts) (T : List Ent) (past : List (List Ent × List Bid)) (ms : List Addr), vs = [.ref q, .str k, .ref r] ∧ DeskP H CD CS CU q T [] past ms ∧ TOk T ∧ isWordL k = true ∧ RuleAt H CU r t p ∧ TxOk t p ∧ (∀ m ∈ ms, H m ≠ none) ∧ T.length ≤ 1000 ∧
  ∀ H', Fr [q] H H' → DeskP H' CD CS CU q (putT T (k, t, r)) [] ((T, []) :: past) ms → Q .non H'
/-- what is asked of a claim about a row -/
structure ClmR (H : Hp) (CU c : Addr) (T : List Ent) (z : Ent) (p : Parts) (w r : Str) : Prop where
  ok : TOk T
  ec : H c = some (.tup [.str w, .str z.1, .str r])
  hw : RowW w
  hl : LinL r
  hz : z ∈ T
  hA : RuleAt H CU z.2.2 z.2.1 p
  pk : PartsOk p
def spClaimP (CD CS CU : Addr) : Sp := fun vs H Q _ => ∃ (q c : Addr) (T : List Ent) (B : List Bid) (past : List (List Ent × List Bid)) (ms : List Addr) (z : Ent) (p : Parts) (w r : Str), vs = [.ref q, .ref c] ∧ DeskP H CD CS CU q T B past ms ∧ ClmR H CU c T z p w r ∧ wishL p w r = true ∧ B.length ≤ 10000 ∧
  ∀ H', Fr [q] H H' → DeskP H' CD CS CU q T (B ++ [(c, [.str w, .str z.1, .str r])]) ((T, B) :: past) ms → Q .non H'
def spClaimX (CD CS CU CR : Addr) : Sp := fun vs H Q E => ∃ (q c : Addr) (T : List Ent) (B : List Bid) (past : List (List Ent × List Bid)) (ms : List Addr) (z : Ent) (p : Parts) (w r : Str), vs = [.ref q, .ref c] ∧ DeskP H CD CS CU q T B past ms ∧ ClmR H CU c T z p w r ∧ wishL p w r = false ∧ B.length ≤ 10000 ∧
  ∀ d H', Same H H' → H' d = some (exd d [("shown", .non), ("index", .int (B.length : Int))]) → E (.ref CR) (some d) H'
/-- a claim is made, or is broken -/
def spClaimB (CD CS CU CR : Addr) : Sp := fun vs H Q E => spClaimP CD CS CU vs H Q E ∨ spClaimX CD CS CU CR vs H Q E
section
variable {P : Program} {w : World} {K : PySem.W.Frag} {mg : Str → Option Value} {base : Heap} {CD CS CU CR : Addr}
abbrev nPutM : List Str := ["self", "name", "rule", "held", "index", "claim", "known"]
theorem scPutM : FnScope nPutM ["self", "name", "rule"] (defScope sPutM) := ⟨rfl, rfl, rfl, by decide +kernel, rfl, by decide +kernel, by decide +kernel⟩
theorem ok_putP0 {f fS : Addr} {fd fdS : FuncData} (F : Fun K "put" "Desk.put" sPutM f fd) (T : DkC K CD) (TS : StC K CS) (MS : Mk K CS fS) (GS : FnOk P w K mg base CX0 1 fS fdS ["self", "held", "said", "earlier"] (spStInit CS)) (bS : Binds K fdS ["self", "held", "said", "earlier"] []) (gS : mg "State" = some (.ref CS))
    (hIw : Hv P w K mg base 2 "is_word" ["text"] spWord) (hCr : Hv P w K mg base 1 "check_rule" ["value"] (spCkRule CU)) (hIs : mg "isinstance" = none) (hSt : mg "str" = none) (hEn : mg "enumerate" = none) : FnOk P w K mg base CX0 3 f fd ["self", "name", "rule"] (spPutP0 CD CS CU) := by
  refine F.ok scPutM (fun vs H Q E h => ?_) (fun cdv A outer s H vs Q E hr h => ?_)
  · obtain ⟨q, r, k, t, p, L, past, ms, rfl, _⟩ := h
    rfl
  · obtain ⟨q, r, k, t, p, L, past, ms, rfl, hD0, ok, hw, hRr, tx, hms, zl, y⟩ := h
    obtain ⟨dx, st, e, eq, ⟨dx', d, sd, est, ed, esd, _, hR, hdm⟩, hP⟩ := id hD0
    have hu := hu_of hr
    have hr1 := hr.mono (by decide : 1 ≤ 2)
    refine ⟨_, pss_cons (ps_if (pt_not (PW.pt (pw_and (pt_val (pe_callB call_isi (by rfl) hIs (by decide +kernel) (pa_cons (pv 1) (pa_cons (pe_bltn (v := .ty "str") (by rfl) hSt (by decide +kernel) rfl) pa_nil)))) (pw_and1 (pt_val (pe_cl hIw hr rfl pass0 (pa_cons (pv 1) pa_nil))))))) (pss_one ps_never) pss_nil)
      (pss_cons (ps_expr (pe_cl hCr hr1 rfl pass0 (pa_cons (pv 2) pa_nil)))
      (pss_cons (ps_lock (ps_setDc (i := 3) (own := [("known", 6)]) (g := gName 6) (tt := tYes) rfl scPutM.nd rfl rfl (sw_trueD rfl rfl rfl (by decide +kernel)) (pi_keys (pe_fld (pe_fld (pv 0) rfl) rfl)) (blkOk_by (N := nPutM) (sc := defScope sPutM) (by decide +kernel)) (fun _ _ _ _ _ => pg_name (i := 6) scPutM.nd rfl (Or.inl rfl)) (fun _ _ _ _ _ => pts_nil) (fun _ _ _ _ _ => pv 6)
          (fun _ _ _ _ _ => pe_dget hu (pe_fldK (K := K) rfl (pe_fldK (K := K) rfl (pv 0) rfl) rfl) (pv 6) (fun _ _ => rfl))))
      (pss_cons (ps_dput hu (pv 3) (pv 1) (pv 2) rfl)
      (pss_cons (ps_for PassesOwn.never rfl (pi_enumT rfl hEn (pa_cons (pe_fld (pe_fld (pv 0) rfl) rfl) pa_nil)) (pg_tup (by rfl) (pgs_cons (pg_name (i := 4) scPutM.nd rfl (Or.inl rfl)) (pgs_cons (pg_name (i := 5) scPutM.nd rfl (Or.inl rfl)) pgs_nil))) (pss_one ps_never))
      (pss_one (ps_fld (pv 0) (pe_make MS GS hr rfl gS bS .nil pass0 (pa_cons (pv 3) (pa_cons (pe_fld (pe_fld (pv 0) rfl) rfl) (pa_cons (pe_fld (pv 0) rfl) pa_nil)))) rfl)))))), ?_⟩
    have wl : k.length ≤ 8 := by
      unfold isWordL at hw
      simp only [Bool.and_eq_true, decide_eq_true_eq] at hw
      exact hw.1.2
    refine ⟨_, rfl, .str k, .ty "str", _, .type "str", true, rfl, .ty _, .base (.str k), kit_ty (by decide +kernel), _, rfl, iteT ?_⟩
    refine ⟨_, rfl, k, rfl, by omega, fun H1 s1 => ⟨_, rfl, ?_⟩⟩
    rw [hw]
    refine iteF ⟨_, rfl, r, t, p, rfl, hRr.same s1, fun H2 s2 => ?_⟩
    have s12 := s1.trans s2
    have hD2 := hD0.same s12
    have eq := s12 _ _ eq
    have est := s12 _ _ est
    have ed := s12 _ _ ed
    have esd := s12 _ _ esd
    have hR := hR.same s12
    have hRr := hRr.same s12
    have hms2 : ∀ m ∈ ms, H2 m ≠ none := fun m hm z => hms m hm (by
      cases hx : H m with
      | none => rfl
      | some o => rw [s12 _ _ hx] at z; cases z)
    refine ⟨d, _, ed, trivial, fun od => ?_⟩
    have lq := (upd_ne (H := H2) (o := .frz od (.dK (deskD L))) (ne_of eq ed (by intro z; cases z))).trans eq
    have lst := (upd_ne (H := H2) (o := .frz od (.dK (deskD L))) (ne_of est ed (by intro z; cases z))).trans est
    refine ⟨_, rfl, q, CD, dx, _, _, rfl, lq, T.cl, T.f1, rfl, st, CS, dx', _, _, rfl, lst, TS.cl, TS.f1, rfl, d, od, rfl, .inl ⟨_, upd_same, fun D hD => ?_⟩⟩
    refine dcG L (fun z => (Sum.inr z.1 : Key)) (fun z => V.ref z.2.2) walk_ent (by omega) hD (fun i H x H' h => by rw [h.1]; exact Same.refl _) (fun H' s' => s' _ _ upd_same) (fun i z x H3 H4 kk k0 hi s3 hy k1 => ?_) (fun H3 s3 eD => ?_)
    · obtain ⟨rfl, key, v, hkv, rfl⟩ := hy
      obtain rfl := ent_at hi hkv
      refine ⟨rfl, _, rfl, _, rfl, q, CD, dx, _, _, rfl, s3 _ _ lq, T.cl, T.f1, rfl, st, CS, dx', _, _, rfl, s3 _ _ lst, TS.cl, TS.f1, rfl, _, rfl, d, V.ref z.2.2, rfl, .inl ⟨_, Sum.inr z.1, .inr ⟨od, s3 _ _ upd_same⟩, rfl, (val_ent (fun z => V.ref z.2.2) _ ok.nd z (List.mem_of_getElem? hi)).symm⟩, k1 _ (Same.refl _)⟩
    rw [dOf_nodup _ _ _ ok.keys] at eD
    refine ⟨s3 _ _ upd_same, ?_⟩
    have s4 : Same H2 (upd H3 d (.dK (deskD L))) := fun b o e => by
      by_cases hb : b = d
      · subst hb
        rw [upd_same]
        exact ed.symm.trans e
      · rw [upd_ne hb]
        exact s3 _ _ ((upd_ne hb).trans e)
    have hDd : D ≠ d := fun e => by
      subst e
      rw [upd_same] at hD
      cases hD
    have eD : upd H3 d (.dK (deskD L)) D = some (.dK (deskD L)) := (upd_ne hDd).trans eD
    have hD2' : H2 D = none := by
      rw [upd_ne hDd] at hD
      exact hD
    generalize upd H3 d (.dK (deskD L)) = H5 at s4 eD ⊢
    refine ⟨_, rfl, _, rfl, _, rfl, D, upd H5 D (.dK (deskD (putT L (k, t, r)))), rfl, .inl ⟨_, Sum.inr k, eD, rfl, by rw [ent_len, sizeLine_eq]; omega, congrArg (fun kv => upd H5 D (.dK kv)) (put_ent (fun z => V.ref z.2.2) L (k, t, r)).symm⟩, ?_⟩
    have s5 : Same H2 (upd H5 D (.dK (deskD (putT L (k, t, r))))) := fun b o e => by
      rw [upd_ne (ne_of_none e hD2')]
      exact s4 _ _ e
    have eD5 : upd H5 D (.dK (deskD (putT L (k, t, r)))) D = _ := upd_same
    generalize upd H5 D (.dK (deskD (putT L (k, t, r)))) = H6 at s5 eD5 ⊢
    have eq := s5 _ _ eq
    have est := s5 _ _ est
    have esd := s5 _ _ esd
    have hR := hR.same s5
    have hRr := hRr.same s5
    refine ⟨_, rfl, q, CD, dx, _, _, rfl, eq, T.cl, T.f1, rfl, st, CS, dx', _, _, rfl, est, TS.cl, TS.f2, rfl, sd, [], rfl, SqT.of esd, ?_⟩
    refine for_it (walk_enumT (K := K) (a := sd) (xs := [])) (fun i σ H' => σ = [some (.ref q), some (.str k), some (.ref r), some (.ref D), none, none, none] ∧ H' = H6) ⟨rfl, rfl⟩ (fun i σ H' _ h => by rw [h.2]; exact SqT.of esd) (fun i y σ H' H'' hi h hy => absurd hi (by simp)) (fun σ H' h => ?_)
    obtain ⟨rfl, rfl⟩ := h
    refine ⟨_, rfl, _, rfl, q, CD, dx, _, _, rfl, eq, T.cl, T.f1, rfl, st, CS, dx', _, _, rfl, est, TS.cl, TS.f2, rfl, _, rfl, q, CD, dx, _, _, rfl, eq, T.cl, T.f1, rfl, fun x dy hx hdy ne => ?_⟩
    have sm := (same_new (o := .own x) hdy).trans (same_new (o := .ins CS dy []) (by rw [upd_ne ne.symm]; exact hx))
    refine ⟨x, dy, D, sd, _, past.length + 1, rfl, upd_same, .inr ⟨st, dx', d, sd, e, past.length, rfl, sm _ _ est, rfl⟩, fun H7 keep ex => ⟨rfl, ?_⟩⟩
    have s7 : Same H' H7 := fun b o e => keep b o (ne_of_none e hx) (sm _ _ e)
    have eq := s7 _ _ eq
    refine ⟨_, rfl, q, CD, dx, _, rfl, eq, T.cl, T.f1, (by show 1 < 1000; decide), ?_⟩
    have hD7 := (hD2.same s5).same s7
    obtain ⟨dx7, st7, e7, eq7, hs7, hP7⟩ := hD7
    obtain ⟨_, rfl⟩ : dx7 = dx ∧ st7 = st := by
      rw [eq] at eq7
      injection eq7 with eq7
      injection eq7 with _ h2 h3
      injection h3 with h3 _
      injection h3 with _ h3
      injection h3 with h3
      exact ⟨h2.symm, h3.symm⟩
    refine y _ (fun b o nb e => ?_) (deskP_new (past := (L, []) :: past) eq ex (s7 _ _ eD5) (s7 _ _ esd) (fun b hb => by cases hb) (fun z hz => ?_) (fun m hm e' => ?_) ⟨st7, e7, rfl, hs7, hP7⟩)
    · rw [upd_ne (nb q (by simp))]
      exact s7 _ _ (s5 _ _ (s12 _ _ e))
    · rcases mem_put hz with hz | rfl
      · exact hR.same s7 z hz
      · exact ⟨p, hRr.same s7, tx⟩
    · subst e'
      exact hms2 D hm hD2'
abbrev nClaimM : List Str := ["self", "claim", "name", "held", "said"]
theorem scClaimM : FnScope nClaimM ["self", "claim"] (defScope sClaimM) := ⟨rfl, rfl, rfl, by decide +kernel, rfl, by decide +kernel, by decide +kernel⟩
theorem ok_claimB {f fS : Addr} {fd fdS : FuncData} (F : Fun K "claim" "Desk.claim" sClaimM f fd) (T : DkC K CD) (TS : StC K CS) (MS : Mk K CS fS) (GS : FnOk P w K mg base CX0 1 fS fdS ["self", "held", "said", "earlier"] (spStInit CS)) (bS : Binds K fdS ["self", "held", "said", "earlier"] []) (gS : mg "State" = some (.ref CS)) (Z : Mk2 P w K mg base "Broken" CR "index" "shown") (b1 : PySem.W.subIn K (.ref CR) (.type "BaseException") = some true) (b2 : PySem.W.typeIn K (.ref CR) = some (.type "type"))
    (hIc : Hv P w K mg base 4 "is_claim" ["value"] spIsClaimR) (hNo : Hv P w K mg base 1 "names_of" ["claim"] spNamesOfR) (hCk : HvM P w K mg base 1 CD "check_name" ["self", "name"] (spChkP CD CS CU)) (hSo : Hv P w K mg base 7 "is_so" ["held", "claim"] (spIsSoR CU)) (hSh : Hv P w K mg base 2 "shown_against" ["held", "claim"] spShownR) (hL : mg "len" = none) : FnOk P w K mg base (L2N.CX P w) 8 f fd ["self", "claim"] (spClaimB CD CS CU CR) := by
  refine F.okN scClaimM (fun vs H Q E h => ?_) (fun cdv A outer s H vs Q E hr h => ?_)
  · rcases h with ⟨q, c, L, B, past, ms, z, p, w, r, rfl, _⟩ | ⟨q, c, L, B, past, ms, z, p, w, r, rfl, _⟩ <;> rfl
  · rcases h with ⟨q, c, L, B, past, ms, z, p, wd, r, rfl, hD0, C, hso, zB, y⟩ | ⟨q, c, L, B, past, ms, z, p, wd, r, rfl, hD0, C, hso, zB, y⟩
    · have hr1 := hr.mono (by decide : 1 ≤ 7)
      have hr2 := hr.mono (by decide : 2 ≤ 7)
      have hr4 := hr.mono (by decide : 4 ≤ 7)
      refine ⟨_, pss_cons (ps_if (pt_not (pt_val (pe_cl hIc hr4 rfl pass0 (pa_cons (pv 1) pa_nil)))) (pss_one ps_never) pss_nil)
        (pss_cons (ps_for (passes_of rfl) rfl (pi_tup (pe_cl hNo hr1 rfl pass0 (pa_cons (pv 1) pa_nil))) (pg_name (i := 2) scClaimM.nd rfl (Or.inl rfl)) (pss_one (ps_expr (pe_mt hCk (pv 0) T.cl hr1 pass0 (pa_cons (pv 2) pa_nil)))))
        (pss_cons (ps_par (i := 3) (j := 4) rfl scClaimM.nd rfl rfl (by decide) rfl rfl (pa_cons (pe_fld (pe_fld (pv 0) rfl) rfl) (pa_cons (pe_fld (pe_fld (pv 0) rfl) rfl) pa_nil)) rfl)
        (pss_cons (ps_if (pt_not (pt_val (pe_cl hSo hr rfl pass0 (pa_cons (pv 3) (pa_cons (pv 1) pa_nil))))) (pss_one ps_never) pss_nil)
        (pss_one (ps_fld (pv 0) (pe_make MS GS hr2 rfl gS bS .nil pass0 (pa_cons (pv 3) (pa_cons (pe_tup (StX.pa_star (pv 4) (pa_cons (pv 1) pa_nil))) (pa_cons (pe_fld (pv 0) rfl) pa_nil)))) rfl))))), ?_⟩
      refine ⟨_, rfl, c, wd, z.1, r, rfl, C.ec, C.hw, C.hl, fun H1 s1 => ⟨_, rfl, iteF ?_⟩⟩
      refine ⟨_, rfl, c, wd, z.1, r, rfl, s1 _ _ C.ec, C.hw, fun t H2 s2 et => ⟨t, rfl, ⟨_, SqT.of et⟩, ?_⟩⟩
      have s12 := s1.trans s2
      have hD2 := hD0.same s12
      obtain ⟨dx, st, e, eq, ⟨dx', d, sd, est, ed, esd, hB, hR, hdm⟩, hP⟩ := id hD2
      refine for_it (walk_tup (K := K) (a := t) (xs := [V.str z.1])) (fun i σ H' => H' = H2 ∧ ∃ v2, σ = [some (.ref q), some (.ref c), v2, none, none]) ⟨rfl, _, rfl⟩ (fun i σ H' _ h => by rw [h.1]; exact SqT.of et) (fun i x σ H3 H4 hi h hy => ?_) (fun σ H3 h => ?_)
      · obtain ⟨rfl, hx⟩ := hy
        obtain ⟨rfl, v2, rfl⟩ := h
        have i0 : i = 0 := by simpa using hi
        subst i0
        have ex : x = V.str z.1 := (Option.some.inj hx).symm
        subst ex
        exact ⟨_, rfl, q, dx, _, rfl, eq, rfl, _, rfl, q, z.1, L, B, past, rfl, hD2.sub (fun m hm => by cases hm), hasT_iff.mpr ⟨z, C.hz, rfl⟩, rfl, _, rfl⟩
      obtain ⟨rfl, v2, rfl⟩ := h
      refine ⟨_, rfl, q, CD, dx, _, _, rfl, eq, T.cl, T.f1, rfl, st, CS, dx', _, _, rfl, est, TS.cl, TS.f1, rfl, _, rfl, q, CD, dx, _, _, rfl, eq, T.cl, T.f1, rfl, st, CS, dx', _, _, rfl, est, TS.cl, TS.f2, rfl, _, _, rfl, ?_⟩
      refine ⟨_, rfl, _, rfl, d, c, wd, r, L, z, p, rfl, ed, C.ok, C.hz, C.hA.same s12, C.pk, s12 _ _ C.ec, C.hw, C.hl.1, fun H4 s4 => ⟨_, rfl, ?_⟩⟩
      rw [hso]
      refine iteF ?_
      have ec4 := s4 _ _ (s12 _ _ C.ec)
      refine ⟨_, rfl, _, rfl, sd, bidR B, rfl, .inl (SqT.of (s4 _ _ esd)), _, rfl, ?_, fun sd' hsd' => ⟨_, rfl, q, CD, dx, _, _, rfl, keep1 (s4 _ _ eq) hsd', T.cl, T.f1, rfl, fun x dy hx hdy ne => ?_⟩⟩
      · rw [List.length_append, List.length_map, sizeLine_eq]
        show B.length + 1 ≤ _
        omega
      have s5 := s4.trans (same_new (o := .tup (bidR B ++ [V.ref c])) hsd')
      have esd' : upd H4 sd' (.tup (bidR B ++ [V.ref c])) sd' = some (.tup (bidR (B ++ [(c, [.str wd, .str z.1, .str r])]))) := by
        rw [upd_same]
        unfold bidR
        rw [List.map_append]
        rfl
      generalize upd H4 sd' (.tup (bidR B ++ [V.ref c])) = H5 at *
      have sm := (same_new (o := .own x) hdy).trans (same_new (o := .ins CS dy []) (by rw [upd_ne ne.symm]; exact hx))
      refine ⟨x, dy, d, sd', _, past.length + 1, rfl, upd_same, .inr ⟨st, dx', d, sd, e, past.length, rfl, sm _ _ (s5 _ _ est), rfl⟩, fun H7 keep ex => ⟨rfl, ?_⟩⟩
      have s7 : Same H5 H7 := fun b o e => keep b o (ne_of_none e hx) (sm _ _ e)
      have s57 := s5.trans s7
      have eq7 := s57 _ _ eq
      refine ⟨_, rfl, q, CD, dx, _, rfl, eq7, T.cl, T.f1, (by show 1 < 1000; decide), ?_⟩
      have hS7 : StAt H7 CS CU st L B e past.length ms := StAt.chg (S := []) ⟨dx', d, sd, est, ed, esd, hB, hR, hdm⟩ (Fr.of s57) (fun b hb => by cases hb)
      have hP7 : PastH H7 CS CU ms e past := PastH.chg (S := []) (Fr.of s57) (fun b hb => by cases hb) hP
      refine y _ (fun b o nb e => ?_) (deskP_new (past := (L, B) :: past) eq7 ex (s57 _ _ ed) (s7 _ _ esd') (fun b hb => ?_) (fun z hz => hR.same s57 z hz) hdm ⟨st, e, rfl, hS7, hP7⟩)
      · rw [upd_ne (nb q (by simp))]
        exact s57 _ _ (s12 _ _ e)
      · rcases List.mem_append.mp hb with hb | hb
        · exact s57 _ _ (hB b hb)
        · rw [List.mem_singleton.mp hb]
          exact s57 _ _ (s12 _ _ C.ec)
    · have hr1 := hr.mono (by decide : 1 ≤ 7)
      have hr2 := hr.mono (by decide : 2 ≤ 7)
      have hr4 := hr.mono (by decide : 4 ≤ 7)
      refine ⟨_, pss_cons (ps_if (pt_not (pt_val (pe_cl hIc hr4 rfl pass0 (pa_cons (pv 1) pa_nil)))) (pss_one ps_never) pss_nil)
        (pss_cons (ps_for (passes_of rfl) rfl (pi_tup (pe_cl hNo hr1 rfl pass0 (pa_cons (pv 1) pa_nil))) (pg_name (i := 2) scClaimM.nd rfl (Or.inl rfl)) (pss_one (ps_expr (pe_mt hCk (pv 0) T.cl hr1 pass0 (pa_cons (pv 2) pa_nil)))))
        (pss_cons (ps_par (i := 3) (j := 4) rfl scClaimM.nd rfl rfl (by decide) rfl rfl (pa_cons (pe_fld (pe_fld (pv 0) rfl) rfl) (pa_cons (pe_fld (pe_fld (pv 0) rfl) rfl) pa_nil)) rfl)
        (pss_cons (ps_if (pt_not (pt_val (pe_cl hSo hr rfl pass0 (pa_cons (pv 3) (pa_cons (pv 1) pa_nil))))) (pss_one (ps_raise2 Z hr2 rfl rfl rfl (L2N.takes_of rfl rfl rfl rfl) (pa_cons (pe_callB call_len_seq (by rfl) hL PySem.boot_len (pa_cons (pv 4) pa_nil)) (pa_cons (pe_cl hSh hr2 rfl pass0 (pa_cons (pv 3) (pa_cons (pv 1) pa_nil))) pa_nil)))) pss_nil)
        (pss_one ps_never)))), ?_⟩
      refine ⟨_, rfl, c, wd, z.1, r, rfl, C.ec, C.hw, C.hl, fun H1 s1 => ⟨_, rfl, iteF ?_⟩⟩
      refine ⟨_, rfl, c, wd, z.1, r, rfl, s1 _ _ C.ec, C.hw, fun t H2 s2 et => ⟨t, rfl, ⟨_, SqT.of et⟩, ?_⟩⟩
      have s12 := s1.trans s2
      have hD2 := hD0.same s12
      obtain ⟨dx, st, e, eq, ⟨dx', d, sd, est, ed, esd, hB, hR, hdm⟩, hP⟩ := id hD2
      refine for_it (walk_tup (K := K) (a := t) (xs := [V.str z.1])) (fun i σ H' => H' = H2 ∧ ∃ v2, σ = [some (.ref q), some (.ref c), v2, none, none]) ⟨rfl, _, rfl⟩ (fun i σ H' _ h => by rw [h.1]; exact SqT.of et) (fun i x σ H3 H4 hi h hy => ?_) (fun σ H3 h => ?_)
      · obtain ⟨rfl, hx⟩ := hy
        obtain ⟨rfl, v2, rfl⟩ := h
        have i0 : i = 0 := by simpa using hi
        subst i0
        have ex : x = V.str z.1 := (Option.some.inj hx).symm
        subst ex
        exact ⟨_, rfl, q, dx, _, rfl, eq, rfl, _, rfl, q, z.1, L, B, past, rfl, hD2.sub (fun m hm => by cases hm), hasT_iff.mpr ⟨z, C.hz, rfl⟩, rfl, _, rfl⟩
      obtain ⟨rfl, v2, rfl⟩ := h
      refine ⟨_, rfl, q, CD, dx, _, _, rfl, eq, T.cl, T.f1, rfl, st, CS, dx', _, _, rfl, est, TS.cl, TS.f1, rfl, _, rfl, q, CD, dx, _, _, rfl, eq, T.cl, T.f1, rfl, st, CS, dx', _, _, rfl, est, TS.cl, TS.f2, rfl, _, _, rfl, ?_⟩
      refine ⟨_, rfl, _, rfl, d, c, wd, r, L, z, p, rfl, ed, C.ok, C.hz, C.hA.same s12, C.pk, s12 _ _ C.ec, C.hw, C.hl.1, fun H4 s4 => ⟨_, rfl, ?_⟩⟩
      rw [hso]
      refine iteT ?_
      have s14 := s12.trans s4
      refine ⟨_, rfl, sd, bidR B, rfl, .inr (SqT.of (s4 _ _ esd)), _, rfl, _, rfl, d, c, wd, r, L, z, rfl, s4 _ _ ed, C.ok, C.hz, s14 _ _ C.ec, C.hw, fun H5 s5 => ⟨_, _, rfl, fun a' d' H6 na ne s6 ex => ?_⟩⟩
      refine rs2_end (X := cxOf (L2N.CX P w) P w K mg base _ _ _ f cdv A outer s H E) (W := fun cls d _ H => E cls d H) (σ := []) (raises_own b1 b2) (s14.trans s5) na ne s6 ex fun H7 s7 e7 => ?_
      rw [show ((bidR B).length : Int) = (B.length : Int) by rw [List.length_map]] at e7
      exact y d' H7 ((s14.trans s5).trans s7) e7
end
end My
namespace My
open PySem PySem.Spec PyProof.Rows L2 PySem.GX L2H LamX
section
variable {P : Program} {w : World} {K : PySem.W.Frag} {mg : Str → Option Value} {base : Heap}
abbrev nEndB : List Str := ["_law_box_here", "_law_begin", "_law_line_here", "_law_here", "_law_letter"]
theorem scEndB : FnScope nEndB ["_law_box_here", "_law_begin", "_law_line_here"] (defScope sEnd) := ⟨rfl, rfl, rfl, by decide +kernel, rfl, by decide +kernel, by decide +kernel⟩
theorem ok_endB {f : Addr} {fd : FuncData} (F : Fun K "_law_end" "_law_end" sEnd f fd) : FnOk P w K mg base CX0 1 f fd ["_law_box_here", "_law_begin", "_law_line_here"] spEndB := by
  refine F.ok scEndB (fun vs H Q E h => ?_) (fun cdv A outer s H vs Q E hr h => ?_)
  · obtain ⟨q, p, ws, t, r, rfl, _⟩ := h
    rfl
  · obtain ⟨q, p, ws, t, r, rfl, ⟨lw, lf, g, kvs, eq, ew, ef, eg, cv⟩, ok, ht, hin, k⟩ := h
    refine ⟨_, pss_cons (ps_set (i := 3) scEndB.nd rfl (Or.inl rfl) (pv 1))
      (pss_cons (ps_for PassesOwn.never rfl (pi_str (pv 2)) (pg_name (i := 4) scEndB.nd rfl (Or.inl rfl)) (pss_one (ps_set (i := 3) scEndB.nd rfl (Or.inl rfl) (pe_dget (hu_of hr) (pe_ix ix_tup (pv 0) pe_int (fun _ _ => rfl)) (pe_tup (pa_cons (pv 3) (pa_cons (pv 4) pa_nil))) (fun _ _ => rfl)))))
      (pss_one (ps_ret (pv 3)))), ?_⟩
    refine ⟨_, rfl, _, rfl, r, rfl, ?_⟩
    refine for_it walk_str (fun i σ H' => ∃ v4, σ = [some (.ref q), some (.str t), some (.str r), some (.str (walkL p t (r.cps.toList.take i))), v4] ∧ Same H H') ⟨none, rfl, Same.refl _⟩ (fun _ _ _ _ _ => trivial) (fun i y σ H2 H3 hi h hy => ?_) (fun σ H2 h => ?_)
    · obtain ⟨rfl, c, hc, rfl⟩ := hy
      obtain ⟨v4, rfl, s2⟩ := h
      have hc' : r.cps.toList[i]? = some c := by rw [Array.getElem?_toList]; exact hc
      have hm := walk_mem ok (r.cps.toList.take i) t ht fun d hd => hin d (List.mem_of_mem_take hd)
      have hg := cv _ hm c (hin c (List.mem_of_getElem? hc'))
      refine ⟨_, rfl, q, _, _, V.ref g, rfl, rfl, SqT.of (s2 _ _ eq), atI_nat (j := 3) rfl, _, rfl, _, rfl, (by show 2 ≤ sizeLine; decide), fun t' ht' => ⟨g, .str (ledL p (walkL p t (r.cps.toList.take i)) c), rfl, ?_, ?_⟩⟩
      · have := DGet.t (k := kT (walkL p t (r.cps.toList.take i)) c) (keep1 (s2 _ _ eg) ht') (upd_same (o := .tup ((kT (walkL p t (r.cps.toList.take i)) c).map kV)))
        rw [hg] at this
        exact this
      · refine ⟨some (.str (sg c)), ?_, s2.trans (same_new ht')⟩
        rw [List.take_add_one, hc']
        show _ = [_, _, _, some (V.str (walkL p t (r.cps.toList.take i ++ [c]))), _]
        unfold walkL
        rw [List.foldl_append]
        rfl
    · obtain ⟨v4, rfl, s2⟩ := h
      refine ⟨_, rfl, ?_⟩
      have : r.cps.toList.take r.cps.size = r.cps.toList := by rw [← Array.length_toList, List.take_length]
      rw [this]
      exact k _ s2
end
end My
namespace My
open PySem PySem.Spec PyProof.Rows L2 PySem.GX L2H LamX
theorem in_natsI (n : Nat) : ∀ ns : List Nat, inV (.int (n : Int)) (natsI ns) = decide (n ∈ ns)
  | [] => rfl
  | m :: t => by
    have ih := in_natsI n t
    unfold inV natsI at *
    rw [List.map_cons, List.any_cons, ih]
    have e : eqV (V.int (m : Int)) (V.int (n : Int)) = decide (n = m) := by
      show decide ((m : Int) = (n : Int)) = _
      rw [Bool.eq_iff_iff, decide_eq_true_eq, decide_eq_true_eq]
      omega
    rw [e, Bool.eq_iff_iff, Bool.or_eq_true_iff, decide_eq_true_eq, decide_eq_true_eq, decide_eq_true_eq, List.mem_cons]
theorem flat_natsI (ns : List Nat) : (natsI ns).all flatV = true := by
  rw [List.all_eq_true]
  intro v hv
  obtain ⟨n, _, rfl⟩ := List.mem_map.mp hv
  rfl
def rowOkB (x : Str) : Option Str → Bool
  | some r => r.cps.toList.all fun c => decide (c ∈ x.cps.toList)
  | none => false
def fullAt (its : List (Option Str)) (n : Nat) : Bool := match its[n]? with
  | some (some r) => decide (0 < r.length)
  | _ => true
def areL (x : Str) (o : Option (List (Option Str))) (sizes filled : List Nat) : Bool := match o with
  | none => false
  | some its => (decide (its.length ∈ sizes) && its.all (rowOkB x)) && filled.all (fullAt its)
theorem rowOkB_in {x r : Str} (h : rowOkB x (some r) = true) : ∀ c ∈ r.cps.toList, c ∈ x.cps.toList := fun c hc => of_decide_eq_true (List.all_eq_true.mp h c hc)
theorem row_glyphs (x r : Str) : (r.cps.toList.filter fun c => !decide (c ∈ x.cps.toList)).isEmpty = rowOkB x (some r) := by
  rw [Bool.eq_iff_iff, List.isEmpty_iff, others_nil]
  exact ⟨fun h => List.all_eq_true.mpr fun c hc => decide_eq_true (h c hc), rowOkB_in⟩
theorem empty_is (r : Str) : decide (V.str r = V.str (Str.ofString "")) = !decide (0 < r.length) := by
  rw [Bool.eq_iff_iff, decide_eq_true_eq, Bool.not_eq_true', decide_eq_false_iff_not]
  constructor
  · intro h
    injection h with h
    rw [h]
    decide
  · intro h
    have : r = Str.ofString "" := str_ext (by
      have e : r.cps.toList.length = 0 := by
        rw [Array.length_toList]
        show r.length = 0
        omega
      rw [List.eq_nil_of_length_eq_zero e]
      rfl)
    rw [this]
theorem empties_isB (its : List (Option Str)) : ∀ (ns : List Nat), (ns.filterMap fun n => if fullAt its n = true then none else some (V.int (n : Int))).isEmpty = ns.all (fullAt its)
  | [] => rfl
  | n :: t => by
    have ih := empties_isB its t
    rw [List.filterMap_cons, List.all_cons]
    cases hn : fullAt its n with
    | true => rw [if_pos rfl, Bool.true_and]; exact ih
    | false => rw [if_neg Bool.false_ne_true, Bool.false_and]; rfl
end My
namespace My
open PySem PySem.Spec PyProof.Rows L2 PySem.GX L2H LamX
/-! the law's own: a drawn row with letters of others, whether a row is good -/
abbrev sLineR : Stmt := sLine
def spLineR : Sp := fun vs H Q _ => ∃ (p : Addr) (x : Str), vs = [.ref p, .str x] ∧ Wl H p ∧ 0 < x.length ∧ x.length ≤ 1000 ∧ (∀ c ∈ x.cps.toList, c ∈ abc.cps.toList) ∧ ∀ (r : Str) (H' : Hp), r.length ≤ 8 → (∀ c ∈ r.cps.toList, c ∈ abc.cps.toList) → Sb p H H' → Wl H' p → Q (.str r) H'
def spFineL : Sp := fun vs H Q _ => ∃ (q : Addr) (p : Parts) (r : Str), vs = [.ref q, .str r] ∧ BxF H q p p.ms ∧ PartsOk p ∧ InS p r ∧ ∀ H', Same H H' → Q (.bl (decide (walkL p (firstL p) r.cps.toList ∈ p.gs))) H'
def spHoldsL : Sp := fun vs H Q _ => ∃ (q : Addr) (p : Parts) (r : Str), vs = [.ref q, .str r] ∧ BxF H q p p.ms ∧ PartsOk p ∧ r.length ≤ 1000 ∧ ∀ H', Same H H' → Q (.bl (goodRowL p r)) H'
/-- a letter of the alphabet, drawn -/
def tLetD : TE := fun σ H Q => ∃ p : Addr, σ[0]? = some (some (.ref p)) ∧ Wl H p ∧ ∀ (c : Nat) (H' : Hp), c ∈ abc.cps.toList → Sb p H H' → Wl H' p → Q (.str (sg c)) H'
theorem abcAt {j : Nat} (h : j < 26) : ∃ c, abc.cps.toList[j]? = some c ∧ c ∈ abc.cps.toList := by
  have hl : abc.cps.toList.length = 26 := by decide +kernel
  exact ⟨_, List.getElem?_eq_getElem (by omega), List.getElem_mem _⟩
section
variable {P : Program} {w : World} {K : PySem.W.Frag} {mg : Str → Option Value} {base : Heap}
abbrev nLineR : List Str := ["_law_purse_here", "_law_letters_here", "_law_line_here", "_law_spot", "_law_k"]
theorem scLineR : FnScope nLineR ["_law_purse_here", "_law_letters_here"] (defScope sLine) := ⟨rfl, rfl, rfl, by decide +kernel, rfl, by decide +kernel, by decide +kernel⟩
theorem ok_lineR {f : Addr} {fd : FuncData} (F : Fun K "_law_line" "_law_line" sLine f fd) (hP : Hv P w K mg base 1 "_law_pick" ["_law_purse_here", "_law_size"] spPk) (hR : mg "range" = none) (hL : mg "len" = none) : FnOk P w K mg base CX0 2 f fd ["_law_purse_here", "_law_letters_here"] spLineR := by
  refine F.ok scLineR (fun vs H Q E h => ?_) (fun cdv A outer s H vs Q E hr h => ?_)
  · obtain ⟨p, x, rfl, _⟩ := h
    rfl
  · obtain ⟨p, x, rfl, hW, z0, z1, xa, k⟩ := h
    refine ⟨_, pss_cons (ps_set (i := 2) scLineR.nd rfl (Or.inl rfl) (pe_join pe_str (pe_lc (own := [("_law_k", 4)]) (g := gName 4) (tt := tYes) rfl scLineR.nd (pi_range1 rfl hR (pa_cons (pe_cl hP hr rfl pass0 (pa_cons (pv 0) (pa_cons pe_int pa_nil))) pa_nil)) (blkOk_by (N := nLineR) (sc := defScope sLine) (by decide +kernel))
      (fun _ _ _ _ _ => pg_name (i := 4) scLineR.nd rfl (Or.inl rfl)) (fun _ _ _ _ _ => pts_nil) (fun _ _ _ _ _ => pe_ix ix_str (pv 1) (pe_cl hP hr rfl pass0 (pa_cons (pv 0) (pa_cons (pe_callB call_len_str (by rfl) hL PySem.boot_len (pa_cons (pv 1) pa_nil)) pa_nil))) (fun _ _ => rfl)))))
      (pss_cons (ps_if (pt_cmpR op_eq (pe_cl hP hr rfl pass0 (pa_cons (pv 0) (pa_cons pe_int pa_nil))) pe_int (nomark _))
        (pss_cons (ps_set (i := 3) scLineR.nd rfl (Or.inl rfl) (pe_cl hP hr rfl pass0 (pa_cons (pv 0) (pa_cons (pe_op op_add (pe_callB call_len_str (by rfl) hL PySem.boot_len (pa_cons (pv 2) pa_nil)) pe_int) pa_nil))))
        (pss_one (ps_ret (pe_op op_add_str (pe_op op_add_str (pe_slice sl_str (pv 2) po_none (po_some (pv 3))) (PE_imp (t' := tLetD) (pe_ix ix_str pe_str (pe_cl hP hr rfl pass0 (pa_cons (pv 0) (pa_cons pe_int pa_nil))) (fun _ _ => rfl)) ?iLet)) (pe_slice sl_str (pv 2) (po_some (pv 3)) po_none))))) pss_nil)
      (pss_one (ps_ret (pv 2)))), ?_⟩
    case iLet =>
      rintro σ H Q ⟨p, e0, hW, y⟩
      refine ⟨_, e0, p, 26, rfl, hW, by decide, by decide, fun d H1 d0 d1 s1 hW1 => ?_⟩
      obtain ⟨j, rfl⟩ := Int.eq_ofNat_of_zero_le d0
      obtain ⟨c, hc, hm⟩ := abcAt (j := j) (by omega)
      exact ⟨abc, _, c, rfl, rfl, by rw [sizeLine_eq]; decide +kernel, atI_nat hc, y c H1 hm s1 hW1⟩
    have zs : x.length ≤ sizeLine := by rw [sizeLine_eq]; omega
    refine ⟨⟨_, rfl⟩, _, rfl, p, _, rfl, hW, by omega, by omega, fun d H1 d0 d1 s1 hW1 => ?_⟩
    obtain ⟨m, rfl⟩ := Int.eq_ofNat_of_zero_le d0
    have hm : m < 8 := by omega
    refine ⟨m, rfl, by omega, by omega, fun D hD' => ?_⟩
    have nD : D ≠ p := hW1.new hD'
    refine lc_range (lo := 0) (n := m) (fun i H' => Wl H' p ∧ (∀ b o, b ≠ p → b ≠ D → H1 b = some o → H' b = some o) ∧ ∃ cs : List Nat, cs.length = i ∧ (∀ c ∈ cs, c ∈ x.cps.toList) ∧ H' D = some (.lst ((cs.map sg).map V.str)))
      ⟨hW1.upd_ nD, fun b o n1 n2 e => by rw [upd_ne n2]; exact e, [], rfl, (fun c hc => by cases hc), upd_same⟩ (fun i H' hi h => ?_) (fun H' h => ?_)
    · obtain ⟨hW2, st, cs, lc, inc, eD⟩ := h
      refine ⟨rfl, _, rfl, _, rfl, _, rfl, x, rfl, zs, p, _, rfl, hW2, by omega, by omega, fun d H3 d0 d1 s3 hW3 => ?_⟩
      obtain ⟨j, rfl⟩ := Int.eq_ofNat_of_zero_le d0
      have hj : j < x.cps.toList.length := by
        rw [Array.length_toList]
        show j < x.length
        omega
      have ei : x.cps.toList[j]? = some x.cps.toList[j] := List.getElem?_eq_getElem hj
      have hc : x.cps.toList[j] ∈ x.cps.toList := List.getElem_mem hj
      generalize x.cps.toList[j] = c at ei hc
      refine ⟨x, _, c, rfl, rfl, zs, atI_nat ei, _, s3 _ _ nD eD, ?_, hW3.upd_ nD, fun b o' n1 n2 e => ?_, cs ++ [c], by rw [List.length_append, lc]; rfl, fun d hd => ?_, ?_⟩
      · rw [List.length_map, List.length_map, lc, sizeLine_eq]
        omega
      · rw [upd_ne n2]
        exact s3 _ _ n1 (st b o' n1 n2 e)
      · rcases List.mem_append.mp hd with m | m
        · exact inc d m
        · have : d = c := by simpa using m
          rw [this]; exact hc
      · rw [upd_same, List.map_append, List.map_append]
        rfl
    · obtain ⟨hW2, st, cs, lc, inc, eD⟩ := h
      refine ⟨_, D, cs.map sg, rfl, rfl, .inl (SqL.of eD), ?_, ?_⟩
      · have : ((cs.map sg).map (·.length)).sum = cs.length := by
          clear eD lc inc
          induction cs with
          | nil => rfl
          | cons a t ih => rw [List.map_cons, List.map_cons, List.sum_cons, ih, List.length_cons]; show 1 + _ = _; omega
        rw [this, List.length_map]
        have e0 : (Str.ofString "").length = 0 := rfl
        rw [e0]
        omega
      · have e0 : (Str.ofString "") = Str.empty := rfl
        rw [e0, join_sgs]
        have lr : (⟨cs.toArray⟩ : Str).length = m := by
          show cs.toArray.size = m
          simpa using lc
        have mr : ∀ c ∈ (⟨cs.toArray⟩ : Str).cps.toList, c ∈ abc.cps.toList := fun c hc => xa c (inc c (by simpa using hc))
        have sb : Sb p H H' := fun b o' n1 e => by
          have e1 := s1 b o' n1 e
          exact st b o' n1 (ne_of_none e1 hD') e1
        generalize (⟨cs.toArray⟩ : Str) = r at lr mr
        clear eD st inc lc hD' nD
        have zr : r.length ≤ sizeLine := by rw [sizeLine_eq]; omega
        refine ⟨_, rfl, p, 4, rfl, hW2, by decide, by decide, fun d H3 d0 d1 s3 hW3 => ⟨rfl, _, rfl, ite2 (fun c => ?_) (fun c => ?_)⟩⟩
        · refine ⟨_, rfl, _, rfl, r, rfl, zr, _, _, rfl, rfl, p, _, rfl, hW3, by omega, by omega, fun d H4 d0 d1 s4 hW4 => ?_⟩
          obtain ⟨j, rfl⟩ := Int.eq_ofNat_of_zero_le d0
          have cl : ∀ lo hi, (cutS r lo hi).length ≤ m := fun lo hi => by have := cut_len0 r lo hi; omega
          have c1 := cl none (some (j : Int))
          have c2 := cl (some (j : Int)) none
          refine ⟨_, rfl, _, rfl, _, rfl, r, rfl, zr, p, rfl, hW4, fun c H5 hc s5 hW5 => ?_⟩
          have c3 : (sg c).length = 1 := rfl
          refine ⟨_, _, rfl, rfl, by rw [sizeLine_eq]; omega, _, rfl, _, rfl, _, rfl, r, rfl, zr, _, _, rfl, rfl, by rw [len_app, sizeLine_eq]; omega, ?_⟩
          have jl : j ≤ r.length := by omega
          have e1 := cut_hi (x := r) (j := j) jl (by omega)
          have e2 := cut_lo (x := r) (j := j) jl (by omega)
          have a1 : (cutS r none (some (j : Int))).length = j := by
            have := congrArg List.length e1
            rw [List.length_take, Array.length_toList, Array.length_toList] at this
            have q1 : (cutS r none (some (j : Int))).cps.size = (cutS r none (some (j : Int))).length := rfl
            have q2 : r.cps.size = r.length := rfl
            omega
          have a2 : (cutS r (some (j : Int)) none).length = r.length - j := by
            have := congrArg List.length e2
            rw [List.length_drop, Array.length_toList, Array.length_toList] at this
            exact this
          refine k _ _ ?_ (fun d hd => ?_) (((sb.trans s3).trans s4).trans s5) hW5
          · rw [len_app, len_app]
            omega
          · rw [cps_app, cps_app] at hd
            simp only [List.mem_append] at hd
            rcases hd with (hd | hd) | hd
            · exact mr d (cut_sub _ _ _ d hd)
            · have : d = c := by simpa using hd
              rw [this]; exact hc
            · exact mr d (cut_sub _ _ _ d hd)
        · exact ⟨_, rfl, k r _ (by omega) mr (sb.trans s3) hW3⟩
theorem scFineL : FnScope ["_law_box_here", "_law_line_here"] ["_law_box_here", "_law_line_here"] (defScope sFine) := ⟨rfl, rfl, rfl, by decide +kernel, rfl, by decide +kernel, by decide +kernel⟩
theorem ok_fineL {f : Addr} {fd : FuncData} (F : Fun K "_law_is_fine" "_law_is_fine" sFine f fd) (hEn : Hv P w K mg base 1 "_law_end" ["_law_box_here", "_law_begin", "_law_line_here"] spEndB) : FnOk P w K mg base CX0 2 f fd ["_law_box_here", "_law_line_here"] spFineL := by
  refine F.ok scFineL (fun vs H Q E h => ?_) (fun cdv A outer s H vs Q E hr h => ?_)
  · obtain ⟨q, p, r, rfl, _⟩ := h
    rfl
  · obtain ⟨q, p, r, rfl, hB, ok, ir, k⟩ := h
    refine ⟨_, pss_one (ps_ret (pe_cmpR op_in_seq (pe_cl hEn hr rfl pass0 (pa_cons (pv 0) (pa_cons (pe_ix ix_list (pe_ix ix_tup (pv 0) pe_int (fun _ _ => rfl)) pe_int (fun _ _ => rfl)) (pa_cons (pv 1) pa_nil)))) (pe_ix ix_tup (pv 0) pe_int (fun _ _ => rfl)) (by rfl))), ?_⟩
    obtain ⟨ms, em⟩ := ok.first
    have ef : (p.ms.map V.str)[0]? = some (.str (firstL p)) := by rw [em]; rfl
    have mf : firstL p ∈ p.ms := by rw [em]; simp
    obtain ⟨lw, lg, g, kvs, eq, ew, eg, _, _⟩ := id hB
    refine ⟨_, rfl, _, rfl, q, _, _, V.ref lw, rfl, rfl, SqT.of eq, atI_nat (j := 1) rfl, lw, _, _, V.str (firstL p), rfl, rfl, SqL.of ew, atI_nat (j := 0) ef, _, rfl, q, p, p.ms, firstL p, r, rfl, hB, ok, mf, ir, fun H1 s1 => ?_⟩
    refine ⟨_, rfl, q, _, _, V.ref lg, rfl, rfl, SqT.of (s1 _ _ eq), atI_nat (j := 2) rfl, lg, _, rfl, .inl (SqL.of (s1 _ _ eg)), rfl, flat_strs _, ?_⟩
    show Q (.bl (inV (.str _) (p.gs.map V.str))) H1
    rw [in_strs]
    exact k _ s1
abbrev nHoldsL : List Str := ["_law_box_here", "_law_line_here", "_law_letter"]
theorem scHoldsL : FnScope nHoldsL ["_law_box_here", "_law_line_here"] (defScope sHolds) := ⟨rfl, rfl, rfl, by decide +kernel, rfl, by decide +kernel, by decide +kernel⟩
theorem made_glyph (p : Parts) (r : Str) : ((r.cps.toList.filter fun c => !decide (c ∈ p.sg.cps.toList)).map sg).isEmpty = madeL r p.sg := by
  rw [Bool.eq_iff_iff, List.isEmpty_iff, List.map_eq_nil_iff, others_nil, made_all, List.all_eq_true]
  exact ⟨fun h c hc => decide_eq_true (h c hc), fun h c hc => of_decide_eq_true (h c hc)⟩
theorem ok_holdsL {f : Addr} {fd : FuncData} (F : Fun K "_law_holds" "_law_holds" sHolds f fd) (hFi : Hv P w K mg base 2 "_law_is_fine" ["_law_box_here", "_law_line_here"] spFineL) : FnOk P w K mg base CX0 3 f fd ["_law_box_here", "_law_line_here"] spHoldsL := by
  refine F.ok scHoldsL (fun vs H Q E h => ?_) (fun cdv A outer s H vs Q E hr h => ?_)
  · obtain ⟨q, p, r, rfl, _⟩ := h
    rfl
  · obtain ⟨q, p, r, rfl, hB, ok, zr, k⟩ := h
    have hu := hu_of hr
    have hu0 : (A.deeper (envOfC "_law_holds" (defScope sHolds) s.heap.objs.size f cdv)).units < cLine := by omega
    refine ⟨_, pss_one (ps_ret (pe_and (pe_cmpR (op_eqNil hu0) (pe_lc (own := [("_law_letter", 2)]) (g := gName 2) rfl scHoldsL.nd (pi_str (pv 1)) (blkOk_by (N := nHoldsL) (sc := defScope sHolds) (by decide +kernel)) (fun _ _ _ _ _ => pg_name (i := 2) scHoldsL.nd rfl (Or.inl rfl)) (fun _ _ _ _ _ => pts_one (pt_cmpR op_notIn_sign (pv 2) (pe_ix (ix_tupK (K := K) rfl) (pv 0) pe_int (fun _ _ => rfl)) (by rfl))) (fun _ _ _ _ _ => pv 2)) (pe_lst pa_nil) (nomark _)) (pe_one (pe_cl hFi hr rfl pass0 (pa_cons (pv 0) (pa_cons (pv 1) pa_nil)))))), ?_⟩
    obtain ⟨lw, lg, g, kvs, eq, _⟩ := id hB
    refine ⟨_, rfl, r, rfl, fun D hD => ?_⟩
    refine lcG (r.cps.toList) (fun c => if (!decide (c ∈ p.sg.cps.toList)) = true then some (.str (sg c)) else none) (by rw [Array.length_toList]; exact walk_str) (by rw [Array.length_toList]; show r.length ≤ _; omega) hD (fun i H x H' h => by rw [h.1]; exact Same.refl _) (fun _ _ => trivial) (fun i c y H' H'' k1 hc s1 hy k2 => ?_) (fun H' s' e => ?_)
    · obtain ⟨rfl, c', hc', rfl⟩ := hy
      rw [← Array.getElem?_toList, hc] at hc'
      cases hc'
      refine ⟨rfl, _, rfl, _, rfl, q, _, _, V.str p.sg, rfl, rfl, SqT.of (s1 _ _ eq), atI_nat (j := 0) rfl, c, _, rfl, rfl, _, rfl, ?_⟩
      have k2 := k2 _ (Same.refl _)
      refine ite2 (fun b => ?_) (fun b => ?_)
      · rw [if_pos b] at k2
        exact ⟨_, rfl, k2⟩
      · rw [if_neg b] at k2
        exact k2
    · rw [fm_sg] at e
      refine ⟨by show 0 ≤ sizeLine; decide, fun l0 h0 => ⟨D, l0, _, rfl, rfl, SqL.of (keep1 e h0), SqL.of upd_same, _, rfl, ?_⟩⟩
      have eE : ∀ l : List Nat, ((l.map sg).map V.str).isEmpty = (l.map sg).isEmpty := fun l => by cases l <;> rfl
      have s6 := s'.trans (same_new (o := .lst []) h0)
      rw [eE, made_glyph]
      refine ite2 (fun c => ?_) (fun c => ?_)
      · have c : madeL r p.sg = true := c
        have hin : InS p r := fun d hd => by
          have c := c
          rw [made_all, List.all_eq_true] at c
          exact of_decide_eq_true (c d hd)
        refine ⟨_, rfl, _, rfl, q, p, r, rfl, hB.same s6, ok, hin, fun H7 s7 => ?_⟩
        unfold goodRowL moodL at k
        rw [c, Bool.true_and] at k
        exact k _ (s6.trans s7)
      · have c' : madeL r p.sg = false := by simpa using c
        unfold goodRowL at k
        rw [c', Bool.false_and] at k
        exact k _ s6
end
end My
namespace HN
open PySem PySem.Spec PyProof.Rows PySem.SeqAt
section
variable {M : Model} {prog : Program} {w : World} {A : Around} {E : Value → Shared → Prop} {s : Shared} {K : PySem.W.Frag} {x C f : Addr} {ox : Obj} {od : Option Obj} {b tb : Value}
theorem ifBound_objNe {args : List Value} {Q : Option Value → Shared → Prop} (X : K.In s.heap) (I : PySem.W.InstAt s.heap x ox C od) (hs : PySem.W.findIn K (.ref C) "__ne__" = some (some (.builtin "object.__ne__")))
    (h : wpAny M A (call (.builtin "object.__ne__") (.ref x :: args)) (fun v => Q (some v)) E s) : wpAny M A (callSpecialIfBound? (.ref x) "__ne__" args) Q E s := by
  simp only [callSpecialIfBound?, bindSpecialIfBound?]
  refine wpAny_holding (wpAny_bind (wpAny_bind (wpAny_bind (I.type.here ((PySem.W.looks_findIn X hs).here ?_)))))
  refine wpAny_bind (wpAny_askSetting (wpAny_ite ?_))
  have fin : wpAny M A (call (.builtin "object.__ne__") ([.ref x] ++ args) >>= fun v => pure (some v)) Q E s := wpAny_bind (wpAny_mono h (fun v s' h' => wpAny_pure h') fun _ _ h' => h')
  split
  · exact wpAny_bind (wpAny_of_eq (F.cmp_object.ne.bind _) (wpAny_pure (by exact fin)))
  · exact wpAny_tryCatch (wpAny_bind (wpAny_of_eq (F.cmp_object.ne.bind _) (wpAny_pure (by exact fin))))
theorem entry_ne {y : Addr} {Q : Fin → Shared → Prop} (hu : A.units < cLine) (X : K.In s.heap) (I : PySem.W.InstAt s.heap x ox C od) (hs : PySem.W.findIn K (.ref C) "__eq__" = some (some (.ref f))) (hf : PySem.W.isFn K (.ref f) = true)
    (h : wpAny (model prog w) A (call (.ref f) [.ref x, .ref y]) (fun v s' => ∃ r, v = .bool r ∧ Q (.done (.ret (.bool (!r)))) s') E s) : wpAny (model prog w) A (Builtin.«object.__ne__» ⟨[.ref x, .ref y], []⟩) Q E s := by
  have one : wpAny (model prog w) A (callSpecialIfBound? (.ref x) "__eq__" [.ref y]) (fun r s' => ∃ z, r = some (.bool z) ∧ Q (.done (.ret (.bool (!z)))) s') E s :=
    PySem.W.ifBound_K X I hs hf (wpAny_mono h (fun v s' ⟨r, e, q⟩ => ⟨r, by rw [e], q⟩) fun _ _ e => e)
  unfold Builtin.«object.__ne__»
  repeat (first | with_reducible refine wpAny_cRoomFor hu ?_ | with_reducible refine wpAny_bind (wpAny_mono one ?_ fun _ _ e => e) | with_reducible refine wpAny_mono one ?_ fun _ _ e => e | wp_step)
  intro r s' ⟨z, e, q⟩
  subst e
  refine wpAny_bind (wpAny_truthy_bool ?_)
  exact wpAny_pure q
theorem call_objNe {y : Addr} {Q : Value → Shared → Prop} (hu : A.in1.units < cLine) (X : K.In s.heap) (I : PySem.W.InstAt s.heap x ox C od) (hm : PySem.W.mroIn K C (.type "object") = some true) (hs : PySem.W.findIn K (.ref C) "__eq__" = some (some (.ref f))) (hf : PySem.W.isFn K (.ref f) = true)
    (h : wpAny (model prog w) A.in1 (call (.ref f) [.ref x, .ref y]) (fun v s' => ∃ r, v = .bool r ∧ Q (.bool (!r)) s') E s) :
    wpAny (model prog w) A (call (.builtin "object.__ne__") [.ref x, .ref y]) Q E s :=
  wpAny_call (codeAny_call_builtin F.cmp_object.ne.plain F.cmpEntry_ne (PySem.W.check_slot F.cmpKind_ne F.cmpSplit_ne (I.type.andThen (PySem.W.looks_mroIn X hm)) (F.cmpArgs_ne _ _) (entry_ne hu X I hs hf h)))
theorem cmp_one {op : CmpOp} {Q : Value → Shared → Prop} (hu : A.units < cLine) (X : K.In s.heap) (I : PySem.W.InstAt s.heap x ox C od) (hb : PySem.W.Looks (model prog w) s.heap (typeOf b) tb) (hn : PySem.W.notFirst K C tb = true)
    (one : wpAny (model prog w) A (tryCompare (.ref x) (cmpInfo op).2.1 b) (fun r s' => ∃ v, r = some v ∧ Q v s') E s) : wpAny (model prog w) A (richCompare op (.ref x) b) Q E s := by
  unfold richCompare
  simp only [oneThing_ref]
  refine wpAny_holding (wpAny_bind (wpAny_cRoomFor hu ?_))
  refine wpAny_bind (I.type.here (wpAny_bind (hb.here ?_)))
  split
  · rename_i q
    have e : PySem.W.subIn K tb (.ref C) = some false := by
      rcases Bool.or_eq_true_iff.mp hn with e | e
      · rw [beq_iff_eq.mp e] at q; simp at q
      · exact beq_iff_eq.mp e
    refine wpAny_bind ((PySem.W.looks_subIn X e).here ?_)
    simp only [Bool.false_eq_true, if_false]
    refine wpAny_bind (wpAny_mono one (fun r s' z => ?_) fun _ _ e => e)
    obtain ⟨v, rfl, hq⟩ := z
    exact wpAny_pure hq
  · refine wpAny_bind (wpAny_pure ?_)
    simp only [Bool.false_eq_true, if_false]
    refine wpAny_bind (wpAny_mono one (fun r s' z => ?_) fun _ _ e => e)
    obtain ⟨v, rfl, hq⟩ := z
    exact wpAny_pure hq
end
end HN
namespace L2
open PySem PySem.Spec PyProof.Rows PySem.GX
/-- a != b, two instances of a class with its own == and no != -/
def rNeOwn (C : Addr) (sp : Sp) (E : XK) : R2 := fun x y H Q => ∃ a b dx dy fs gs, x = .ref a ∧ y = .ref b ∧ H a = some (.ins C dx fs) ∧ H b = some (.ins C dy gs) ∧ sp [.ref a, .ref b] H (fun v H' => ∃ r, v = .bl r ∧ Q (.bl (!r)) H') E
theorem op_neOwn {X : Cx} {CX : CXT} {k : Nat} {C f : Addr} {fd : FuncData} {ps : List Str} {sp : Sp} {E : XK} (F : FnOk X.prog X.w X.K X.mg X.base CX k f fd ps sp) (hs : PySem.W.findIn X.K (.ref C) "__eq__" = some (some (.ref f))) (hf : PySem.W.isFn X.K (.ref f) = true)
    (hne : PySem.W.findIn X.K (.ref C) "__ne__" = some (some (.builtin "object.__ne__"))) (hm : PySem.W.mroIn X.K C (.type "object") = some true) (hb : Binds X.K fd ps []) (hr : Room (k + 1) X.A) (hx : Passes CX X.nox E) : OpR X (compareOp .NotEq) (rNeOwn C sp E) := by
  intro pins s σ H x y v u Q I rx ry h
  obtain ⟨a, b, dx, dy, fs, gs, rfl, rfl, ha, hb', hq⟩ := h
  cases rx
  cases ry
  obtain ⟨mA, J, _⟩ := ins_get I.hok ha
  obtain ⟨mB, J', _⟩ := ins_get I.hok hb'
  obtain ⟨od, J, _⟩ := J.look
  obtain ⟨od', J', _⟩ := J'.look
  have hr1 := hr.in1
  show wpAny (model X.prog X.w) X.A (richCompare .NotEq (.ref a) (.ref b)) (EP X pins σ Q) X.xe s
  refine HN.cmp_one (tb := .ref C) hr.units0 I.kIn J J'.type (by simp [PySem.W.notFirst]) ?_
  unfold tryCompare
  refine wpAny_bind (HN.ifBound_objNe I.kIn J hne (HN.call_objNe hr1.units0 I.kIn J hm hs hf ?_))
  have r2 : Vals [V.ref a, V.ref b] [Value.ref a, Value.ref b] := .cons rfl (.cons rfl .nil)
  have hl := F.len _ _ _ _ hq
  refine wpAny_call (codeAny_mono (F.run X.A.in1 X.stack s H ⟨[.ref a, .ref b], []⟩ [.ref a, .ref b] [.ref a, .ref b] _ E hr1 I.env0.in1 (by
    have := hb s [.ref a, .ref b] I.kIn (by simpa using hl)
    simpa using this) r2 hq) fun r s' hq => ?_)
  cases r with
  | error e => exact False.elim (hx pins σ H s e s' (I.wish _) hq)
  | ok fl =>
    cases fl with
    | ret u =>
      obtain ⟨z, H', I', rz, r, rfl, q⟩ := I.after hq
      cases rz
      exact ⟨r, rfl, wpAny_pure ⟨_, rfl, .bl (!r), H', I', rfl, q⟩⟩
    | next => exact False.elim hq
    | brk => exact False.elim hq
    | cont => exact False.elim hq
end L2
namespace My
open PySem PySem.Spec PyProof.Rows L2 PySem.GX L2H LamX
/-! what is shown of a desk with claims -/
def vd : V → PyData
  | .str x => .str x
  | .int i => .int i
  | .bl b => .bool b
  | _ => .none
abbrev dataB (b : Bid) : PyData := .tuple (b.2.map vd)
/-- an item of a claim: a text or a small number -/
def ItB (v : V) : Prop := (∃ x, v = .str x ∧ Low x ∧ x.length ≤ 1100) ∨ ∃ i : Int, v = .int i ∧ 0 ≤ i ∧ i ≤ 1000
structure BidOk (b : Bid) : Prop where
  it : ∀ v ∈ b.2, ItB v
  few : b.2.length ≤ 4
theorem sh_it {K : PySem.W.Frag} {H : Hp} {v : V} (h : ItB v) : Sh K H v (vd v) := by
  rcases h with ⟨x, rfl, _⟩ | ⟨i, rfl, _⟩
  · exact .fl (.str x)
  · exact .fl (.int i)
theorem sh_its {K : PySem.W.Frag} {H : Hp} : ∀ vs : List V, (∀ v ∈ vs, ItB v) → ShAll K H vs (vs.map vd)
  | [], _ => .nil
  | v :: t, h => .cons (sh_it (h v (by simp))) (sh_its t fun u hu => h u (by simp [hu]))
theorem sh_bids {K : PySem.W.Frag} {H : Hp} : ∀ B : List Bid, (∀ b ∈ B, BidOk b) → (∀ b ∈ B, H b.1 = some (.tup b.2)) → ShAll K H (bidR B) (B.map dataB)
  | [], _, _ => .nil
  | b :: t, h, e => .cons (.tup (SqT.of (e b (by simp))) (sh_its _ (h b (by simp)).it)) (sh_bids t (fun c hc => h c (by simp [hc])) fun c hc => e c (by simp [hc]))
theorem shown_map : ∀ ds : List PyData, PyData.shownAll ds = ds.map PyData.shown
  | [] => rfl
  | a :: t => by
    rw [List.map_cons, ← shown_map t]
    simp only [PyData.shownAll]
theorem able_map : ∀ ds : List PyData, (∀ d ∈ ds, d.showable = true) → PyData.showableAll ds = true
  | [], _ => rfl
  | a :: t, h => by
    simp only [PyData.showableAll, h a (by simp), able_map t (fun d hd => h d (by simp [hd])), Bool.and_self]
theorem depth_map {k : Nat} : ∀ ds : List PyData, (∀ d ∈ ds, d.depth ≤ k) → PyData.depthAll ds ≤ k
  | [], _ => Nat.zero_le _
  | a :: t, h => by
    have h1 := h a (by simp)
    have h2 := depth_map t (fun d hd => h d (by simp [hd]))
    simp only [PyData.depthAll]
    omega
theorem joinU_len {k : Nat} : ∀ ts : List Str, (∀ t ∈ ts, t.length ≤ k) → (Str.join ", " ts).length ≤ (k + 2) * ts.length
  | [], _ => Nat.zero_le _
  | a :: t, h => by
    have b := sum_le h
    rw [len_join_cons]
    have e : (", " : Str).length = 2 := rfl
    rw [e]
    rw [List.length_cons] at b ⊢
    have e2 : (k + 2) * (t.length + 1) = (t.length + 1) * k + 2 * (t.length + 1) := by
      rw [Nat.add_mul, Nat.mul_comm k]
    rw [e2]
    omega
theorem tuple_len {k : Nat} {ts : List Str} (h : ∀ t ∈ ts, t.length ≤ k) : (tupleText ts).length ≤ (k + 2) * ts.length + 3 := by
  unfold tupleText
  rw [len_app, len_app]
  have b := joinU_len ts h
  have d1 : ("(" : Str).length = 1 := by decide +kernel
  have d2 : (Str.ofString (if ts.length == 1 then ",)" else ")" : String)).length ≤ 2 := by
    by_cases c : (ts.length == 1) = true
    · rw [if_pos c]; decide +kernel
    · rw [if_neg c]; decide +kernel
  show _ + _ + (Str.ofString (if ts.length == 1 then ",)" else ")" : String)).length ≤ _
  omega
theorem list_len {k : Nat} {ts : List Str} (h : ∀ t ∈ ts, t.length ≤ k) : (listText ts).length ≤ (k + 2) * ts.length + 2 := by
  unfold listText
  rw [len_app]
  have a := from_len ts 0 "["
  have c1 : ("[" : Str).length = 1 := by decide +kernel
  have c2 : ("]" : Str).length = 1 := by decide +kernel
  have b : (ts.map fun t => t.length + 2).sum ≤ (k + 2) * ts.length := by
    clear a
    induction ts with
    | nil => exact Nat.zero_le _
    | cons t r ih =>
      have := ih fun u hu => h u (by simp [hu])
      have h1 := h t (by simp)
      rw [List.map_cons, List.sum_cons, List.length_cons, Nat.mul_succ]
      omega
  omega
theorem int_small : ∀ n : Nat, n ≤ 1001 → (PyData.int (n : Int)).showable = true ∧ (PyData.int (n : Int)).shown.length ≤ 12000 ∧ (PyData.int (n : Int)).depth ≤ 1 := by
  have h : ∀ n : Nat, n < 1002 → (PyData.int (n : Int)).showable = true ∧ (PyData.int (n : Int)).shown.length ≤ 12000 ∧ (PyData.int (n : Int)).depth ≤ 1 := by decide +kernel
  exact fun n hn => h n (by omega)
theorem it_shown {v : V} (h : ItB v) : (vd v).showable = true ∧ (vd v).shown.length ≤ 12000 ∧ (vd v).depth ≤ 1 := by
  rcases h with ⟨x, rfl, lx, zx⟩ | ⟨i, rfl, i0, i1⟩
  · refine ⟨by simp only [vd, PyData.showable], ?_, by simp only [vd, PyData.depth]; omega⟩
    have := repr_short lx
    simp only [vd, PyData.shown]
    omega
  · obtain ⟨n, rfl⟩ := Int.eq_ofNat_of_zero_le i0
    exact int_small n (by omega)
theorem bid_shown {b : Bid} (h : BidOk b) : (dataB b).showable = true ∧ (dataB b).shown.length ≤ 50000 ∧ (dataB b).depth ≤ 2 := by
  have hi : ∀ d ∈ b.2.map vd, d.showable = true ∧ d.shown.length ≤ 12000 ∧ d.depth ≤ 1 := fun d hd => by
    obtain ⟨v, hv, rfl⟩ := List.mem_map.mp hd
    exact it_shown (h.it v hv)
  refine ⟨?_, ?_, ?_⟩
  · simp only [PyData.showable]
    exact able_map _ fun d hd => (hi d hd).1
  · have e : (dataB b).shown = tupleText ((b.2.map vd).map PyData.shown) := by
      rw [← shown_map]
      simp only [PyData.shown]
    rw [e]
    have := tuple_len (k := 12000) (ts := (b.2.map vd).map PyData.shown) fun t ht => by
      obtain ⟨d, hd, rfl⟩ := List.mem_map.mp ht
      exact (hi d hd).2.1
    have l := h.few
    rw [List.length_map, List.length_map] at this
    have m : (12000 + 2) * b.2.length ≤ 12002 * 4 := Nat.mul_le_mul_left _ l
    omega
  · have := depth_map (k := 1) _ fun d hd => (hi d hd).2.2
    simp only [PyData.depth]
    omega
def deskDataP (ys : List Str) (B : List Bid) (n : Nat) : List PyData := [.tuple (ys.map .str), .tuple (B.map dataB), .int (n : Int)]
theorem deskP_shown {ys : List Str} {B : List Bid} {n : Nat} (hy : ∀ y ∈ ys, isWordL y = true) (hl : ys.length < 64) (hB : ∀ b ∈ B, BidOk b) (zB : B.length ≤ 100) (hn : n ≤ 1000) : PyData.showableAll (deskDataP ys B n) = true ∧ (PyData.list (deskDataP ys B n)).shown.length ≤ sizeLine ∧ (PyData.list (deskDataP ys B n)).depth ≤ 60 := by
  obtain ⟨i1, i2, i3⟩ := int_small n (by omega)
  have hb : ∀ d ∈ B.map dataB, d.showable = true ∧ d.shown.length ≤ 50000 ∧ d.depth ≤ 2 := fun d hd => by
    obtain ⟨b, hb, rfl⟩ := List.mem_map.mp hd
    exact bid_shown (hB b hb)
  have hs : ∀ d ∈ ys.map PyData.str, d.showable = true ∧ d.shown.length ≤ 100 ∧ d.depth ≤ 1 := fun d hd => by
    obtain ⟨y, hy', rfl⟩ := List.mem_map.mp hd
    refine ⟨by simp only [PyData.showable], ?_, by simp only [PyData.depth]; omega⟩
    have := repr_short (word_low (hy y hy'))
    have := (word_iff.mp (hy y hy')).2.1
    simp only [PyData.shown]
    omega
  have each : ∀ d ∈ deskDataP ys B n, d.showable = true ∧ d.shown.length ≤ 5100000 ∧ d.depth ≤ 3 := by
    intro d hd
    have hd' : d = .tuple (ys.map .str) ∨ d = .tuple (B.map dataB) ∨ d = .int (n : Int) := by simpa [deskDataP] using hd
    rcases hd' with rfl | rfl | rfl
    · refine ⟨by simp only [PyData.showable]; exact able_map _ fun d hd => (hs d hd).1, ?_, ?_⟩
      · have e : (PyData.tuple (ys.map .str)).shown = tupleText ((ys.map PyData.str).map PyData.shown) := by
          rw [← shown_map]
          simp only [PyData.shown]
        rw [e]
        have := tuple_len (k := 100) (ts := (ys.map PyData.str).map PyData.shown) fun t ht => by
          obtain ⟨d, hd, rfl⟩ := List.mem_map.mp ht
          exact (hs d hd).2.1
        rw [List.length_map, List.length_map] at this
        have m : (100 + 2) * ys.length ≤ 102 * 64 := Nat.mul_le_mul_left _ (by omega)
        omega
      · have := depth_map (k := 1) _ fun d hd => (hs d hd).2.2
        simp only [PyData.depth]
        omega
    · refine ⟨by simp only [PyData.showable]; exact able_map _ fun d hd => (hb d hd).1, ?_, ?_⟩
      · have e : (PyData.tuple (B.map dataB)).shown = tupleText ((B.map dataB).map PyData.shown) := by
          rw [← shown_map]
          simp only [PyData.shown]
        rw [e]
        have := tuple_len (k := 50000) (ts := (B.map dataB).map PyData.shown) fun t ht => by
          obtain ⟨d, hd, rfl⟩ := List.mem_map.mp ht
          exact (hb d hd).2.1
        rw [List.length_map, List.length_map] at this
        have m : (50000 + 2) * B.length ≤ 50002 * 100 := Nat.mul_le_mul_left _ zB
        omega
      · have := depth_map (k := 2) _ fun d hd => (hb d hd).2.2
        simp only [PyData.depth]
        omega
    · exact ⟨i1, by omega, by omega⟩
  refine ⟨able_map _ fun d hd => (each d hd).1, ?_, ?_⟩
  · have e : (PyData.list (deskDataP ys B n)).shown = listText ((deskDataP ys B n).map PyData.shown) := by
      rw [← shown_map]
      simp only [PyData.shown]
    rw [e]
    have := list_len (k := 5100000) (ts := (deskDataP ys B n).map PyData.shown) fun t ht => by
      obtain ⟨d, hd, rfl⟩ := List.mem_map.mp ht
      exact (each d hd).2.1
    have l3 : ((deskDataP ys B n).map PyData.shown).length = 3 := rfl
    rw [l3] at this
    rw [sizeLine_eq]
    omega
  · have := depth_map (k := 3) _ fun d hd => (each d hd).2.2
    simp only [PyData.depth]
    omega
theorem sh_strs {K : PySem.W.Frag} {H : Hp} : ∀ ys : List Str, ShAll K H (ys.map V.str) (ys.map PyData.str)
  | [] => .nil
  | y :: t => .cons (.fl (.str y)) (sh_strs t)
theorem sh_deskP {K : PySem.W.Frag} {H : Hp} {l t s : Addr} {ys : List Str} {B : List Bid} {n : Nat} (el : H l = some (.lst [.ref t, .ref s, .int (n : Int)])) (et : H t = some (.tup (ys.map V.str))) (es : H s = some (.tup (bidR B))) (hB : ∀ b ∈ B, BidOk b) (eB : ∀ b ∈ B, H b.1 = some (.tup b.2)) : Sh K H (.ref l) (.list (deskDataP ys B n)) :=
  .lst (SqL.of el) (.cons (.tup (SqT.of et) (sh_strs ys)) (.cons (.tup (SqT.of es) (sh_bids B hB eB)) (.cons (.fl (.int _)) .nil)))
theorem names_words {T : List Ent} (ok : TOk T) {ys : List Str} (h : ys.Perm (T.map (·.1))) : ∀ y ∈ ys, isWordL y = true := fun y hy => by
  obtain ⟨z, hz, rfl⟩ := List.mem_map.mp (h.mem_iff.mp hy)
  exact ok.wd z hz
theorem TOk.perm {T L : List Ent} (h : TOk T) (p : L.Perm T) : TOk L := ⟨(p.map _).nodup_iff.mpr h.nd, fun z hz => h.wd z (p.mem_iff.mp hz)⟩
def spDeskIsP (CD CS CU : Addr) : Sp := fun vs H Q _ => ∃ (q m b : Addr) (T L : List Ent) (B : List Bid) (past : List (List Ent × List Bid)) (ms : List Addr), vs = [.ref q, .ref m, .ref b, .int (past.length : Int)] ∧ L.Perm T ∧ DeskP H CD CS CU q T B past ms ∧ m ∈ ms ∧ H m = some (.dK (lawD L)) ∧ H b = some (.lst (bidR B)) ∧ TOk T ∧ T.length < 64 ∧ (∀ b ∈ B, BidOk b) ∧ B.length ≤ 100 ∧ past.length ≤ 1000 ∧ ∀ H', Same H H' → Q (.bl true) H'
section
variable {P : Program} {w : World} {K : PySem.W.Frag} {mg : Str → Option Value} {base : Heap} {CD CS CU : Addr}
abbrev nDeskIs : List Str := ["_law_mine", "_law_held", "_law_bids", "_law_steps", "_law_tag", "_law_thing"]
theorem scDeskIs : FnScope nDeskIs ["_law_mine", "_law_held", "_law_bids", "_law_steps"] (defScope sDeskIs) := ⟨rfl, rfl, rfl, by decide +kernel, rfl, by decide +kernel, by decide +kernel⟩
theorem ok_deskIsP {f : Addr} {fd : FuncData} (F : Fun K "_law_desk_is" "_law_desk_is" sDeskIs f fd) (T : DkC K CD) (IU : InC K CU) (hN : PrS P w K mg base CD "names" (spNamesPP CD CS CU)) (hC : PrS P w K mg base CD "claims" (spClaimsPP CD CS CU)) (hG : PrS P w K mg base CD "changes" (spChangesPP CD CS CU)) (hT : PrS P w K mg base CU "text" (getSp CU "written"))
    (hRu : HvM P w K mg base 2 CD "rule" ["self", "name"] (spRuleP CD CS CU)) (gU : mg "Rule" = some (.ref CU)) (hRe : mg "repr" = none) (hTu : mg "tuple" = none) (hSo : mg "sorted" = none) (hIs : mg "isinstance" = none) : FnG P w K mg base CX0 4 f fd ["_law_mine", "_law_held", "_law_bids", "_law_steps"] (spDeskIsP CD CS CU) := by
  obtain ⟨pN, gN, fN, hpN, FN, bN⟩ := hN
  obtain ⟨pC, gC, fC, hpC, FC, bC⟩ := hC
  obtain ⟨pG, gG, fG, hpG, FG, bG⟩ := hG
  obtain ⟨pT, gT, fT, hpT, FT, bT⟩ := hT
  refine F.okG scDeskIs (fun vs H Q E h => ?_) (fun cdv A outer s H vs Q E hgd hr h => ?_)
  · obtain ⟨q, m, b, T0, L, B, past, ms, rfl, _⟩ := h
    rfl
  · obtain ⟨q, m, b, T0, L, B, past, ms, rfl, pm, hD, hm, em, eb, ok, zl, hBk, zB, n1000, y⟩ := h
    have zl0 : L.length < 64 := by rw [pm.length_eq]; exact zl
    have hu := hu_of hr
    have hr2 := hr.mono (by decide : 2 ≤ 3)
    refine ⟨_, pss_cons (ps_if (pt_cmpR op_ne (pe_callB (call_reprL hgd hr.units) (by rfl) hRe (by decide +kernel) (pa_cons (pe_lst (pa_cons (pe_prop (pv 0) T.cl hpN FN hr2 bN .nil pass0 rfl) (pa_cons (pe_prop (pv 0) T.cl hpC FC hr2 bC .nil pass0 rfl) (pa_cons (pe_prop (pv 0) T.cl hpG FG hr2 bG .nil pass0 rfl) pa_nil)))) pa_nil))
        (pe_callB (call_reprL hgd hr.units) (by rfl) hRe (by decide +kernel) (pa_cons (pe_lst (pa_cons (pe_callTy call_tuple_of (by rfl) hTu (by decide +kernel) (pa_cons (pe_callB (call_sortedD rfl) (by rfl) hSo (by decide +kernel) (pa_cons (pv 1) pa_nil)) pa_nil)) (pa_cons (pe_callTy call_tuple_of (by rfl) hTu (by decide +kernel) (pa_cons (pv 2) pa_nil)) (pa_cons (pv 3) pa_nil)))) pa_nil)) (nomark _)) (pss_one (ps_ret pe_bl)) pss_nil)
      (pss_cons (ps_lock (ps_for PassesOwn.never rfl (pi_keys (pv 1)) (pg_name (i := 4) scDeskIs.nd rfl (Or.inl rfl))
        (pss_cons (ps_set (i := 5) scDeskIs.nd rfl (Or.inl rfl) (pe_mt hRu (pv 0) T.cl hr2 pass0 (pa_cons (pv 4) pa_nil)))
        (pss_one (ps_if (PW.pt (pw_or (pt_not (pt_val (pe_callB call_isi (by rfl) hIs (by decide +kernel) (pa_cons (pv 5) (pa_cons (pe_glob (v := .ref CU) rfl gU rfl) pa_nil))))) (pw_or1 (pt_cmpR op_ne (pe_prop (pv 5) IU.cl hpT FT hr2 bT .nil pass0 rfl) (pe_dget hu (pv 1) (pv 4) (fun _ _ => rfl)) (nomark _))))) (pss_one (ps_ret pe_bl)) pss_nil)))))
      (pss_one (ps_ret pe_bl))), ?_⟩
    have hD0 : DeskP H CD CS CU q T0 B past [] := hD.sub fun _ z => by cases z
    obtain ⟨dx, st, e, eq, ⟨dx', d, sd0, est, ed, esd0, hB, hR, hdm⟩, hPast⟩ := id hD
    refine ⟨_, rfl, q, dx, _, rfl, eq, q, T0, B, past, rfl, hD0, zl, fun ys t H1 s1 et hp hs => ?_⟩
    refine ⟨_, rfl, q, dx, _, rfl, s1 _ _ eq, q, T0, B, past, rfl, hD0.same s1, fun sd esd => ?_⟩
    refine ⟨_, rfl, q, dx, _, rfl, s1 _ _ eq, q, T0, B, past, rfl, hD0.same s1, by show 3 ≤ sizeLine; decide, fun l hl => ?_⟩
    have sl := same_new (o := .lst [.ref t, .ref sd, .int (past.length : Int)]) hl
    have hy := names_words ok hp
    have yl : ys.length < 64 := by
      have := hp.length_eq
      rw [List.length_map] at this
      omega
    obtain ⟨g1, g2, g3⟩ := deskP_shown hy yl hBk zB n1000
    refine ⟨l, deskDataP ys B past.length, rfl, sh_deskP upd_same (sl _ _ et) (sl _ _ esd) hBk (fun b hb => sl _ _ (s1 _ _ (hB b hb))), g1, g2, g3, ?_⟩
    have s2 := s1.trans sl
    generalize upd H1 l (.lst [.ref t, .ref sd, .int (past.length : Int)]) = H2 at s2 ⊢
    have kk : (lawD L).map (·.1) = (L.map (·.1)).map Sum.inr := by
      unfold lawD entD
      rw [List.map_map, List.map_map]
      rfl
    refine ⟨_, rfl, m, _, L.map (·.1), rfl, .inl (s2 _ _ em), kk, by rw [List.length_map]; exact zl0, fun ys2 p2 hp2 hs2 np2 => ?_⟩
    have eys : ys2 = ys := pair_uniq (sorted_pair _ hs2) (sorted_pair _ hs) ((hp2.trans (pm.map _)).trans hp.symm)
    subst eys
    refine ⟨p2, _, rfl, .inl ⟨SqL.of upd_same, fun t2 nt2 => ?_⟩⟩
    have s3 := (s2.trans (same_new np2)).trans (same_new (o := .tup (ys2.map V.str)) nt2)
    have et2 : upd (upd H2 p2 (.lst (ys2.map V.str))) t2 (.tup (ys2.map V.str)) t2 = some (.tup (ys2.map V.str)) := upd_same
    generalize upd (upd H2 p2 (.lst (ys2.map V.str))) t2 (.tup (ys2.map V.str)) = H3 at s3 et2 ⊢
    refine ⟨_, rfl, b, bidR B, rfl, .inl ⟨SqL.of (s3 _ _ eb), fun t3 nt3 => ?_⟩⟩
    have s4 := s3.trans (same_new (o := .tup (bidR B)) nt3)
    have et4 := keep1 (o := .tup (bidR B)) et2 nt3
    refine ⟨_, rfl, by show 3 ≤ sizeLine; decide, fun l2 hl2 => ?_⟩
    have s5 := s4.trans (same_new (o := .lst [.ref t2, .ref t3, .int (past.length : Int)]) hl2)
    refine ⟨l2, deskDataP ys2 B past.length, rfl, sh_deskP upd_same (keep1 et4 hl2) (keep1 upd_same hl2) hBk (fun b hb => s5 _ _ (hB b hb)), g1, g2, g3, ?_⟩
    generalize upd (upd H3 t3 (.tup (bidR B))) l2 (.lst [.ref t2, .ref t3, .int (past.length : Int)]) = H5 at s5 ⊢
    refine ⟨rfl, _, rfl, if_false_of (by simp) ?_⟩
    have em5 := s5 _ _ em
    have hD5 := hD.same s5
    refine ⟨m, _, em5, trivial, fun od => ?_⟩
    have hDL := (hD5.lock (u := .frz od (.dK (lawD L))) hm em5).sub (ms' := []) (fun _ z => by cases z)
    refine ⟨_, rfl, m, od, rfl, .inl ⟨_, upd_same, ?_⟩⟩
    refine for_it walk_ent (fun i σ H' => (∃ x4 x5, σ = [some (.ref q), some (.ref m), some (.ref b), some (.int (past.length : Int)), x4, x5]) ∧ H' = upd H5 m (.frz od (.dK (lawD L)))) ⟨⟨_, _, rfl⟩, rfl⟩ (fun i σ H' _ h => by rw [h.2]; exact upd_same) (fun i x σ H' H'' hi h hy => ?_) (fun σ H' h => ?_)
    · obtain ⟨rfl, key, v, hkv, rfl⟩ := hy
      obtain ⟨⟨x4, x5, rfl⟩, rfl⟩ := h
      obtain ⟨z, hz⟩ : ∃ z, L[i]? = some z := ⟨L[i]'hi, List.getElem?_eq_getElem _⟩
      obtain rfl := ent_at hz hkv
      have hzm := List.mem_of_getElem? hz
      have hzT := pm.mem_iff.mp hzm
      obtain ⟨dxq, stq, eq', qq, ⟨dxs, dq, sdq, _, _, _, _, hRq, _⟩, _⟩ := id hDL
      obtain ⟨p, hRz, tx⟩ := hRq z hzT
      refine ⟨_, rfl, q, dxq, _, rfl, qq, rfl, _, rfl, q, z, T0, B, past, rfl, hDL, ok, hzT, ?_⟩
      refine ⟨_, rfl, .ref z.2.2, .ref CU, _, .ref CU, true, rfl, .own _, isi_rule IU hRz, IU.kit, _, rfl, iteF ?_⟩
      obtain ⟨dxr, M, G, D, er, _⟩ := id hRz
      refine ⟨_, rfl, z.2.2, dxr, _, rfl, er, z.2.2, dxr, _, .str z.2.1, rfl, er, rfl, ?_⟩
      refine ⟨_, rfl, _, rfl, m, V.str z.2.1, rfl, .inl ⟨_, Sum.inr z.1, .inr ⟨od, upd_same⟩, rfl, (val_ent (fun z => V.str z.2.1) _ (ok.perm pm).nd z hzm).symm⟩, rfl, _, rfl, if_false_of (by simp) ?_⟩
      exact ⟨⟨_, _, rfl⟩, rfl⟩
    · obtain ⟨⟨x4, x5, rfl⟩, rfl⟩ := h
      refine ⟨upd_same, ?_⟩
      refine y _ fun b' o e' => ?_
      by_cases hb : b' = m
      · subst hb
        rw [upd_same]
        exact em.symm.trans e'
      · rw [upd_ne hb, upd_ne hb]
        exact s5 _ _ e'
end
end My
namespace L2
open PySem PySem.Spec PyProof.Rows PySem.GX
section
variable {X : Cx}
/-- l.count(x), by equality -/
def rCountD (K : PySem.W.Frag) : V → List V → Hp → VK → Prop := fun x xs H Q => ∃ (a : Addr) (y : V) (d : PyData) (ds : List PyData), x = V.ref a ∧ xs = [y] ∧ Dp K H (V.ref a) (.list ds) ∧ Dp K H y d ∧
  SeqAt.shaped (.list ds) = true ∧ SeqAt.shaped d = true ∧ Q (.int ((ds.countP fun z => PyData.eqv z d : Nat) : Int)) H
theorem mt_countD (hu : X.A.units + 65 < cLine) : MtR X "list.count" (rCountD X.K) := by
  intro pins s σ H x xs v us Q I rx rxs h
  obtain ⟨a, y, d, ds, rfl, rfl, hl, hy, sl, sd, q⟩ := h
  cases rx
  cases rxs with
  | cons ry rt =>
    rename_i uy ut
    cases rt
    obtain ⟨bs, r1⟩ := Dp.reads I d y uy hy ry
    have hxs : PyData.canLayAll0 ds = true := SeqAt.canLay_of_shaped sl
    have hroom : X.A.units + 1 + min (PyData.depthAll ds) d.depth < cLine := room_in_shaped sd hu
    cases hl with
    | lst hs ha =>
      obtain ⟨its, rv, ⟨⟨cls, dd, data, sls⟩, n, ho, hc, hdn, hdt⟩, hlen⟩ := I.list hs
      simp only at hc hdt
      subst hc hdt
      obtain ⟨as, h4⟩ := Dp.readsAll I ds _ its ha rv
      have hmap : its.map (SeqAt.readOf s.heap) = ds := SeqAt.readsAll_map ds its as hxs h4
      refine call_meets PySem.F.slot_list_count ⟨_, ho, rfl⟩ PySem.F.entry_list_count (PySem.F.args_list_count_2 _ _)
        (SeqAt.list_countAt a its.toArray n dd sls uy (fun u => PyData.eqv (SeqAt.readOf s.heap u) d)) ⟨ho, SeqAt.items_eqAt (vs := its.toArray) (show ReadsAll s.heap its.toArray.toList ds as from h4) r1 hxs (SeqAt.canLay_of_shaped sd) hroom, ?_⟩
      have ec : its.toArray.toList.countP (fun u => PyData.eqv (SeqAt.readOf s.heap u) d) = ds.countP fun z => PyData.eqv z d := by
        rw [← hmap, List.countP_map]
        rfl
      refine ⟨.int _, H, I.tok _, ⟨s.toks, ?_⟩, q⟩
      show Value.int ((its.toArray.toList.countP (fun u => PyData.eqv (SeqAt.readOf s.heap u) d) : Nat) : Int) s.toks = _
      rw [ec]
end
end L2
namespace My
open PySem PySem.Spec PyProof.Rows L2 PySem.GX L2H LamX
/-- xs.count(True), xs a list of bools -/
def isTrueV : Value → Bool
  | .bool b => b == true
  | _ => false
def rCntB (K : PySem.W.Frag) : V → List V → Hp → VK → Prop := fun x xs H Q => ∃ (p : Addr) (bs : List Bool), x = .ref p ∧ xs = [.bl true] ∧ SqL K H p (bs.map V.bl) ∧ Q (.int (bs.count true : Nat)) H
theorem vals_bools : ∀ {bs : List Bool} {its : List Value}, Vals (bs.map V.bl) its → its = bs.map Value.bool
  | [], _, .nil => rfl
  | _ :: _, _, .cons r t => by
    rw [vals_bools t, show _ = Value.bool _ from r]
    rfl
theorem mt_bcount {X : Cx} : MtR X "list.count" (rCntB X.K) := by
  intro pl s σ H x xs v us Q I rx rxs ⟨p, bs, ex, exs, hs, q⟩
  subst ex exs
  cases rx
  obtain ⟨u, rfl, ru⟩ := rxs.one
  obtain rfl : u = Value.bool true := ru
  obtain ⟨its, rv, ⟨⟨cls, dd, data, sl⟩, n, ho, hc, hdn, hd⟩, hlen⟩ := I.list hs
  simp only at hc hd
  subst hc hd
  have hi := vals_bools rv
  subst hi
  refine call_meets PySem.F.slot_list_count ⟨_, ho, rfl⟩ PySem.F.entry_list_count (PySem.F.args_list_count_2 _ _) (SeqAt.list_countAt p (bs.map Value.bool).toArray n dd sl (.bool true) isTrueV) ⟨ho, fun y hy => ?_, ?_⟩
  · obtain ⟨b, _, rfl⟩ := List.mem_map.mp (by simpa using hy : y ∈ bs.map Value.bool)
    exact SeqAt.EqAt.bool_bool b true
  · have ec : ((bs.map Value.bool).toArray.toList.countP isTrueV) = bs.count true := by
      rw [List.countP_map]
      unfold List.count
      apply List.countP_congr
      intro b _
      rfl
    refine ⟨.int (bs.count true : Nat), H, I.tok _, ⟨s.toks, ?_⟩, q⟩
    show Value.int ((((bs.map Value.bool).toArray.toList.countP isTrueV : Nat)) : Int) s.toks = _
    rw [ec]
theorem eqv_bools : PyData.eqv (.list [.bool true, .bool false, .bool false]) (.list [.bool true, .bool false, .bool false]) = true := by decide
end My
namespace My
open PySem PySem.Spec PyProof.Rows L2 PySem.GX L2H LamX
def partE (i : Nat) : Nat := if i < 13 then 0 else if i < 16 then 1 else 2
/-- the class at C is the i-th of the errors -/
structure ErrD (K : PySem.W.Frag) (c b : Nat → Addr) (C : Addr) (i : Nat) : Prop where
  T : ExcC K C
  hi : i < 20
  kits : ∀ j, j < 20 → PySem.W.kitOne K (.ref C) (.ref (c j)) = some (decide (j = i))
  kitb : ∀ j, j < 3 → PySem.W.kitOne K (.ref C) (.ref (b j)) = some (decide (partE i = j))
  v0 : PySem.W.kitOne K (.ref C) (.type "ValueError") = some (decide (partE i = 0))
  v1 : PySem.W.kitOne K (.ref C) (.type "LookupError") = some (decide (partE i = 1))
  v2 : PySem.W.kitOne K (.ref C) (.type "ArithmeticError") = some (decide (partE i = 2))
theorem un64_of {k : Nat} {A : Around} (r : RoomH k A) : A.units + 64 < cLine := by have := r.un; omega
theorem un65_of {k : Nat} {A : Around} (r : RoomH k A) : A.units + 65 < cLine := by have := r.un; omega
abbrev cE : List Str := ["InvalidText", "InvalidRow", "InvalidKind", "InvalidNumber", "InvalidMood", "InvalidSign", "InvalidPaper", "InvalidName", "InvalidIndex", "InvalidClaim", "NotARule", "InvalidWishes", "InvalidChanges", "UnknownName", "InUse", "NothingToUndo", "OtherSigns", "TooMany", "Kept", "Broken"]
abbrev bE : List Str := ["NotRight", "NotKnown", "NotPossible"]
abbrev wE : List Str := ["text", "row", "kind", "number", "mood", "sign", "paper", "name", "index", "claim", "no rule", "wishes", "changes", "unknown", "in use", "nothing", "other signs", "too many", "kept", "broken"]
def BB (i : Nat) : List Bool := (List.range 20).map fun j => decide (j = i)
def PB (i : Nat) : List Bool := [decide (partE i = 0), decide (partE i = 1), decide (partE i = 2)]
theorem bb_count : ∀ i, i < 20 → (BB i).count true = 1 := by decide +kernel
theorem bb_shaped : ∀ i, i < 20 → SeqAt.shaped (.list ((BB i).map .bool)) = true := by decide +kernel
theorem pb_shaped : ∀ i, i < 20 → SeqAt.shaped (.list ((PB i).map .bool)) = true := by decide +kernel
theorem pb_eqv : ∀ i, i < 20 → PyData.eqv (.list ((PB i).map .bool)) (.list ((PB i).map .bool)) = true := by decide +kernel
theorem pb_place : ∀ i, i < 20 → PB i = [decide ((i : Int) < 13), decide ((12 : Int) < (i : Int)) && decide ((i : Int) < 16), decide ((i : Int) > 15)] := by decide +kernel
theorem dp_bools {K : PySem.W.Frag} {H : Hp} : ∀ bs : List Bool, DpAll K H (bs.map V.bl) (bs.map PyData.bool)
  | [] => .nil
  | b :: t => .cons (.bl b) (dp_bools t)
theorem bb_at {i m : Nat} (hm : m < 20) : ((BB i).map PyData.bool)[m]? = some (.bool (decide (m = i))) := by
  unfold BB
  rw [List.getElem?_map, List.getElem?_map, List.getElem?_range hm]
  rfl
abbrev fE : List Str := ["given", "index", "shown", "limit"]
/-- what is told of an error of the i-th class with these fields -/
def ToldE (i : Nat) (fs : List (Str × V)) (ts : List V) : Prop :=
  ((i ≤ 10 ∨ i = 13) ∧ ∃ v, fs.lookup ("given" : Str) = some v ∧ ts = [.str (wE.getD i Str.empty), v]) ∨
  (i = 19 ∧ ∃ v u, fs.lookup ("index" : Str) = some v ∧ fs.lookup ("shown" : Str) = some u ∧ ts = [.str "broken", v, u]) ∨
  ((i = 11 ∨ i = 12 ∨ i = 14) ∧ ∃ v, fs.lookup ("index" : Str) = some v ∧ ts = [.str (wE.getD i Str.empty), v]) ∨
  (i = 17 ∧ ∃ v, fs.lookup ("limit" : Str) = some v ∧ ts = [.str "too many", v])
def spRefT (p : Addr × Obj) (d : Addr) (i : Nat) : Sp := fun vs H Q _ => ∃ (fs : List (Str × V)) (ts : List V), vs = [.ref p.1] ∧ H d = some (exd d fs) ∧ ToldE i fs ts ∧ ∀ (t : Addr) (H' : Hp), Same H H' → H' t = some (.tup ts) → Q (.ref t) H'
def tLtE : TE := fun σ H Q => ∃ n : Int, σ[4]? = some (some (.int n)) ∧ Q (.bl (decide (n < 13))) H
def tGtE : TE := fun σ H Q => ∃ n : Int, σ[4]? = some (some (.int n)) ∧ Q (.bl (decide (n > 15))) H
def tMid : TE := fun σ H Q => ∃ n : Int, σ[4]? = some (some (.int n)) ∧ Q (.bl (decide ((12 : Int) < n) && decide (n < 16))) H
theorem no_three : ∀ i : Nat, i < 14 → (i ≤ 10 ∨ i = 13) → inV (.int (i : Int)) [.int 15, .int 16, .int 18] = false ∧ inV (.int (i : Int)) [.int 11, .int 12, .int 14] = false := by decide +kernel
section
variable {P : Program} {w : World} {K : PySem.W.Frag} {mg : Str → Option Value} {base : Heap} {p : Addr × Obj} {C d : Addr} {c b : Nat → Addr} {i : Nat}
abbrev nRef : List Str := ["_law_e", "_law_sorts", "_law_bases", "_law_own", "_law_at", "_law_words"]
theorem scRef : FnScope nRef ["_law_e"] (defScope sRefused) := ⟨rfl, rfl, rfl, by decide +kernel, rfl, by decide +kernel, by decide +kernel⟩
theorem ok_refusedT {f : Addr} {fd : FuncData} (F : Fun K "_law_refused" "_law_refused" sRefused f fd) (hp : PIs p C d) (EC : ErrD K c b C i) (no : ∀ f ∈ fE, PySem.W.findIn K (.ref C) f = some none) (gc : ∀ j, j < 20 → mg (cE.getD j Str.empty) = some (.ref (c j))) (gb : ∀ j, j < 3 → mg (bE.getD j Str.empty) = some (.ref (b j)))
    (hIs : mg "isinstance" = none) (ht0 : mg "ValueError" = none) (ht1 : mg "LookupError" = none) (ht2 : mg "ArithmeticError" = none) : FnE p P w K mg base 1 f fd ["_law_e"] (spRefT p d i) := by
  refine F.okE scRef (fun vs H Q E h => ?_) (fun cdv A outer s H vs Q E hot hr h => ?_)
  · obtain ⟨fs, ts, rfl, _⟩ := h
    rfl
  · obtain ⟨fs, ts, rfl, hd, hv, k⟩ := h
    have hb : Hb (cxH CX0 P w K mg base nRef "_law_refused" (defScope sRefused) f cdv A outer s H E p) p := Hb.of_pn hot.1 hot.2 (List.mem_singleton.mpr rfl)
    refine ⟨_, pss_cons (ps_set (i := 1) scRef.nd rfl (Or.inl rfl) (pe_lst (pa_cons (pe_callB (call_isP hb hp EC.T) (by rfl) hIs (by decide +kernel) (pa_cons (pv 0) (pa_cons (pe_glob (v := .ref (c 0)) rfl (gc 0 (by decide)) rfl) pa_nil))) (pa_cons (pe_callB (call_isP hb hp EC.T) (by rfl) hIs (by decide +kernel) (pa_cons (pv 0) (pa_cons (pe_glob (v := .ref (c 1)) rfl (gc 1 (by decide)) rfl) pa_nil))) (pa_cons (pe_callB (call_isP hb hp EC.T) (by rfl) hIs (by decide +kernel) (pa_cons (pv 0) (pa_cons (pe_glob (v := .ref (c 2)) rfl (gc 2 (by decide)) rfl) pa_nil))) pa_nil)))))
      (pss_cons (ps_set (i := 1) scRef.nd rfl (Or.inl rfl) (pe_op op_cat (pv 1) (pe_lst (pa_cons (pe_callB (call_isP hb hp EC.T) (by rfl) hIs (by decide +kernel) (pa_cons (pv 0) (pa_cons (pe_glob (v := .ref (c 3)) rfl (gc 3 (by decide)) rfl) pa_nil))) (pa_cons (pe_callB (call_isP hb hp EC.T) (by rfl) hIs (by decide +kernel) (pa_cons (pv 0) (pa_cons (pe_glob (v := .ref (c 4)) rfl (gc 4 (by decide)) rfl) pa_nil))) (pa_cons (pe_callB (call_isP hb hp EC.T) (by rfl) hIs (by decide +kernel) (pa_cons (pv 0) (pa_cons (pe_glob (v := .ref (c 5)) rfl (gc 5 (by decide)) rfl) pa_nil))) pa_nil))))))
      (pss_cons (ps_set (i := 1) scRef.nd rfl (Or.inl rfl) (pe_op op_cat (pv 1) (pe_lst (pa_cons (pe_callB (call_isP hb hp EC.T) (by rfl) hIs (by decide +kernel) (pa_cons (pv 0) (pa_cons (pe_glob (v := .ref (c 6)) rfl (gc 6 (by decide)) rfl) pa_nil))) (pa_cons (pe_callB (call_isP hb hp EC.T) (by rfl) hIs (by decide +kernel) (pa_cons (pv 0) (pa_cons (pe_glob (v := .ref (c 7)) rfl (gc 7 (by decide)) rfl) pa_nil))) (pa_cons (pe_callB (call_isP hb hp EC.T) (by rfl) hIs (by decide +kernel) (pa_cons (pv 0) (pa_cons (pe_glob (v := .ref (c 8)) rfl (gc 8 (by decide)) rfl) pa_nil))) pa_nil))))))
      (pss_cons (ps_set (i := 1) scRef.nd rfl (Or.inl rfl) (pe_op op_cat (pv 1) (pe_lst (pa_cons (pe_callB (call_isP hb hp EC.T) (by rfl) hIs (by decide +kernel) (pa_cons (pv 0) (pa_cons (pe_glob (v := .ref (c 9)) rfl (gc 9 (by decide)) rfl) pa_nil))) (pa_cons (pe_callB (call_isP hb hp EC.T) (by rfl) hIs (by decide +kernel) (pa_cons (pv 0) (pa_cons (pe_glob (v := .ref (c 10)) rfl (gc 10 (by decide)) rfl) pa_nil))) (pa_cons (pe_callB (call_isP hb hp EC.T) (by rfl) hIs (by decide +kernel) (pa_cons (pv 0) (pa_cons (pe_glob (v := .ref (c 11)) rfl (gc 11 (by decide)) rfl) pa_nil))) pa_nil))))))
      (pss_cons (ps_set (i := 1) scRef.nd rfl (Or.inl rfl) (pe_op op_cat (pv 1) (pe_lst (pa_cons (pe_callB (call_isP hb hp EC.T) (by rfl) hIs (by decide +kernel) (pa_cons (pv 0) (pa_cons (pe_glob (v := .ref (c 12)) rfl (gc 12 (by decide)) rfl) pa_nil))) (pa_cons (pe_callB (call_isP hb hp EC.T) (by rfl) hIs (by decide +kernel) (pa_cons (pv 0) (pa_cons (pe_glob (v := .ref (c 13)) rfl (gc 13 (by decide)) rfl) pa_nil))) (pa_cons (pe_callB (call_isP hb hp EC.T) (by rfl) hIs (by decide +kernel) (pa_cons (pv 0) (pa_cons (pe_glob (v := .ref (c 14)) rfl (gc 14 (by decide)) rfl) pa_nil))) pa_nil))))))
      (pss_cons (ps_set (i := 1) scRef.nd rfl (Or.inl rfl) (pe_op op_cat (pv 1) (pe_lst (pa_cons (pe_callB (call_isP hb hp EC.T) (by rfl) hIs (by decide +kernel) (pa_cons (pv 0) (pa_cons (pe_glob (v := .ref (c 15)) rfl (gc 15 (by decide)) rfl) pa_nil))) (pa_cons (pe_callB (call_isP hb hp EC.T) (by rfl) hIs (by decide +kernel) (pa_cons (pv 0) (pa_cons (pe_glob (v := .ref (c 16)) rfl (gc 16 (by decide)) rfl) pa_nil))) (pa_cons (pe_callB (call_isP hb hp EC.T) (by rfl) hIs (by decide +kernel) (pa_cons (pv 0) (pa_cons (pe_glob (v := .ref (c 17)) rfl (gc 17 (by decide)) rfl) pa_nil))) pa_nil))))))
      (pss_cons (ps_set (i := 1) scRef.nd rfl (Or.inl rfl) (pe_op op_cat (pv 1) (pe_lst (pa_cons (pe_callB (call_isP hb hp EC.T) (by rfl) hIs (by decide +kernel) (pa_cons (pv 0) (pa_cons (pe_glob (v := .ref (c 18)) rfl (gc 18 (by decide)) rfl) pa_nil))) (pa_cons (pe_callB (call_isP hb hp EC.T) (by rfl) hIs (by decide +kernel) (pa_cons (pv 0) (pa_cons (pe_glob (v := .ref (c 19)) rfl (gc 19 (by decide)) rfl) pa_nil))) pa_nil)))))
      (pss_cons (ps_set (i := 2) scRef.nd rfl (Or.inl rfl) (pe_lst (pa_cons (pe_callB (call_isP hb hp EC.T) (by rfl) hIs (by decide +kernel) (pa_cons (pv 0) (pa_cons (pe_glob (v := .ref (b 0)) rfl (gb 0 (by decide)) rfl) pa_nil))) (pa_cons (pe_callB (call_isP hb hp EC.T) (by rfl) hIs (by decide +kernel) (pa_cons (pv 0) (pa_cons (pe_glob (v := .ref (b 1)) rfl (gb 1 (by decide)) rfl) pa_nil))) (pa_cons (pe_callB (call_isP hb hp EC.T) (by rfl) hIs (by decide +kernel) (pa_cons (pv 0) (pa_cons (pe_glob (v := .ref (b 2)) rfl (gb 2 (by decide)) rfl) pa_nil))) pa_nil)))))
      (pss_cons (ps_set (i := 3) scRef.nd rfl (Or.inl rfl) (pe_lst (pa_cons (pe_callB (call_isP hb hp EC.T) (by rfl) hIs (by decide +kernel) (pa_cons (pv 0) (pa_cons (pe_bltn (v := .ty "ValueError") (by rfl) ht0 (by decide +kernel) rfl) pa_nil))) (pa_cons (pe_callB (call_isP hb hp EC.T) (by rfl) hIs (by decide +kernel) (pa_cons (pv 0) (pa_cons (pe_bltn (v := .ty "LookupError") (by rfl) ht1 (by decide +kernel) rfl) pa_nil))) (pa_cons (pe_callB (call_isP hb hp EC.T) (by rfl) hIs (by decide +kernel) (pa_cons (pv 0) (pa_cons (pe_bltn (v := .ty "ArithmeticError") (by rfl) ht2 (by decide +kernel) rfl) pa_nil))) pa_nil)))))
      (pss_cons (ps_if (PW.pt (pw_or (pt_cmpR op_ne (pe_bm PySem.F.plainAttrs_list PySem.F.slot_list_count PySem.F.type_list_count mt_bcount (pv 1) (pa_cons pe_bl pa_nil)) pe_int (nomark _)) (pw_or1 (pt_cmpR (op_neD (un64_of hr)) (pv 3) (pv 2) (nomark _))))) (pss_one ps_never) pss_nil)
      (pss_cons (ps_set (i := 4) scRef.nd rfl (Or.inl rfl) (pe_bm PySem.F.plainAttrs_list PySem.F.slot_list_index PySem.F.type_list_index (mt_indexD (un65_of hr)) (pv 1) (pa_cons pe_bl pa_nil)))
      (pss_cons (ps_if (pt_cmpR (op_neD (un64_of hr)) (pv 2) (pe_lst (pa_cons (PE_imp (t' := tLtE) (pe_cmpR op_lt (pv 4) pe_int (nomark _)) ?iLtE) (pa_cons (PE_imp (t' := tMid) (pe_chain op_lt op_lt pe_int (pv 4) pe_int) ?iMid) (pa_cons (PE_imp (t' := tGtE) (pe_cmpR op_gt (pv 4) pe_int (nomark _)) ?iGtE) pa_nil)))) (nomark _)) (pss_one ps_never) pss_nil)
      (pss_cons (ps_set (i := 5) scRef.nd rfl (Or.inl rfl) (pe_lst (pa_cons pe_str (pa_cons pe_str (pa_cons pe_str (pa_cons pe_str (pa_cons pe_str (pa_cons pe_str (pa_cons pe_str (pa_cons pe_str (pa_cons pe_str (pa_cons pe_str (pa_cons pe_str (pa_cons pe_str pa_nil))))))))))))))
      (pss_cons (ps_set (i := 5) scRef.nd rfl (Or.inl rfl) (pe_op op_cat (pv 5) (pe_lst (pa_cons pe_str (pa_cons pe_str (pa_cons pe_str (pa_cons pe_str (pa_cons pe_str (pa_cons pe_str (pa_cons pe_str (pa_cons pe_str pa_nil)))))))))))
      (pss_cons (ps_if (pt_cmpR op_in_seq (pv 4) (pe_lst (pa_cons pe_int (pa_cons pe_int (pa_cons pe_int pa_nil)))) (by rfl)) (pss_one (ps_ret (pe_tup (pa_cons (pe_ix ix_list (pv 5) (pv 4) (fun _ _ => rfl)) pa_nil)))) pss_nil)
      (pss_cons (ps_if (pt_cmpR op_in_seq (pv 4) (pe_lst (pa_cons pe_int (pa_cons pe_int (pa_cons pe_int pa_nil)))) (by rfl)) (pss_one (ps_ret (pe_tup (pa_cons (pe_ix ix_list (pv 5) (pv 4) (fun _ _ => rfl)) (pa_cons (pe_xfP hb hp EC.T (pv 0)) pa_nil))))) pss_nil)
      (pss_cons (ps_if (pt_cmpR op_eq (pv 4) pe_int (nomark _)) (pss_one (ps_ret (pe_tup (pa_cons (pe_ix ix_list (pv 5) (pv 4) (fun _ _ => rfl)) (pa_cons (pe_xfP hb hp EC.T (pv 0)) pa_nil))))) pss_nil)
      (pss_one (ps_ret (pe_ifExp (pt_cmpR op_eq (pv 4) pe_int (nomark _)) (pe_tup (pa_cons (pe_ix ix_list (pv 5) (pv 4) (fun _ _ => rfl)) (pa_cons (pe_xfP hb hp EC.T (pv 0)) (pa_cons (pe_xfP hb hp EC.T (pv 0)) pa_nil)))) (pe_tup (pa_cons (pe_ix ix_list (pv 5) (pv 4) (fun _ _ => rfl)) (pa_cons (pe_xfP hb hp EC.T (pv 0)) pa_nil)))))))))))))))))))))), ?_⟩
    case iLtE =>
      rintro σ H Q ⟨n, e, y⟩
      exact ⟨_, e, _, _, rfl, rfl, y⟩
    case iGtE =>
      rintro σ H Q ⟨n, e, y⟩
      exact ⟨_, e, _, _, rfl, rfl, y⟩
    case iMid =>
      rintro σ H Q ⟨n, e, y⟩
      refine ⟨_, e, _, _, rfl, rfl, _, rfl, ite2 (fun c => ⟨_, _, rfl, rfl, ?_⟩) (fun c => ?_)⟩
      · rw [show decide ((12 : Int) < n) = true from c, Bool.true_and] at y
        exact y
      · rw [show decide ((12 : Int) < n) = false by simpa using c, Bool.false_and] at y
        exact y
    refine ⟨_, rfl, .ref (c 0), .ref (c 0), _, fs, rfl, hd, .own _, EC.kits 0 (by decide), _, rfl, .ref (c 1), .ref (c 1), _, fs, rfl, hd, .own _, EC.kits 1 (by decide), _, rfl, .ref (c 2), .ref (c 2), _, fs, rfl, hd, .own _, EC.kits 2 (by decide), by show 3 ≤ sizeLine; decide, fun l0 h0 => ?_⟩
    have s0 := same_new (o := .lst [V.bl (decide (0 = i)), V.bl (decide (1 = i)), V.bl (decide (2 = i))]) h0
    have e0 : upd H l0 (.lst [V.bl (decide (0 = i)), V.bl (decide (1 = i)), V.bl (decide (2 = i))]) l0 = some (.lst [V.bl (decide (0 = i)), V.bl (decide (1 = i)), V.bl (decide (2 = i))]) := upd_same
    have d0 := s0 _ _ hd
    generalize upd H l0 (.lst [V.bl (decide (0 = i)), V.bl (decide (1 = i)), V.bl (decide (2 = i))]) = H0 at s0 e0 d0 ⊢
    refine ⟨_, rfl, _, rfl, .ref (c 3), .ref (c 3), _, fs, rfl, d0, .own _, EC.kits 3 (by decide), _, rfl, .ref (c 4), .ref (c 4), _, fs, rfl, d0, .own _, EC.kits 4 (by decide), _, rfl, .ref (c 5), .ref (c 5), _, fs, rfl, d0, .own _, EC.kits 5 (by decide), by show 3 ≤ sizeLine; decide, fun m1 n1 => ⟨l0, m1, _, _, rfl, rfl, keep1 e0 n1, upd_same, by show 3 + 3 ≤ sizeLine; decide, fun l1 h1 => ?_⟩⟩
    have s1 := (s0.trans (same_new (o := .lst [V.bl (decide (3 = i)), V.bl (decide (4 = i)), V.bl (decide (5 = i))]) n1)).trans (same_new (o := .lst ([V.bl (decide (0 = i)), V.bl (decide (1 = i)), V.bl (decide (2 = i))] ++ [V.bl (decide (3 = i)), V.bl (decide (4 = i)), V.bl (decide (5 = i))])) h1)
    have e1 : upd (upd H0 m1 (.lst [V.bl (decide (3 = i)), V.bl (decide (4 = i)), V.bl (decide (5 = i))])) l1 (.lst ([V.bl (decide (0 = i)), V.bl (decide (1 = i)), V.bl (decide (2 = i))] ++ [V.bl (decide (3 = i)), V.bl (decide (4 = i)), V.bl (decide (5 = i))])) l1 = some (.lst [V.bl (decide (0 = i)), V.bl (decide (1 = i)), V.bl (decide (2 = i)), V.bl (decide (3 = i)), V.bl (decide (4 = i)), V.bl (decide (5 = i))]) := upd_same
    have d1 := s1 _ _ hd
    generalize upd (upd H0 m1 (.lst [V.bl (decide (3 = i)), V.bl (decide (4 = i)), V.bl (decide (5 = i))])) l1 (.lst ([V.bl (decide (0 = i)), V.bl (decide (1 = i)), V.bl (decide (2 = i))] ++ [V.bl (decide (3 = i)), V.bl (decide (4 = i)), V.bl (decide (5 = i))])) = H1 at s1 e1 d1 ⊢
    clear s0 e0 d0 n1 h1
    refine ⟨_, rfl, _, rfl, .ref (c 6), .ref (c 6), _, fs, rfl, d1, .own _, EC.kits 6 (by decide), _, rfl, .ref (c 7), .ref (c 7), _, fs, rfl, d1, .own _, EC.kits 7 (by decide), _, rfl, .ref (c 8), .ref (c 8), _, fs, rfl, d1, .own _, EC.kits 8 (by decide), by show 3 ≤ sizeLine; decide, fun m2 n2 => ⟨l1, m2, _, _, rfl, rfl, keep1 e1 n2, upd_same, by show 6 + 3 ≤ sizeLine; decide, fun l2 h2 => ?_⟩⟩
    have s2 := (s1.trans (same_new (o := .lst [V.bl (decide (6 = i)), V.bl (decide (7 = i)), V.bl (decide (8 = i))]) n2)).trans (same_new (o := .lst ([V.bl (decide (0 = i)), V.bl (decide (1 = i)), V.bl (decide (2 = i)), V.bl (decide (3 = i)), V.bl (decide (4 = i)), V.bl (decide (5 = i))] ++ [V.bl (decide (6 = i)), V.bl (decide (7 = i)), V.bl (decide (8 = i))])) h2)
    have e2 : upd (upd H1 m2 (.lst [V.bl (decide (6 = i)), V.bl (decide (7 = i)), V.bl (decide (8 = i))])) l2 (.lst ([V.bl (decide (0 = i)), V.bl (decide (1 = i)), V.bl (decide (2 = i)), V.bl (decide (3 = i)), V.bl (decide (4 = i)), V.bl (decide (5 = i))] ++ [V.bl (decide (6 = i)), V.bl (decide (7 = i)), V.bl (decide (8 = i))])) l2 = some (.lst [V.bl (decide (0 = i)), V.bl (decide (1 = i)), V.bl (decide (2 = i)), V.bl (decide (3 = i)), V.bl (decide (4 = i)), V.bl (decide (5 = i)), V.bl (decide (6 = i)), V.bl (decide (7 = i)), V.bl (decide (8 = i))]) := upd_same
    have d2 := s2 _ _ hd
    generalize upd (upd H1 m2 (.lst [V.bl (decide (6 = i)), V.bl (decide (7 = i)), V.bl (decide (8 = i))])) l2 (.lst ([V.bl (decide (0 = i)), V.bl (decide (1 = i)), V.bl (decide (2 = i)), V.bl (decide (3 = i)), V.bl (decide (4 = i)), V.bl (decide (5 = i))] ++ [V.bl (decide (6 = i)), V.bl (decide (7 = i)), V.bl (decide (8 = i))])) = H2 at s2 e2 d2 ⊢
    clear s1 e1 d1 n2 h2
    refine ⟨_, rfl, _, rfl, .ref (c 9), .ref (c 9), _, fs, rfl, d2, .own _, EC.kits 9 (by decide), _, rfl, .ref (c 10), .ref (c 10), _, fs, rfl, d2, .own _, EC.kits 10 (by decide), _, rfl, .ref (c 11), .ref (c 11), _, fs, rfl, d2, .own _, EC.kits 11 (by decide), by show 3 ≤ sizeLine; decide, fun m3 n3 => ⟨l2, m3, _, _, rfl, rfl, keep1 e2 n3, upd_same, by show 9 + 3 ≤ sizeLine; decide, fun l3 h3 => ?_⟩⟩
    have s3 := (s2.trans (same_new (o := .lst [V.bl (decide (9 = i)), V.bl (decide (10 = i)), V.bl (decide (11 = i))]) n3)).trans (same_new (o := .lst ([V.bl (decide (0 = i)), V.bl (decide (1 = i)), V.bl (decide (2 = i)), V.bl (decide (3 = i)), V.bl (decide (4 = i)), V.bl (decide (5 = i)), V.bl (decide (6 = i)), V.bl (decide (7 = i)), V.bl (decide (8 = i))] ++ [V.bl (decide (9 = i)), V.bl (decide (10 = i)), V.bl (decide (11 = i))])) h3)
    have e3 : upd (upd H2 m3 (.lst [V.bl (decide (9 = i)), V.bl (decide (10 = i)), V.bl (decide (11 = i))])) l3 (.lst ([V.bl (decide (0 = i)), V.bl (decide (1 = i)), V.bl (decide (2 = i)), V.bl (decide (3 = i)), V.bl (decide (4 = i)), V.bl (decide (5 = i)), V.bl (decide (6 = i)), V.bl (decide (7 = i)), V.bl (decide (8 = i))] ++ [V.bl (decide (9 = i)), V.bl (decide (10 = i)), V.bl (decide (11 = i))])) l3 = some (.lst [V.bl (decide (0 = i)), V.bl (decide (1 = i)), V.bl (decide (2 = i)), V.bl (decide (3 = i)), V.bl (decide (4 = i)), V.bl (decide (5 = i)), V.bl (decide (6 = i)), V.bl (decide (7 = i)), V.bl (decide (8 = i)), V.bl (decide (9 = i)), V.bl (decide (10 = i)), V.bl (decide (11 = i))]) := upd_same
    have d3 := s3 _ _ hd
    generalize upd (upd H2 m3 (.lst [V.bl (decide (9 = i)), V.bl (decide (10 = i)), V.bl (decide (11 = i))])) l3 (.lst ([V.bl (decide (0 = i)), V.bl (decide (1 = i)), V.bl (decide (2 = i)), V.bl (decide (3 = i)), V.bl (decide (4 = i)), V.bl (decide (5 = i)), V.bl (decide (6 = i)), V.bl (decide (7 = i)), V.bl (decide (8 = i))] ++ [V.bl (decide (9 = i)), V.bl (decide (10 = i)), V.bl (decide (11 = i))])) = H3 at s3 e3 d3 ⊢
    clear s2 e2 d2 n3 h3
    refine ⟨_, rfl, _, rfl, .ref (c 12), .ref (c 12), _, fs, rfl, d3, .own _, EC.kits 12 (by decide), _, rfl, .ref (c 13), .ref (c 13), _, fs, rfl, d3, .own _, EC.kits 13 (by decide), _, rfl, .ref (c 14), .ref (c 14), _, fs, rfl, d3, .own _, EC.kits 14 (by decide), by show 3 ≤ sizeLine; decide, fun m4 n4 => ⟨l3, m4, _, _, rfl, rfl, keep1 e3 n4, upd_same, by show 12 + 3 ≤ sizeLine; decide, fun l4 h4 => ?_⟩⟩
    have s4 := (s3.trans (same_new (o := .lst [V.bl (decide (12 = i)), V.bl (decide (13 = i)), V.bl (decide (14 = i))]) n4)).trans (same_new (o := .lst ([V.bl (decide (0 = i)), V.bl (decide (1 = i)), V.bl (decide (2 = i)), V.bl (decide (3 = i)), V.bl (decide (4 = i)), V.bl (decide (5 = i)), V.bl (decide (6 = i)), V.bl (decide (7 = i)), V.bl (decide (8 = i)), V.bl (decide (9 = i)), V.bl (decide (10 = i)), V.bl (decide (11 = i))] ++ [V.bl (decide (12 = i)), V.bl (decide (13 = i)), V.bl (decide (14 = i))])) h4)
    have e4 : upd (upd H3 m4 (.lst [V.bl (decide (12 = i)), V.bl (decide (13 = i)), V.bl (decide (14 = i))])) l4 (.lst ([V.bl (decide (0 = i)), V.bl (decide (1 = i)), V.bl (decide (2 = i)), V.bl (decide (3 = i)), V.bl (decide (4 = i)), V.bl (decide (5 = i)), V.bl (decide (6 = i)), V.bl (decide (7 = i)), V.bl (decide (8 = i)), V.bl (decide (9 = i)), V.bl (decide (10 = i)), V.bl (decide (11 = i))] ++ [V.bl (decide (12 = i)), V.bl (decide (13 = i)), V.bl (decide (14 = i))])) l4 = some (.lst [V.bl (decide (0 = i)), V.bl (decide (1 = i)), V.bl (decide (2 = i)), V.bl (decide (3 = i)), V.bl (decide (4 = i)), V.bl (decide (5 = i)), V.bl (decide (6 = i)), V.bl (decide (7 = i)), V.bl (decide (8 = i)), V.bl (decide (9 = i)), V.bl (decide (10 = i)), V.bl (decide (11 = i)), V.bl (decide (12 = i)), V.bl (decide (13 = i)), V.bl (decide (14 = i))]) := upd_same
    have d4 := s4 _ _ hd
    generalize upd (upd H3 m4 (.lst [V.bl (decide (12 = i)), V.bl (decide (13 = i)), V.bl (decide (14 = i))])) l4 (.lst ([V.bl (decide (0 = i)), V.bl (decide (1 = i)), V.bl (decide (2 = i)), V.bl (decide (3 = i)), V.bl (decide (4 = i)), V.bl (decide (5 = i)), V.bl (decide (6 = i)), V.bl (decide (7 = i)), V.bl (decide (8 = i)), V.bl (decide (9 = i)), V.bl (decide (10 = i)), V.bl (decide (11 = i))] ++ [V.bl (decide (12 = i)), V.bl (decide (13 = i)), V.bl (decide (14 = i))])) = H4 at s4 e4 d4 ⊢
    clear s3 e3 d3 n4 h4
    refine ⟨_, rfl, _, rfl, .ref (c 15), .ref (c 15), _, fs, rfl, d4, .own _, EC.kits 15 (by decide), _, rfl, .ref (c 16), .ref (c 16), _, fs, rfl, d4, .own _, EC.kits 16 (by decide), _, rfl, .ref (c 17), .ref (c 17), _, fs, rfl, d4, .own _, EC.kits 17 (by decide), by show 3 ≤ sizeLine; decide, fun m5 n5 => ⟨l4, m5, _, _, rfl, rfl, keep1 e4 n5, upd_same, by show 15 + 3 ≤ sizeLine; decide, fun l5 h5 => ?_⟩⟩
    have s5 := (s4.trans (same_new (o := .lst [V.bl (decide (15 = i)), V.bl (decide (16 = i)), V.bl (decide (17 = i))]) n5)).trans (same_new (o := .lst ([V.bl (decide (0 = i)), V.bl (decide (1 = i)), V.bl (decide (2 = i)), V.bl (decide (3 = i)), V.bl (decide (4 = i)), V.bl (decide (5 = i)), V.bl (decide (6 = i)), V.bl (decide (7 = i)), V.bl (decide (8 = i)), V.bl (decide (9 = i)), V.bl (decide (10 = i)), V.bl (decide (11 = i)), V.bl (decide (12 = i)), V.bl (decide (13 = i)), V.bl (decide (14 = i))] ++ [V.bl (decide (15 = i)), V.bl (decide (16 = i)), V.bl (decide (17 = i))])) h5)
    have e5 : upd (upd H4 m5 (.lst [V.bl (decide (15 = i)), V.bl (decide (16 = i)), V.bl (decide (17 = i))])) l5 (.lst ([V.bl (decide (0 = i)), V.bl (decide (1 = i)), V.bl (decide (2 = i)), V.bl (decide (3 = i)), V.bl (decide (4 = i)), V.bl (decide (5 = i)), V.bl (decide (6 = i)), V.bl (decide (7 = i)), V.bl (decide (8 = i)), V.bl (decide (9 = i)), V.bl (decide (10 = i)), V.bl (decide (11 = i)), V.bl (decide (12 = i)), V.bl (decide (13 = i)), V.bl (decide (14 = i))] ++ [V.bl (decide (15 = i)), V.bl (decide (16 = i)), V.bl (decide (17 = i))])) l5 = some (.lst [V.bl (decide (0 = i)), V.bl (decide (1 = i)), V.bl (decide (2 = i)), V.bl (decide (3 = i)), V.bl (decide (4 = i)), V.bl (decide (5 = i)), V.bl (decide (6 = i)), V.bl (decide (7 = i)), V.bl (decide (8 = i)), V.bl (decide (9 = i)), V.bl (decide (10 = i)), V.bl (decide (11 = i)), V.bl (decide (12 = i)), V.bl (decide (13 = i)), V.bl (decide (14 = i)), V.bl (decide (15 = i)), V.bl (decide (16 = i)), V.bl (decide (17 = i))]) := upd_same
    have d5 := s5 _ _ hd
    generalize upd (upd H4 m5 (.lst [V.bl (decide (15 = i)), V.bl (decide (16 = i)), V.bl (decide (17 = i))])) l5 (.lst ([V.bl (decide (0 = i)), V.bl (decide (1 = i)), V.bl (decide (2 = i)), V.bl (decide (3 = i)), V.bl (decide (4 = i)), V.bl (decide (5 = i)), V.bl (decide (6 = i)), V.bl (decide (7 = i)), V.bl (decide (8 = i)), V.bl (decide (9 = i)), V.bl (decide (10 = i)), V.bl (decide (11 = i)), V.bl (decide (12 = i)), V.bl (decide (13 = i)), V.bl (decide (14 = i))] ++ [V.bl (decide (15 = i)), V.bl (decide (16 = i)), V.bl (decide (17 = i))])) = H5 at s5 e5 d5 ⊢
    clear s4 e4 d4 n5 h5
    refine ⟨_, rfl, _, rfl, .ref (c 18), .ref (c 18), _, fs, rfl, d5, .own _, EC.kits 18 (by decide), _, rfl, .ref (c 19), .ref (c 19), _, fs, rfl, d5, .own _, EC.kits 19 (by decide), by show 2 ≤ sizeLine; decide, fun m6 n6 => ⟨l5, m6, _, _, rfl, rfl, keep1 e5 n6, upd_same, by show 18 + 2 ≤ sizeLine; decide, fun l6 h6 => ?_⟩⟩
    have s6 := (s5.trans (same_new (o := .lst [V.bl (decide (18 = i)), V.bl (decide (19 = i))]) n6)).trans (same_new (o := .lst ([V.bl (decide (0 = i)), V.bl (decide (1 = i)), V.bl (decide (2 = i)), V.bl (decide (3 = i)), V.bl (decide (4 = i)), V.bl (decide (5 = i)), V.bl (decide (6 = i)), V.bl (decide (7 = i)), V.bl (decide (8 = i)), V.bl (decide (9 = i)), V.bl (decide (10 = i)), V.bl (decide (11 = i)), V.bl (decide (12 = i)), V.bl (decide (13 = i)), V.bl (decide (14 = i)), V.bl (decide (15 = i)), V.bl (decide (16 = i)), V.bl (decide (17 = i))] ++ [V.bl (decide (18 = i)), V.bl (decide (19 = i))])) h6)
    have e6 : upd (upd H5 m6 (.lst [V.bl (decide (18 = i)), V.bl (decide (19 = i))])) l6 (.lst ([V.bl (decide (0 = i)), V.bl (decide (1 = i)), V.bl (decide (2 = i)), V.bl (decide (3 = i)), V.bl (decide (4 = i)), V.bl (decide (5 = i)), V.bl (decide (6 = i)), V.bl (decide (7 = i)), V.bl (decide (8 = i)), V.bl (decide (9 = i)), V.bl (decide (10 = i)), V.bl (decide (11 = i)), V.bl (decide (12 = i)), V.bl (decide (13 = i)), V.bl (decide (14 = i)), V.bl (decide (15 = i)), V.bl (decide (16 = i)), V.bl (decide (17 = i))] ++ [V.bl (decide (18 = i)), V.bl (decide (19 = i))])) l6 = some (.lst [V.bl (decide (0 = i)), V.bl (decide (1 = i)), V.bl (decide (2 = i)), V.bl (decide (3 = i)), V.bl (decide (4 = i)), V.bl (decide (5 = i)), V.bl (decide (6 = i)), V.bl (decide (7 = i)), V.bl (decide (8 = i)), V.bl (decide (9 = i)), V.bl (decide (10 = i)), V.bl (decide (11 = i)), V.bl (decide (12 = i)), V.bl (decide (13 = i)), V.bl (decide (14 = i)), V.bl (decide (15 = i)), V.bl (decide (16 = i)), V.bl (decide (17 = i)), V.bl (decide (18 = i)), V.bl (decide (19 = i))]) := upd_same
    have d6 := s6 _ _ hd
    generalize upd (upd H5 m6 (.lst [V.bl (decide (18 = i)), V.bl (decide (19 = i))])) l6 (.lst ([V.bl (decide (0 = i)), V.bl (decide (1 = i)), V.bl (decide (2 = i)), V.bl (decide (3 = i)), V.bl (decide (4 = i)), V.bl (decide (5 = i)), V.bl (decide (6 = i)), V.bl (decide (7 = i)), V.bl (decide (8 = i)), V.bl (decide (9 = i)), V.bl (decide (10 = i)), V.bl (decide (11 = i)), V.bl (decide (12 = i)), V.bl (decide (13 = i)), V.bl (decide (14 = i)), V.bl (decide (15 = i)), V.bl (decide (16 = i)), V.bl (decide (17 = i))] ++ [V.bl (decide (18 = i)), V.bl (decide (19 = i))])) = H6 at s6 e6 d6 ⊢
    clear s5 e5 d5 n6 h6
    have hi := EC.hi
    refine ⟨_, rfl, .ref (b 0), .ref (b 0), _, fs, rfl, d6, .own _, EC.kitb 0 (by decide), _, rfl, .ref (b 1), .ref (b 1), _, fs, rfl, d6, .own _, EC.kitb 1 (by decide), _, rfl, .ref (b 2), .ref (b 2), _, fs, rfl, d6, .own _, EC.kitb 2 (by decide), by show 3 ≤ sizeLine; decide, fun lb hlb => ?_⟩
    have t1 := same_new (o := .lst [V.bl (decide (partE i = 0)), V.bl (decide (partE i = 1)), V.bl (decide (partE i = 2))]) hlb
    refine ⟨_, rfl, .ty "ValueError", .type "ValueError", _, fs, rfl, keep1 d6 hlb, .ty _, EC.v0, _, rfl, .ty "LookupError", .type "LookupError", _, fs, rfl, keep1 d6 hlb, .ty _, EC.v1, _, rfl, .ty "ArithmeticError", .type "ArithmeticError", _, fs, rfl, keep1 d6 hlb, .ty _, EC.v2, by show 3 ≤ sizeLine; decide, fun lo hlo => ?_⟩
    have t2 := t1.trans (same_new (o := .lst [V.bl (decide (partE i = 0)), V.bl (decide (partE i = 1)), V.bl (decide (partE i = 2))]) hlo)
    have eb : upd (upd H6 lb (.lst [V.bl (decide (partE i = 0)), V.bl (decide (partE i = 1)), V.bl (decide (partE i = 2))])) lo (.lst [V.bl (decide (partE i = 0)), V.bl (decide (partE i = 1)), V.bl (decide (partE i = 2))]) lb = some (.lst ((PB i).map V.bl)) := keep1 upd_same hlo
    have eo : upd (upd H6 lb (.lst [V.bl (decide (partE i = 0)), V.bl (decide (partE i = 1)), V.bl (decide (partE i = 2))])) lo (.lst [V.bl (decide (partE i = 0)), V.bl (decide (partE i = 1)), V.bl (decide (partE i = 2))]) lo = some (.lst ((PB i).map V.bl)) := upd_same
    have sA := s6.trans t2
    have eS : upd (upd H6 lb (.lst [V.bl (decide (partE i = 0)), V.bl (decide (partE i = 1)), V.bl (decide (partE i = 2))])) lo (.lst [V.bl (decide (partE i = 0)), V.bl (decide (partE i = 1)), V.bl (decide (partE i = 2))]) l6 = some (.lst ((BB i).map V.bl)) := t2 _ _ e6
    have hdA := sA _ _ hd
    generalize upd (upd H6 lb (.lst [V.bl (decide (partE i = 0)), V.bl (decide (partE i = 1)), V.bl (decide (partE i = 2))])) lo (.lst [V.bl (decide (partE i = 0)), V.bl (decide (partE i = 1)), V.bl (decide (partE i = 2))]) = HA at sA eb eo eS hdA ⊢
    refine ⟨_, rfl, .inl ⟨rfl, _, SqL.of eS⟩, l6, BB i, rfl, rfl, SqL.of eS, rfl, _, rfl, if_false_of (by rw [bb_count i hi]; rfl) ?_⟩
    refine ⟨_, rfl, _, rfl, .list ((PB i).map .bool), .list ((PB i).map .bool), .lst (SqL.of eo) (dp_bools _), .lst (SqL.of eb) (dp_bools _), pb_shaped i hi, pb_shaped i hi, _, rfl, if_false_of (by rw [pb_eqv i hi]; rfl) ?_⟩
    refine ⟨_, rfl, .inl ⟨rfl, _, SqL.of eS⟩, l6, .bl true, .bool true, (BB i).map .bool, i, .bool true, rfl, rfl, .lst (SqL.of eS) (dp_bools _), .bl true, bb_shaped i hi, by decide +kernel, by rw [bb_at hi, decide_eq_true rfl], by decide +kernel, fun m z' hm hz => ?_, ?_⟩
    · rw [bb_at (by omega), decide_eq_false (by omega)] at hz
      cases hz
      decide +kernel
    refine ⟨_, rfl, (i : Int), rfl, (i : Int), rfl, (i : Int), rfl, by show 3 ≤ sizeLine; decide, fun lp hlp => ?_⟩
    have t3 := same_new (o := .lst [V.bl (decide ((i : Int) < 13)), V.bl (decide ((12 : Int) < (i : Int)) && decide ((i : Int) < 16)), V.bl (decide ((i : Int) > 15))]) hlp
    refine ⟨.list ((PB i).map .bool), .list ((PB i).map .bool), .lst (SqL.of (keep1 eb hlp)) (dp_bools _), .lst (SqL.of (by rw [upd_same, pb_place i hi]; rfl)) (dp_bools _), pb_shaped i hi, pb_shaped i hi, _, rfl, if_false_of (by rw [pb_eqv i hi]; rfl) ?_⟩
    have sP := sA.trans t3
    have hdP := t3 _ _ hdA
    clear eb eo eS
    generalize upd HA lp (.lst [V.bl (decide ((i : Int) < 13)), V.bl (decide ((12 : Int) < (i : Int)) && decide ((i : Int) < 16)), V.bl (decide ((i : Int) > 15))]) = HP at t3 sP hdP ⊢
    refine ⟨by show 12 ≤ sizeLine; decide, fun lw hlw => ?_⟩
    refine ⟨_, rfl, by show 8 ≤ sizeLine; decide, fun m hm => ⟨lw, m, _, _, rfl, rfl, keep1 upd_same hm, upd_same, by show 12 + 8 ≤ sizeLine; decide, fun lx hlx => ?_⟩⟩
    have t5 := ((same_new (o := .lst ((wE.take 12).map V.str)) hlw).trans (same_new (o := .lst ((wE.drop 12).map V.str)) hm)).trans (same_new (o := .lst ((wE.take 12).map V.str ++ (wE.drop 12).map V.str)) hlx)
    have ex : upd (upd (upd HP lw (.lst ((wE.take 12).map V.str))) m (.lst ((wE.drop 12).map V.str))) lx (.lst ((wE.take 12).map V.str ++ (wE.drop 12).map V.str)) lx = some (.lst (wE.map V.str)) := upd_same
    have hdX := t5 _ _ hdP
    have sX := sP.trans t5
    have n3 : ∀ m : Nat, m < 20 → (m ≠ 15 ∧ m ≠ 16 ∧ m ≠ 18 → inV (.int (m : Int)) [.int 15, .int 16, .int 18] = false) ∧ (m ≠ 11 ∧ m ≠ 12 ∧ m ≠ 14 → inV (.int (m : Int)) [.int 11, .int 12, .int 14] = false) := by decide +kernel
    have hw : (wE.map V.str)[i]? = some (V.str (wE.getD i Str.empty)) := by
      have h20 : i < wE.length := hi
      rw [List.getElem?_map, List.getElem?_eq_getElem h20, List.getD_eq_getElem?_getD, List.getElem?_eq_getElem h20]
      rfl
    have nx : i ≠ 15 ∧ i ≠ 16 ∧ i ≠ 18 := by
      rcases hv with ⟨h, _⟩ | ⟨h, _⟩ | ⟨h, _⟩ | ⟨h, _⟩ <;> omega
    have no1 := (n3 i hi).1 nx
    refine ⟨_, rfl, by show 3 ≤ sizeLine; decide, fun l3 hl3 => ⟨l3, _, rfl, .inl (SqL.of upd_same), rfl, rfl, _, rfl, if_false_of no1 ?_⟩⟩
    have ex3 := same_new (o := .lst [.int 15, .int 16, .int 18]) hl3 _ _ ex
    have hd3 := same_new (o := .lst [.int 15, .int 16, .int 18]) hl3 _ _ hdX
    have s3' := sX.trans (same_new (o := .lst [.int 15, .int 16, .int 18]) hl3)
    refine ⟨_, rfl, by show 3 ≤ sizeLine; decide, fun l4 hl4 => ⟨l4, _, rfl, .inl (SqL.of upd_same), rfl, rfl, _, rfl, ?_⟩⟩
    have ex4 := same_new (o := .lst [.int 11, .int 12, .int 14]) hl4 _ _ ex3
    have hd4 := same_new (o := .lst [.int 11, .int 12, .int 14]) hl4 _ _ hd3
    have s4' := s3'.trans (same_new (o := .lst [.int 11, .int 12, .int 14]) hl4)
    rcases hv with ⟨h, v, hv, rfl⟩ | ⟨h, v, u, hv, hu', rfl⟩ | ⟨h, v, hv, rfl⟩ | ⟨h, v, hv, rfl⟩
    · have n17 : decide (V.int (i : Int) = V.int 17) = false := decide_eq_false fun z => by injection z with z; omega
      have n19 : decide (V.int (i : Int) = V.int 19) = false := decide_eq_false fun z => by injection z with z; omega
      refine if_false_of ((n3 i hi).2 (by omega)) ⟨_, rfl, rfl, _, rfl, if_false_of n17 ⟨_, rfl, rfl, _, rfl, if_false_of n19 ?_⟩⟩
      refine ⟨_, rfl, _, rfl, lx, _, _, V.str (wE.getD i Str.empty), rfl, rfl, SqL.of ex4, atI_nat hw, _, rfl, fs, v, rfl, hd4, no _ (by simp), hv, by show 2 ≤ sizeLine; decide, fun t ht => ?_⟩
      exact k t _ (s4'.trans (same_new ht)) upd_same
    · subst h
      refine if_false_of ((n3 19 hi).2 (by omega)) ⟨_, rfl, rfl, _, rfl, if_false_of (decide_eq_false fun z => by injection z with z; omega) ⟨_, rfl, rfl, _, rfl, iteT ?_⟩⟩
      refine ⟨_, rfl, _, rfl, lx, _, _, V.str "broken", rfl, rfl, SqL.of ex4, atI_nat (j := 19) hw, _, rfl, fs, v, rfl, hd4, no _ (by simp), hv, _, rfl, fs, u, rfl, hd4, no _ (by simp), hu', by show 3 ≤ sizeLine; decide, fun t ht => ?_⟩
      exact k t _ (s4'.trans (same_new ht)) upd_same
    · have yes : inV (.int (i : Int)) [.int 11, .int 12, .int 14] = true := by
        rcases h with rfl | rfl | rfl <;> decide +kernel
      refine if_true_of yes ?_
      refine ⟨_, rfl, _, rfl, lx, _, _, V.str (wE.getD i Str.empty), rfl, rfl, SqL.of ex4, atI_nat hw, _, rfl, fs, v, rfl, hd4, no _ (by simp), hv, by show 2 ≤ sizeLine; decide, fun t ht => ?_⟩
      exact k t _ (s4'.trans (same_new ht)) upd_same
    · subst h
      refine if_false_of ((n3 17 hi).2 (by omega)) ⟨_, rfl, rfl, _, rfl, iteT ?_⟩
      refine ⟨_, rfl, _, rfl, lx, _, _, V.str "too many", rfl, rfl, SqL.of ex4, atI_nat (j := 17) hw, _, rfl, fs, v, rfl, hd4, no _ (by simp), hv, by show 2 ≤ sizeLine; decide, fun t ht => ?_⟩
      exact k t _ (s4'.trans (same_new ht)) upd_same
end
end My
namespace My
open PySem PySem.Spec PyProof.Rows L2 PySem.GX L2H LamX
/-- an error of the i-th class, which keeps 'given' -/
structure ErrF (K : PySem.W.Frag) (c b : Nat → Addr) (C : Addr) (i : Nat) : Prop where
  E : ErrD K c b C i
  no : ∀ f ∈ fE, PySem.W.findIn K (.ref C) f = some none
  ex : PySem.W.exmAny K (.ref C) [.ref (b 0), .ref (b 1), .ref (b 2)] = some true
/-- what the law's catcher makes of a call -/
def TTcau (K : PySem.W.Frag) (c b : Nat → Addr) : (XK → Hp → VK → Prop) → Hp → VK → Prop := fun tl H Q =>
  tl (fun cls dd H' => ∃ (C d : Addr) (i : Nat) (fs : List (Str × V)) (ts : List V), cls = .ref C ∧ dd = some d ∧ ErrF K c b C i ∧ H' d = some (exd d fs) ∧ ToldE i fs ts ∧ ∀ t H'', Same H' H'' → H'' t = some (.tup ts) → Q (.ref t) H'') H
    (fun v H' => ∀ t, H' t = none → Q (.ref t) (upd H' t (.tup [.str "told", v])))
abbrev nCau : List Str := ["_law_act", "_law_told", "_law_e"]
theorem scCau : FnScope nCau ["_law_act"] (defScope sCaught) := ⟨rfl, rfl, rfl, by decide +kernel, rfl, by decide +kernel, by decide +kernel⟩
/-- what the suite is asked -/
def tsCau (K : PySem.W.Frag) (c b : Nat → Addr) (a : Addr) (cls : Value) (dd : Option Addr) : TS := fun D σ H => ∃ (σ0 : L2.St) (C d : Addr) (i : Nat) (fs : List (Str × V)) (ts : List V), σ = σ0.set 2 (some (.ref a)) ∧ cls = .ref C ∧ dd = some d ∧ ErrF K c b C i ∧ H d = some (exd d fs) ∧ ToldE i fs ts ∧
  ∀ t H'', Same H H'' → H'' t = some (.tup ts) → D.rt (.ref t) H''
theorem PE_up {X : Cx} {e : Expr} {t : TE} (h : PE X e t) : PE X e (fun σ H Q => ∃ Qc : VK, t σ H Qc ∧ ∀ v H', Qc v H' → Q v H') :=
  ⟨fun pl s σ H Q I ⟨Qc, q, m⟩ => wpAny_mono (h.run pl s σ H Qc I q) (fun _ _ ⟨v, H1, I1, r, z⟩ => ⟨v, H1, I1, r, m v H1 z⟩) fun _ _ z => z⟩
theorem pss_by {X : Cx} {b : List Stmt} {ts : TS} (h : ∀ (D : Ends) (σ : L2.St) (H : Hp), σ.length = X.N.length → ts D σ H → ∃ t, PSs X b t ∧ t D σ H) : PSs X b ts :=
  ⟨fun pl s σ H D I want => let ⟨_, ht, q⟩ := h D σ H I.len want; ht.run pl s σ H D I q⟩
theorem gives_cau {X : Cx} {k : Nat} {g fR : Addr} {cdg : Value} {fdR : FuncData} {c b : Nat → Addr} {q : Str} (FR : Fun X.K "_law_refused" "_law_refused" sRefused fR fdR) (bR : Binds X.K fdR ["_law_e"] []) (gR : X.mg "_law_refused" = some (.ref fR))
    (gc : ∀ j, j < 20 → X.mg (cE.getD j Str.empty) = some (.ref (c j))) (gb : ∀ j, j < 3 → X.mg (bE.getD j Str.empty) = some (.ref (b j)))
    (hIs : X.mg "isinstance" = none) (hVE : X.mg "ValueError" = none) (hLE : X.mg "LookupError" = none) (hAE : X.mg "ArithmeticError" = none) :
    GivesN X (k + 1) nCau "_law_caught" (defScope sCaught) g cdg (defBody sCaught) "_law_act" q (TTcau X.K c b) := by
  intro f c' s H Q tl hr act hc want
  refine ⟨_, pss_cons (ps_try3 (X := (cxOf CX0 X.prog X.w X.K X.mg X.base nCau "_law_caught" (defScope sCaught) g cdg X.A X.stack s H E0).nox) (i := 2) (c1 := .ref (b 0)) (c2 := .ref (b 1)) (c3 := .ref (b 2)) (ts := tsCau X.K c b)
      (tb := fun W D σ H => ∃ Ech : XK, (∀ cls d σ' H', Ech cls d H' → W cls d σ' H') ∧ σ[0]? = some (some (.ref f)) ∧ H c' = some (CodeO c' q) ∧ ∃ Qc : VK, tl Ech H Qc ∧ ∀ v H', Qc v H' → D.nx (σ.set 1 (some v)) H')
      rfl rfl scCau.nd rfl rfl ⟨rfl, by decide, .inl (gb 0 (by decide))⟩ ⟨rfl, by decide, .inl (gb 1 (by decide))⟩ ⟨rfl, by decide, .inl (gb 2 (by decide))⟩ (fun W pn xe tk _ => ?_) (fun a oe cls d pn hz hf => ?_)) (pss_one (ps_ret (pe_tup (pa_cons pe_str (pa_cons (pv 1) pa_nil))))), ?_⟩
  · refine ⟨fun pl s' σ H' D I ⟨Ech, hW, h1, h2, Qc, h3, h4⟩ => ?_⟩
    exact (pss_one (ps_set (i := 1) scCau.nd rfl (Or.inl rfl) (PE_up (act W pn xe Ech _ _ tk hW)))).run pl s' σ H' D I ⟨Qc, ⟨h1, h2, h3⟩, h4⟩
  · refine pss_by fun D σ6 H6 len ⟨σ0, C, dd, i, fs, v, eσ, e1, e2, EC, hd, hv, kk⟩ => ?_
    subst eσ e1 e2
    have hp : PIs (a, oe) C dd := ⟨hz.1, hz.2.1⟩
    obtain ⟨vs, dv⟩ := hf
    have hot : Hot1 ((cxOf CX0 X.prog X.w X.K X.mg X.base nCau "_law_caught" (defScope sCaught) g cdg X.A X.stack s H E0).nox.suite a ((a, oe) :: pn)).A (a, oe) := ⟨rfl, vs, dv, hz.2.2 vs dv⟩
    have hrH : RoomH 1 ((cxOf CX0 X.prog X.w X.K X.mg X.base nCau "_law_caught" (defScope sCaught) g cdg X.A X.stack s H E0).nox.suite a ((a, oe) :: pn)).A := by
      have z : RoomH 1 (X.A.deeper (envOfC "_law_caught" (defScope sCaught) s.heap.objs.size g cdg)) := (roomH_of hr).mono (by omega)
      exact ⟨z.dp, z.un⟩
    have eR := ok_refusedT (P := X.prog) (w := X.w) (base := X.base) FR hp EC.E EC.no gc gb hIs hVE hLE hAE
    rw [List.length_set] at len
    obtain ⟨s0, s1, s2, rfl⟩ : ∃ s0 s1 s2, σ0 = [s0, s1, s2] := by
      match σ0, len with
      | [s0, s1, s2], _ => exact ⟨s0, s1, s2, rfl⟩
    exact ⟨_, pss_one (ps_ret (pe_callE eR hrH hot (List.mem_cons_self ..) rfl gR FR.kp bR (pa_cons (pv 2) pa_nil))), _, rfl, fs, v, rfl, hd, hv, kk⟩
  · refine ⟨_, fun cls dd σ' H' hE => ?_, rfl, hc, _, want, fun v H' z => ?_⟩
    · obtain ⟨C, d, i, fs, v, rfl, rfl, EC, hd, hv, kk⟩ := hE
      exact ⟨EC.ex, fun a _ => ⟨σ', C, d, i, fs, v, rfl, rfl, rfl, EC, hd, hv, kk⟩⟩
    · exact ⟨_, rfl, (by show 2 ≤ sizeLine; decide), fun l hl => z l hl⟩
end My
namespace My
open PySem PySem.Spec PyProof.Rows L2 PySem.GX L2H LamX
/-! what stays -/
def KS (S : List Addr) (H H' : Hp) : Prop := ∀ a o, a ∉ S → (∀ ps, o ≠ .tbl ps) → H a = some o → H' a = some o
theorem KS.refl {S : List Addr} {H : Hp} : KS S H H := fun _ _ _ _ h => h
theorem KS.trans {S : List Addr} {H H1 H2 : Hp} (a : KS S H H1) (b : KS S H1 H2) : KS S H H2 := fun c o n t h => b c o n t (a c o n t h)
theorem KS.same {S : List Addr} {H H' : Hp} (s : Same H H') : KS S H H' := fun b o _ _ h => s b o h
theorem KS.ext {S : List Addr} {H H' : Hp} (s : ExtN H H') : KS S H H' := fun b o _ t h => s b o h t
theorem KS.sb {S : List Addr} {p : Addr} {H H' : Hp} (s : Sb p H H') (hp : p ∈ S) : KS S H H' := fun b o n _ h => s b o (fun z => n (z ▸ hp)) h
theorem KS.fr {S S' : List Addr} {H H' : Hp} (s : Fr S' H H') (hs : ∀ a ∈ S', a ∈ S) : KS S H H' := fun b o n _ h => s b o (fun a ha z => n (z ▸ hs a ha)) h
theorem StAt.ext {H H' : Hp} {CS CU st : Addr} {T : List Ent} {B : List Bid} {e : V} {n : Nat} {ms : List Addr} (h : StAt H CS CU st T B e n ms) (s : ExtN H H') : StAt H' CS CU st T B e n ms := by
  obtain ⟨dx, d, sd, e1, e2, e3, e4, hR, hm⟩ := h
  refine ⟨dx, d, sd, s _ _ e1 (fun _ z => by cases z), s _ _ e2 (fun _ z => by cases z), s _ _ e3 (fun _ z => by cases z), fun b hb => s _ _ (e4 b hb) (fun _ z => by cases z), fun z hz => ?_, hm⟩
  obtain ⟨p, ⟨dx, M, G, D, e1, e2, e3, e4⟩, b⟩ := hR z hz
  exact ⟨p, ⟨dx, M, G, D, s _ _ e1 (fun _ z => by cases z), s _ _ e2 (fun _ z => by cases z), s _ _ e3 (fun _ z => by cases z), s _ _ e4 (fun _ z => by cases z)⟩, b⟩
theorem PastH.ext {H H' : Hp} {CS CU : Addr} {ms : List Addr} (s : ExtN H H') : ∀ {e : V} {past : List (List Ent × List Bid)}, PastH H CS CU ms e past → PastH H' CS CU ms e past
  | _, [], h => h
  | _, _ :: _, ⟨st, e', h1, h2, h3⟩ => ⟨st, e', h1, h2.ext s, PastH.ext s h3⟩
theorem DeskP.ext {H H' : Hp} {CD CS CU q : Addr} {T : List Ent} {B : List Bid} {past : List (List Ent × List Bid)} {ms : List Addr} (h : DeskP H CD CS CU q T B past ms) (s : ExtN H H') : DeskP H' CD CS CU q T B past ms := by
  obtain ⟨dx, st, e, eq, hs, hp⟩ := h
  exact ⟨dx, st, e, s _ _ eq (fun _ z => by cases z), hs.ext s, hp.ext s⟩
theorem DeskP.at {H : Hp} {CD CS CU q : Addr} {T : List Ent} {B : List Bid} {past : List (List Ent × List Bid)} {ms : List Addr} (h : DeskP H CD CS CU q T B past ms) : ∃ dx st, H q = some (.ins CD dx [("state", .ref st)]) := let ⟨dx, st, _, eq, _⟩ := h; ⟨dx, st, eq⟩
theorem DeskP.rule {H : Hp} {CD CS CU q : Addr} {T : List Ent} {B : List Bid} {past : List (List Ent × List Bid)} {ms : List Addr} (h : DeskP H CD CS CU q T B past ms) {z : Ent} (hz : z ∈ T) : ∃ p, RuleAt H CU z.2.2 z.2.1 p ∧ TxOk z.2.1 p := by
  obtain ⟨_, _, _, _, ⟨_, _, _, _, _, _, _, hR, _⟩, _⟩ := h
  exact hR z hz
/-- an instance -/
theorem Tabs.frI {T : List (Addr × Str)} {q C dx : Addr} {fs : List (Str × V)} {H H' : Hp} (t : Tabs T H) (s : Fr [q] H H') (e : H q = some (.ins C dx fs)) : Tabs T H' := fun z hz => by
  obtain ⟨ps, h1, h2, h3⟩ := t z hz
  refine ⟨ps, s _ _ (fun a ha => ?_) h1, h2, fun pos cv hc => ?_⟩
  · rw [List.mem_singleton.mp ha]
    exact ne_of h1 e (by intro z; cases z)
  · obtain ⟨c, e1, e2⟩ := h3 pos cv hc
    refine ⟨c, e1, s _ _ (fun a ha => ?_) e2⟩
    rw [List.mem_singleton.mp ha]
    exact ne_of e2 e (by intro z; unfold CodeO at z; cases z)
theorem Tabs.frD {T : List (Addr × Str)} {m : Addr} {kvs : List (Key × V)} {H H' : Hp} (t : Tabs T H) (s : Fr [m] H H') (e : H m = some (.dK kvs)) : Tabs T H' := fun z hz => by
  obtain ⟨ps, h1, h2, h3⟩ := t z hz
  refine ⟨ps, s _ _ (fun a ha => ?_) h1, h2, fun pos cv hc => ?_⟩
  · rw [List.mem_singleton.mp ha]
    exact ne_of h1 e (by intro z; cases z)
  · obtain ⟨c, e1, e2⟩ := h3 pos cv hc
    refine ⟨c, e1, s _ _ (fun a ha => ?_) e2⟩
    rw [List.mem_singleton.mp ha]
    exact ne_of e2 e (by intro z; unfold CodeO at z; cases z)
theorem Wl.frO {S : List Addr} {H H' : Hp} {p : Addr} (w : Wl H p) (s : Fr S H H') (hp : p ∉ S) : Wl H' p := by
  obtain ⟨a, b, c, h1, h2, e⟩ := w
  exact ⟨a, b, c, h1, h2, s _ _ (fun x hx z => hp (z ▸ hx)) e⟩
theorem bids_ne3 (B : List Bid) (a b c : Int) : HO.lst (bidR B) ≠ .lst [.int a, .int b, .int c] := fun z => by
  injection z with z
  cases B with
  | nil => cases z
  | cons w t => injection z with z _; cases z
theorem deskP_bid {H : Hp} {CD CS CU q b p : Addr} {T : List Ent} {B : List Bid} {past : List (List Ent × List Bid)} {ms : List Addr} (h : DeskP H CD CS CU q T B past ms) : True := trivial
/-- a box, as the law wrote it -/
structure BoxD where
  q : Addr
  x : Str
  ws : List Str
  fs : List Str
  kv : List (List Key × V)
abbrev BoxD.tx (d : BoxD) : Str := textL d.x d.ws d.fs d.kv
abbrev BoxD.pr (d : BoxD) : Parts := partsF d.x d.ws d.fs d.kv
def BxL (H : Hp) (b : Addr) (d : BoxD) : Prop := ∃ lw lf g, H d.q = some (.tup [.str d.x, .ref lw, .ref lf, .ref g]) ∧ H lw = some (.lst (d.ws.map V.str)) ∧ H lf = some (.lst (d.fs.map V.str)) ∧ H g = some (.dT d.kv) ∧ lw ≠ b ∧ lf ≠ b
theorem BxL.at {H : Hp} {b : Addr} {d : BoxD} (h : BxL H b d) : BxAt H d.q d.x d.ws d.fs d.kv := let ⟨lw, lf, g, a, b, c, e, _⟩ := h; ⟨lw, lf, g, a, b, c, e⟩
/-- what the box's parts are not -/
def Loose (H : Hp) (b a : Addr) : Prop := a = b ∨ (∃ w0 w1 w2 : Int, H a = some (.lst [.int w0, .int w1, .int w2])) ∨ (∃ C dx fs, H a = some (.ins C dx fs)) ∨ ∃ kvs, H a = some (.dK kvs)
theorem BxL.ks {S : List Addr} {H H' : Hp} {b : Addr} {d : BoxD} (h : BxL H b d) (s : KS S H H') (hS : ∀ a ∈ S, Loose H b a) (hb : ∃ xs, H b = some (.lst xs)) : BxL H' b d := by
  obtain ⟨lw, lf, g, e1, e2, e3, e4, n1, n2⟩ := h
  obtain ⟨xs, hb⟩ := hb
  have out : ∀ a o, H a = some o → (∀ ps, o ≠ .tbl ps) → a ≠ b → (∀ w0 w1 w2 : Int, o ≠ .lst [.int w0, .int w1, .int w2]) → (∀ C dx fs, o ≠ .ins C dx fs) → (∀ kvs, o ≠ .dK kvs) → H' a = some o := fun a o e t nb n1 n2 n3 => s a o (fun ha => by
    rcases hS a ha with z | ⟨w0, w1, w2, z⟩ | ⟨C, dx, fs, z⟩ | ⟨kvs, z⟩
    · exact nb z
    · exact n1 _ _ _ (Option.some.inj (e.symm.trans z))
    · exact n2 _ _ _ (Option.some.inj (e.symm.trans z))
    · exact n3 _ (Option.some.inj (e.symm.trans z))) t e
  refine ⟨lw, lf, g, out _ _ e1 (fun _ z => by cases z) (ne_of e1 hb (by intro z; cases z)) (fun _ _ _ z => by cases z) (fun _ _ _ z => by cases z) (fun _ z => by cases z),
    out _ _ e2 (fun _ z => by cases z) n1 (strs_ne3 _) (fun _ _ _ z => by cases z) (fun _ z => by cases z), out _ _ e3 (fun _ z => by cases z) n2 (strs_ne3 _) (fun _ _ _ z => by cases z) (fun _ z => by cases z),
    out _ _ e4 (fun _ z => by cases z) (ne_of e4 hb (by intro z; cases z)) (fun _ _ _ z => by cases z) (fun _ _ _ z => by cases z) (fun _ z => by cases z), n1, n2⟩
abbrev keys2 : List Str := ["a", "ab"]
/-- the heap of a turn -/
structure W51 (H : Hp) (CD CS CU p q m b dB : Addr) (Tb : List (Addr × Str)) (kvs : List (Key × V)) (bd : Str → BoxD) (dm : List (Key × V)) (T : List Ent) (B : List Bid) (past : List (List Ent × List Bid)) : Prop where
  w : Wl H p
  t : Tabs Tb H
  d : DeskP H CD CS CU q T B past [m]
  em : H m = some (.dK dm)
  eb : H b = some (.lst (bidR B))
  ex : H dB = some (.dK kvs)
  nm : dB ≠ m
  bx : ∀ k ∈ keys2, valV kvs (Sum.inr k) = some (.ref (bd k).q) ∧ BxL H b (bd k) ∧ Fine (bd k).x (bd k).ws (bd k).fs (bd k).kv ∧ (bd k).ws.length ≤ 5
  tx : ∀ z ∈ T, z.2.1 = (bd z.1).tx
section
variable {H H' : Hp} {CD CS CU p q m b dB : Addr} {Tb : List (Addr × Str)} {kvs : List (Key × V)} {bd : Str → BoxD} {dm dm' : List (Key × V)} {T T' : List Ent} {B B' : List Bid} {past past' : List (List Ent × List Bid)}
theorem W51.loose (h : W51 H CD CS CU p q m b dB Tb kvs bd dm T B past) : ∀ a ∈ [p, q, b, m], Loose H b a := fun a ha => by
  obtain ⟨dx, st, eq⟩ := h.d.at
  obtain ⟨w0, w1, w2, _, _, ep⟩ := id h.w
  simp only [List.mem_cons, List.not_mem_nil, or_false] at ha
  rcases ha with rfl | rfl | rfl | rfl
  · exact .inr (.inl ⟨_, _, _, ep⟩)
  · exact .inr (.inr (.inl ⟨_, _, _, eq⟩))
  · exact .inl rfl
  · exact .inr (.inr (.inr ⟨_, h.em⟩))
theorem W51.up (h : W51 H CD CS CU p q m b dB Tb kvs bd dm T B past) (s : KS [p, q, b, m] H H') (w' : Wl H' p) (t' : Tabs Tb H') (d' : DeskP H' CD CS CU q T' B' past' [m]) (em' : H' m = some (.dK dm')) (eb' : H' b = some (.lst (bidR B'))) (tx' : ∀ z ∈ T', z.2.1 = (bd z.1).tx) :
    W51 H' CD CS CU p q m b dB Tb kvs bd dm' T' B' past' := by
  obtain ⟨dx, st, eq⟩ := h.d.at
  obtain ⟨w0, w1, w2, _, _, ep⟩ := id h.w
  refine ⟨w', t', d', em', eb', s _ _ (fun ha => ?_) (fun _ z => by cases z) h.ex, h.nm, fun k hk => ?_, tx'⟩
  · simp only [List.mem_cons, List.not_mem_nil, or_false] at ha
    rcases ha with z | z | z | z
    · exact ne_of h.ex ep (by intro z; cases z) z
    · exact ne_of h.ex eq (by intro z; cases z) z
    · exact ne_of h.ex h.eb (by intro z; cases z) z
    · exact h.nm z
  · obtain ⟨a, b', c, d⟩ := h.bx k hk
    exact ⟨a, b'.ks s h.loose ⟨_, h.eb⟩, c, d⟩
theorem W51.ne (h : W51 H CD CS CU p q m b dB Tb kvs bd dm T B past) : b ≠ p ∧ q ≠ p ∧ m ≠ p ∧ b ≠ q ∧ m ≠ q ∧ m ≠ b := by
  obtain ⟨dx, st, eq⟩ := h.d.at
  obtain ⟨w0, w1, w2, _, _, ep⟩ := id h.w
  exact ⟨fun z => bids_ne3 _ _ _ _ (Option.some.inj ((z ▸ h.eb : H p = _).symm.trans ep)), ne_of eq ep (by intro z; cases z), ne_of h.em ep (by intro z; cases z), ne_of h.eb eq (by intro z; cases z), ne_of h.em eq (by intro z; cases z), ne_of h.em h.eb (by intro z; cases z)⟩
theorem W51.sb (h : W51 H CD CS CU p q m b dB Tb kvs bd dm T B past) (s : Sb p H H') (w' : Wl H' p) : W51 H' CD CS CU p q m b dB Tb kvs bd dm T B past := by
  obtain ⟨n1, n2, n3, _⟩ := h.ne
  exact h.up (KS.sb s (by simp)) w' (Tabs.sb_ h.t h.w s) (h.d.sb h.w s) (s _ _ n3 h.em) (s _ _ n1 h.eb) h.tx
theorem W51.same (h : W51 H CD CS CU p q m b dB Tb kvs bd dm T B past) (s : Same H H') : W51 H' CD CS CU p q m b dB Tb kvs bd dm T B past :=
  h.up (KS.same s) (h.w.same s) (h.t.ext s) (h.d.same s) (s _ _ h.em) (s _ _ h.eb) h.tx
theorem W51.ext (h : W51 H CD CS CU p q m b dB Tb kvs bd dm T B past) (s : ExtN H H') (t' : Tabs Tb H') : W51 H' CD CS CU p q m b dB Tb kvs bd dm T B past :=
  h.up (KS.ext s) (h.w.ext_ s) t' (h.d.ext s) (s _ _ h.em fun _ z => by cases z) (s _ _ h.eb fun _ z => by cases z) h.tx
/-- the desk has changed -/
theorem W51.desk (h : W51 H CD CS CU p q m b dB Tb kvs bd dm T B past) (s : Fr [q] H H') (d' : DeskP H' CD CS CU q T' B' past' [m]) (em' : H' m = some (.dK dm')) (eb' : H' b = some (.lst (bidR B'))) (tx' : ∀ z ∈ T', z.2.1 = (bd z.1).tx) : W51 H' CD CS CU p q m b dB Tb kvs bd dm' T' B' past' := by
  obtain ⟨dx, st, eq⟩ := h.d.at
  obtain ⟨n1, n2, n3, n4, n5, n6⟩ := h.ne
  exact h.up (KS.fr s (by simp)) (h.w.frO s (by simpa using n2.symm)) (Tabs.frI h.t s eq) d' em' eb' tx'
theorem W51.box (h : W51 H CD CS CU p q m b dB Tb kvs bd dm T B past) {k : Str} (hk : k ∈ keys2) : BxF H (bd k).q (bd k).pr (bd k).pr.ms ∧ PartsOk (bd k).pr ∧ TxOk (bd k).tx (bd k).pr := by
  obtain ⟨_, bl, fi, w5⟩ := h.bx k hk
  exact ⟨bxF_of fi bl.at, pok_of fi, text_ok_box (H := H) (q := (bd k).q) fi w5⟩
end
end My
namespace My
open PySem PySem.Spec PyProof.Rows L2 PySem.GX L2H LamX
/-- two tuples of the same data -/
def spSameT (K : PySem.W.Frag) : Sp := fun vs H Q _ => ∃ (a b : Addr) (ds : List PyData), vs = [.ref a, .ref b] ∧ Sh K H (.ref a) (.tuple ds) ∧ Sh K H (.ref b) (.tuple ds) ∧ PyData.showableAll ds = true ∧ (PyData.tuple ds).shown.length ≤ sizeLine ∧ (PyData.tuple ds).depth ≤ 60 ∧ Q (.bl true) H
section
variable {P : Program} {w : World} {K : PySem.W.Frag} {mg : Str → Option Value} {base : Heap}
theorem scSame : FnScope ["_law_told", "_law_due"] ["_law_told", "_law_due"] (defScope sSame) := ⟨rfl, rfl, rfl, by decide +kernel, rfl, by decide +kernel, by decide +kernel⟩
theorem ok_same {f : Addr} {fd : FuncData} (F : Fun K "_law_same" "_law_same" sSame f fd) (hRe : mg "repr" = none) : FnG P w K mg base CX0 1 f fd ["_law_told", "_law_due"] (spSameT K) := by
  refine F.okG scSame (fun vs H Q E h => ?_) (fun cdv A outer s H vs Q E hgd hr h => ?_)
  · obtain ⟨a, b, ds, rfl, _⟩ := h
    rfl
  · obtain ⟨a, b, ds, rfl, ha, hb, h1, h2, h3, y⟩ := h
    refine ⟨_, pss_one (ps_ret (pe_cmpR op_eq (pe_callB (call_reprT (K := K) rfl hgd hr.units) (by rfl) hRe (by decide +kernel) (pa_cons (pv 0) pa_nil)) (pe_callB (call_reprT (K := K) rfl hgd hr.units) (by rfl) hRe (by decide +kernel) (pa_cons (pv 1) pa_nil)) (nomark _))), ?_⟩
    refine ⟨_, rfl, a, ds, rfl, ha, h1, h2, h3, _, rfl, b, ds, rfl, hb, h1, h2, h3, rfl, ?_⟩
    rw [decide_eq_true rfl]
    exact y
end
end My
namespace My
open PySem PySem.Spec PyProof.Rows L2 PySem.GX L2H LamX
abbrev qRi : Str := ("_law_right" : Str) ++ ".<locals>." ++ "<lambda>"
/-- a method under its promise -/
structure MtN (K : PySem.W.Frag) (C f : Addr) (m : Str) (fd : FuncData) (ps : List Str) : Prop where
  m : Meth K C m f
  b : Binds K fd ps []
/-- what the law's right stands on -/
structure R51 (P : Program) (w : World) (K : PySem.W.Frag) (mg : Str → Option Value) (base : Heap) (CD CS CU : Addr) (c b : Nat → Addr) : Prop where
  T : DkC K CD
  md : ∃ (f : Addr) (fd : FuncData), Mk K CD f ∧ FnOk P w K mg base CX0 3 f fd ["self"] (spDkInitP CD CS CU) ∧ Binds K fd ["self"] [] ∧ mg "Desk" = some (.ref CD)
  ru : ∃ (f : Addr) (fd : FuncData), Mk K CU f ∧ FnOk P w K mg base CX0 5 f fd ["self", "text"] (spInit CU) ∧ Binds K fd ["self", "text"] [] ∧ mg "Rule" = some (.ref CU)
  pu : ∃ (f : Addr) (fd : FuncData), MtN K CD f "put" fd ["self", "name", "rule"] ∧ FnOk P w K mg base CX0 3 f fd ["self", "name", "rule"] (spPutP0 CD CS CU)
  cl : ∃ (f : Addr) (fd : FuncData), MtN K CD f "claim" fd ["self", "claim"] ∧ FnOk P w K mg base (L2N.CX P w) 8 f fd ["self", "claim"] (spClaimB CD CS CU (c 19))
  hP : Hv P w K mg base 1 "_law_pick" ["_law_purse_here", "_law_size"] spPk
  hLt : Hv P w K mg base 2 "_law_letters" ["_law_purse_here", "_law_size"] spLetters
  hBx : Hv P w K mg base 3 "_law_box" ["_law_purse_here", "_law_letters_here"] spBox
  hTx : Hv P w K mg base 1 "_law_text" ["_law_box_here"] spTextB
  hLn : Hv P w K mg base 2 "_law_line" ["_law_purse_here", "_law_letters_here"] spLineR
  hHo : Hv P w K mg base 3 "_law_holds" ["_law_box_here", "_law_line_here"] spHoldsL
  e19 : ErrF K c b (c 19) 19
  rf : ∃ (f : Addr) (fd : FuncData), Fun K "_law_refused" "_law_refused" sRefused f fd ∧ Binds K fd ["_law_e"] [] ∧ mg "_law_refused" = some (.ref f)
  gc : ∀ j, j < 20 → mg (cE.getD j Str.empty) = some (.ref (c j))
  gb : ∀ j, j < 3 → mg (bE.getD j Str.empty) = some (.ref (b j))
  ca : ∃ (g : Addr) (oc : Value) (od : Option Addr) (kV doc pm : Value) (an : Option Addr) (cd ct : Value) (osl : Array (Option Value)), mg "_law_caught" = some (.ref g) ∧ PySem.W.keepIn K (.ref g) = true ∧
    K.lookup g = some ⟨oc, od, .func (PySem.W.fnOf "_law_caught" "_law_caught" (defArgs sCaught) (defBody sCaught) (defScope sCaught) .none kV doc pm an cd ct), osl⟩ ∧ PySem.W.codeIn K cd "_law_caught" = true ∧
    L2.Binds K (PySem.W.fnOf "_law_caught" "_law_caught" (defArgs sCaught) (defBody sCaught) (defScope sCaught) .none kV doc pm an cd ct) ["_law_act"] []
  sa : ∃ (g : Addr) (fd : FuncData), FnG P w K mg base CX0 1 g fd ["_law_told", "_law_due"] (spSameT K) ∧ Binds K fd ["_law_told", "_law_due"] [] ∧ mg "_law_same" = some (.ref g) ∧ PySem.W.keepIn K (.ref g) = true
  di : ∃ (g : Addr) (fd : FuncData), FnG P w K mg base CX0 4 g fd ["_law_mine", "_law_held", "_law_bids", "_law_steps"] (spDeskIsP CD CS CU) ∧ Binds K fd ["_law_mine", "_law_held", "_law_bids", "_law_steps"] [] ∧ mg "_law_desk_is" = some (.ref g) ∧ PySem.W.keepIn K (.ref g) = true
  hIs : mg "isinstance" = none
  hVE : mg "ValueError" = none
  hLE : mg "LookupError" = none
  hAE : mg "ArithmeticError" = none
  hRa : mg "range" = none
  hL : mg "len" = none
def spRightP (T : List (Addr × Str)) : Sp := fun vs H Q _ => ∃ p : Addr, vs = [.ref p] ∧ Wl H p ∧ Tabs T H ∧ ∀ H' : Hp, Kp p H H' → Tabs T H' → Q (.bl true) H'
abbrev nRightP : List Str := ["_law_purse_here", "_law_letters_here", "_law_mine", "_law_held", "_law_bids", "_law_boxes", "_law_tag", "_law_turn", "_law_line_here", "_law_words", "_law_word", "_law_thing", "_law_holds_here", "_law_due"]
theorem scRightP : FnScope nRightP ["_law_purse_here"] (defScope sRight) := ⟨rfl, rfl, rfl, by decide +kernel, rfl, by decide +kernel, by decide +kernel⟩
/-- the line, made a thousand signs long once -/
def tLineX : TE := fun σ H Q => ∃ (i : Int) (r k : Str) (dB : Addr) (kvs : List (Key × V)) (qb : Addr) (x : Str) (a1 a2 a3 : V), σ[7]? = some (some (.int i)) ∧ σ[8]? = some (some (.str r)) ∧ σ[6]? = some (some (.str k)) ∧ σ[5]? = some (some (.ref dB)) ∧ H dB = some (.dK kvs) ∧ valV kvs (Sum.inr k) = some (.ref qb) ∧ H qb = some (.tup [.str x, a1, a2, a3]) ∧ 1 ≤ x.length ∧ x.length ≤ 3 ∧ (∀ c ∈ x.cps.toList, c ∈ abc.cps.toList) ∧ LinL r ∧ ∀ r', LinL r' → Q (.str r') H
theorem lin_of {r : Str} (h1 : r.length ≤ 1000) (h2 : ∀ c ∈ r.cps.toList, c ∈ abc.cps.toList) : LinL r := ⟨h1, by
  rw [made_all, List.all_eq_true]
  exact fun c hc => decide_eq_true (h2 c hc)⟩
theorem LinL.mem {r : Str} (h : LinL r) : ∀ c ∈ r.cps.toList, c ∈ abc.cps.toList := fun c hc => by
  have := h.2
  rw [made_all, List.all_eq_true] at this
  exact of_decide_eq_true (this c hc)
theorem LinL.low {r : Str} (h : LinL r) : Low r := fun c hc => by
  have all : ∀ d ∈ abc.cps.toList, d < 256 := by decide +kernel
  exact all c (h.mem c hc)
theorem mul_memX {x : Str} {n : Nat} : ∀ c ∈ (Txt.mul x (n : Int)).cps.toList, c ∈ x.cps.toList := by
  intro c hc
  unfold Txt.mul at hc
  split at hc
  · cases hc
  · split at hc
    · exact hc
    · have go : ∀ (m : Nat) (acc : Array Nat), c ∈ ((List.replicate m x.cps).foldl (· ++ ·) acc).toList → c ∈ acc.toList ∨ c ∈ x.cps.toList := by
        intro m
        induction m with
        | zero => intro acc h; exact .inl h
        | succ m ih =>
          intro acc h
          rw [List.replicate_succ, List.foldl_cons] at h
          rcases ih _ h with h | h
          · rw [Array.toList_append, List.mem_append] at h
            exact h
          · exact .inr h
      have hc' : c ∈ ((List.replicate (n : Int).toNat x.cps).foldl (· ++ ·) #[]).toList := hc
      rcases go _ _ hc' with h | h
      · cases h
      · exact h
theorem sw_told : PyData.showableAll [.str "told", .none] = true ∧ (PyData.tuple [.str "told", .none]).shown.length ≤ sizeLine ∧ (PyData.tuple [.str "told", .none]).depth ≤ 60 := by decide +kernel
theorem sw_broken {n : Nat} (hn : n ≤ 1000) : PyData.showableAll [.str "broken", .int (n : Int), .none] = true ∧ (PyData.tuple [.str "broken", .int (n : Int), .none]).shown.length ≤ sizeLine ∧ (PyData.tuple [.str "broken", .int (n : Int), .none]).depth ≤ 60 := by
  obtain ⟨i1, i2, i3⟩ := int_small n (by omega)
  have hb : ∀ d ∈ [PyData.str "broken", .int (n : Int), .none], d.showable = true ∧ d.shown.length ≤ 12000 ∧ d.depth ≤ 1 := fun d hd => by
    simp only [List.mem_cons, List.not_mem_nil, or_false] at hd
    rcases hd with rfl | rfl | rfl
    · decide +kernel
    · exact ⟨i1, i2, i3⟩
    · decide +kernel
  refine ⟨able_map _ fun d hd => (hb d hd).1, ?_, ?_⟩
  · have e : (PyData.tuple [PyData.str "broken", .int (n : Int), .none]).shown = tupleText (([PyData.str "broken", .int (n : Int), .none]).map PyData.shown) := by
      rw [← shown_map]
      simp only [PyData.shown]
    rw [e]
    have := tuple_len (k := 12000) (ts := ([PyData.str "broken", .int (n : Int), .none]).map PyData.shown) fun t ht => by
      obtain ⟨d, hd, rfl⟩ := List.mem_map.mp ht
      exact (hb d hd).2.1
    have l3 : (([PyData.str "broken", .int (n : Int), .none]).map PyData.shown).length = 3 := rfl
    rw [l3] at this
    rw [sizeLine_eq]
    omega
  · have := depth_map (k := 1) _ fun d hd => (hb d hd).2.2
    simp only [PyData.depth]
    omega
theorem a_word : isWordL "a" = true := by decide +kernel
theorem ab_word : isWordL "ab" = true := by decide +kernel
section
variable {P : Program} {w : World} {K : PySem.W.Frag} {mg : Str → Option Value} {base : Heap} {CD CS CU : Addr} {c b : Nat → Addr}
theorem ok_rightP {f cR PT : Addr} {kV doc pm ct oc : Value} {an od : Option Addr} {osl : Array (Option Value)} (lk : K.lookup f = some ⟨oc, od, .func (PySem.W.fnOf "_law_right" "_law_right" (defArgs sRight) (defBody sRight) (defScope sRight) .none kV doc pm an (.ref cR) ct), osl⟩)
    (hcd : PySem.W.codeIn K (.ref cR) "_law_right" = true) (TB : TabB base mg cR PT) (R : R51 P w K mg base CD CS CU c b) :
    FnG P w K mg base CX0 11 f (PySem.W.fnOf "_law_right" "_law_right" (defArgs sRight) (defBody sRight) (defScope sRight) .none kV doc pm an (.ref cR) ct) ["_law_purse_here"] (spRightP [(PT, qRi)]) := by
  obtain ⟨fDk, fdDk, MD, GD, bD, gD⟩ := R.md
  obtain ⟨fU, fdU, MU, GU, bU, gU⟩ := R.ru
  obtain ⟨fP, fdP, mP, GPM⟩ := R.pu
  obtain ⟨fC, fdC, mC, GCM⟩ := R.cl
  obtain ⟨fR, fdR, FR, bR, gR⟩ := R.rf
  obtain ⟨gC, ocC, odC, kVC, docC, pmC, anC, cdC, ctC, oslC, mCa, kC, lC, cC, bC⟩ := R.ca
  obtain ⟨gS, fdS, GS, bS, mS, kS⟩ := R.sa
  obtain ⟨gI, fdI, GI, bI, mI, kI⟩ := R.di
  refine fnG_of lk hcd scRightP (fun vs H Q E h => ?_) (fun A outer s H vs Q E hgd hr h => ?_)
  · obtain ⟨p, rfl, _⟩ := h
    rfl
  · obtain ⟨p, rfl, hW, hT, y⟩ := h
    suffices hh : ∃ t, PSs (cxOf CX0 P w K mg base nRightP "_law_right" (defScope sRight) f (.ref cR) A outer s H E).nox (defBody sRight) t ∧ t { nx := fun _ H' => Q .non H', rt := Q } (L2.start nRightP [.ref p]) H from by
      obtain ⟨t, h1, h2⟩ := hh
      exact ⟨t, h1.nox, h2⟩
    have hu := hu_of hr
    have hr1 : Room 1 (A.deeper (envOfC "_law_right" (defScope sRight) s.heap.objs.size f (.ref cR))) := hr.mono (by decide)
    have hr2 : Room 2 (A.deeper (envOfC "_law_right" (defScope sRight) s.heap.objs.size f (.ref cR))) := hr.mono (by decide)
    have hr3 : Room 3 (A.deeper (envOfC "_law_right" (defScope sRight) s.heap.objs.size f (.ref cR))) := hr.mono (by decide)
    have hr4 : Room 4 (A.deeper (envOfC "_law_right" (defScope sRight) s.heap.objs.size f (.ref cR))) := hr.mono (by decide)
    have hr6 : Room 6 (A.deeper (envOfC "_law_right" (defScope sRight) s.heap.objs.size f (.ref cR))) := hr.mono (by decide)
    refine ⟨_, pss_cons (ps_asg (pe_tup (pa_cons (pe_cl R.hLt hr2 rfl pass0 (pa_cons (pv 0) (pa_cons (pe_op op_add pe_int (pe_cl R.hP hr1 rfl pass0 (pa_cons (pv 0) (pa_cons pe_int pa_nil)))) pa_nil))) (pa_cons (pe_make0 MD GD hr4 rfl gD bD .nil pass0) (pa_cons pe_dnewK (pa_cons (pe_lst pa_nil) pa_nil))))) (pg_tup (by rfl) (pgs_cons (pg_name (i := 1) scRightP.nd rfl (Or.inl rfl)) (pgs_cons (pg_name (i := 2) scRightP.nd rfl (Or.inr rfl)) (pgs_cons (pg_name (i := 3) scRightP.nd rfl (Or.inl rfl)) (pgs_cons (pg_name (i := 4) scRightP.nd rfl (Or.inl rfl)) pgs_nil))))))
      (pss_cons (ps_set (i := 5) scRightP.nd rfl (Or.inl rfl) (pe_disp (pps_cons pe_str (pe_cl R.hBx hr3 rfl pass0 (pa_cons (pv 0) (pa_cons (pv 1) pa_nil))) (pps_cons pe_str (pe_cl R.hBx hr3 rfl pass0 (pa_cons (pv 0) (pa_cons (pe_cl R.hLt hr2 rfl pass0 (pa_cons (pv 0) (pa_cons pe_int pa_nil))) pa_nil))) pps_nil)) (by rfl) (by rfl) (fun z => by cases z) (by decide)))
      (pss_cons (ps_for PassesOwn.never rfl (pi_list (pe_lst (pa_cons pe_str (pa_cons pe_str pa_nil)))) (pg_name (i := 6) scRightP.nd rfl (Or.inl rfl))
        (pss_cons (ps_dput hu (pv 3) (pv 6) (pe_cl R.hTx hr1 rfl pass0 (pa_cons (pe_dget hu (pv 5) (pv 6) (fun _ _ => rfl)) pa_nil)) rfl)
        (pss_one (ps_expr (pe_meth (pv 2) R.T.cl mP.m GPM hr3 mP.b .nil pass0 (pa_cons (pv 6) (pa_cons (pe_make MU GU hr6 rfl gU bU .nil pass0 (pa_cons (pe_dget hu (pv 3) (pv 6) (fun _ _ => rfl)) pa_nil)) pa_nil)))))))
      (pss_cons (ps_for PassesOwn.never rfl (pi_range1 rfl R.hRa (pa_cons pe_int pa_nil)) (pg_name (i := 7) scRightP.nd rfl (Or.inl rfl))
        (pss_cons (ps_set (i := 6) scRightP.nd rfl (Or.inl rfl) (pe_ix ix_list (pe_lst (pa_cons pe_str (pa_cons pe_str pa_nil))) (pe_cl R.hP hr1 rfl pass0 (pa_cons (pv 0) (pa_cons pe_int pa_nil))) (fun _ _ => rfl)))
        (pss_cons (ps_set (i := 8) scRightP.nd rfl (Or.inl rfl) (pe_cl R.hLn hr2 rfl pass0 (pa_cons (pv 0) (pa_cons (pe_ix ix_tup (pe_dget hu (pv 5) (pv 6) (fun _ _ => rfl)) pe_int (fun _ _ => rfl)) pa_nil))))
        (pss_cons (ps_set (i := 8) scRightP.nd rfl (Or.inl rfl) (PE_imp (t' := tLineX) (pe_ifExp (pt_cmpR op_eq (pv 7) pe_int (nomark _)) (pe_slice sl_str (pe_op op_add_str (pv 8) (pe_op op_mulX (pe_ix ix_str (pe_ix ix_tup (pe_dget hu (pv 5) (pv 6) (fun _ _ => rfl)) pe_int (fun _ _ => rfl)) pe_int (fun _ _ => rfl)) pe_int)) po_none (po_some pe_int)) (pv 8)) ?iLine))
        (pss_cons (ps_set (i := 9) scRightP.nd rfl (Or.inl rfl) (pe_ix ix_list (pe_lst (pa_cons (pe_lst (pa_cons pe_str (pa_cons pe_str pa_nil))) (pa_cons (pe_lst (pa_cons pe_str (pa_cons pe_str pa_nil))) pa_nil))) (pe_cl R.hP hr1 rfl pass0 (pa_cons (pv 0) (pa_cons pe_int pa_nil))) (fun _ _ => rfl)))
        (pss_one (ps_for PassesOwn.never rfl (pi_list (pv 9)) (pg_name (i := 10) scRightP.nd rfl (Or.inl rfl))
          (pss_cons (ps_set (i := 11) scRightP.nd rfl (Or.inr rfl) (pe_tup (pa_cons (pv 10) (pa_cons (pv 6) (pa_cons (pv 8) pa_nil)))))
          (pss_cons (ps_set (i := 12) scRightP.nd rfl (Or.inl rfl) (pe_cmpR op_eq (pe_cl R.hHo hr3 rfl pass0 (pa_cons (pe_dget hu (pv 5) (pv 6) (fun _ _ => rfl)) (pa_cons (pv 8) pa_nil))) (pe_cmpR op_eq (pv 10) pe_str (nomark _)) (nomark _)))
          (pss_cons (ps_set (i := 13) scRightP.nd rfl (Or.inl rfl) (pe_ifExp (pt_val (pv 12)) (pe_tup (pa_cons pe_str (pa_cons pe_non pa_nil))) (pe_tup (pa_cons pe_str (pa_cons (pe_callB call_len_seq (by rfl) R.hL PySem.boot_len (pa_cons (pv 4) pa_nil)) (pa_cons pe_non pa_nil))))))
          (pss_cons (ps_if (pt_not (pt_val (pe_callG GS hgd hr1 rfl mS kS bS pass0 (pa_cons (pe_lamN (T := [(PT, qRi)]) (TT := TTcau K c b) (k := 8) rfl mCa kC lC cC bC scCau rfl (Or.inl rfl) (gives_cau FR bR gR R.gc R.gb R.hIs R.hVE R.hLE R.hAE) TB rfl (List.mem_singleton.mpr rfl) (fun q hq _ => by rw [List.mem_singleton.mp hq]; rfl) hr (lamS_by (show lamSB (defScope sRight) _ = true by decide +kernel)) rfl (fun _ _ _ _ _ => rfl)
              (fun A outer s H E f c' hr' => pe_meth (pv 2) R.T.cl mC.m GCM hr' mC.b .nil (L2N.passes_call (L2N.takes_of rfl rfl rfl rfl) (fun _ _ _ _ z => z)) (pa_cons (pv 11) pa_nil))) (pa_cons (pv 13) pa_nil))))) (pss_one (ps_ret pe_bl)) pss_nil)
          (pss_one (ps_if (pt_val (pv 12)) (pss_one (ps_expr (pe_bm PySem.F.plainAttrs_list PySem.F.slot_list_append PySem.F.type_list_append mt_append (pv 4) (pa_cons (pv 11) pa_nil)))) pss_nil)))))))))))))
      (pss_one (ps_ret (pe_callG GI hgd hr4 rfl mI kI bI pass0 (pa_cons (pv 2) (pa_cons (pv 3) (pa_cons (pv 4) (pa_cons (pe_op op_add pe_int (pe_callB call_len_seq (by rfl) R.hL PySem.boot_len (pa_cons (pv 4) pa_nil))) pa_nil)))))))))), ?_⟩
    case iLine =>
      rintro σ H Q ⟨i, r, k, dB, kvs, qb, x, a1, a2, a3, e7, e8, e6, e5, eB, ev, eq, x1, x3, xa, hl, y⟩
      refine ⟨_, e7, rfl, _, rfl, ite2 (fun _ => ?_) (fun _ => ⟨_, e8, y r hl⟩)⟩
      have g := DGet.k (k := Sum.inr k) eB
      rw [ev] at g
      have hj : 0 < x.cps.toList.length := by
        rw [Array.length_toList]
        show 0 < x.length
        omega
      have ei : x.cps.toList[0]? = some x.cps.toList[0] := List.getElem?_eq_getElem hj
      have hc : x.cps.toList[0] ∈ x.cps.toList := List.getElem_mem hj
      generalize x.cps.toList[0] = c at ei hc
      have zr := hl.1
      refine ⟨_, e8, _, e5, _, e6, dB, V.ref qb, rfl, g, qb, _, _, V.str x, rfl, rfl, SqT.of eq, atI_nat (j := 0) rfl, x, _, c, rfl, rfl, by rw [sizeLine_eq]; omega, atI_nat (j := 0) ei, sg c, 1000, rfl, rfl, by decide, by show 1 ≤ 10000; decide, fun rr er lr => ⟨_, _, rfl, rfl, ?_, ?_⟩⟩
      · rw [lr, sizeLine_eq]
        show r.length + 1 * 1000 ≤ _
        omega
      have ll : (r ++ rr).length = r.length + 1000 := by
        rw [len_app, lr]
        show r.length + 1 * 1000 = _
        omega
      have mm : ∀ d ∈ (r ++ rr).cps.toList, d ∈ abc.cps.toList := fun d hd => by
        rw [cps_app, List.mem_append] at hd
        rcases hd with hd | hd
        · exact hl.mem d hd
        · rw [er] at hd
          have := mul_memX d hd
          have : d = c := by simpa using this
          rw [this]
          exact xa c hc
      generalize r ++ rr = z at ll mm
      refine ⟨_, rfl, z, rfl, by rw [sizeLine_eq]; omega, y _ (lin_of ?_ fun d hd => mm d (cut_sub _ _ _ d hd))⟩
      have e1 := cut_hi (x := z) (j := 1000) (by omega) (by omega)
      have := congrArg List.length e1
      rw [List.length_take, Array.length_toList, Array.length_toList] at this
      have q1 : (cutS z none (some ((1000 : Nat) : Int))).cps.size = (cutS z none (some ((1000 : Nat) : Int))).length := rfl
      show (cutS z none (some ((1000 : Nat) : Int))).length ≤ 1000
      omega
    refine ⟨_, rfl, _, rfl, p, 3, rfl, hW, by decide, by decide, fun d H1 d0 d1 s1 hW1 => ?_⟩
    obtain ⟨kd, rfl⟩ := Int.eq_ofNat_of_zero_le d0
    refine ⟨_, _, rfl, rfl, p, 1 + kd, by rw [show ((1 + kd : Nat) : Int) = 1 + (kd : Int) by omega]; rfl, hW1, by omega, by omega, fun x H2 hx lx s2 hW2 => ?_⟩
    refine fun q dx hq hdx ne => ⟨q, dx, rfl, upd_same, fun H3 keep hD => ⟨rfl, ?_⟩⟩
    have sA : Same H2 H3 := fun b o e => keep b o (ne_of_none e hq) (((same_new (o := .own q) hdx).trans (same_new (o := .ins CD dx []) (by rw [upd_ne ne.symm]; exact hq))) b o e)
    have hD1 := hD [] (fun _ z => by cases z)
    refine fun m hm => ⟨by show 0 ≤ sizeLine; decide, fun bl hbl => ⟨by show 4 ≤ sizeLine; decide, fun t0 ht0 => ⟨t0, _, rfl, SqT.of upd_same, rfl, _, _, rfl, _, _, rfl, _, _, rfl, _, _, rfl, rfl, ?_⟩⟩⟩
    have hT2 := Tabs.sb_ (Tabs.sb_ hT hW s1) hW1 s2
    have sB := ((same_new (o := .dK []) hm).trans (same_new (o := .lst []) hbl)).trans (same_new (o := .tup [.str x, .ref q, .ref m, .ref bl]) ht0)
    have em4 : upd (upd (upd H3 m (.dK [])) bl (.lst [])) t0 (.tup [.str x, .ref q, .ref m, .ref bl]) m = some (.dK []) := keep1 (keep1 upd_same hbl) ht0
    have eb4 : upd (upd (upd H3 m (.dK [])) bl (.lst [])) t0 (.tup [.str x, .ref q, .ref m, .ref bl]) bl = some (.lst []) := keep1 upd_same ht0
    have hD4 : DeskP (upd (upd (upd H3 m (.dK [])) bl (.lst [])) t0 (.tup [.str x, .ref q, .ref m, .ref bl])) CD CS CU q [] [] [] [m] := (hD1.add hm).same sB
    have hW4 : Wl (upd (upd (upd H3 m (.dK [])) bl (.lst [])) t0 (.tup [.str x, .ref q, .ref m, .ref bl])) p := (hW2.same sA).same sB
    have hT4 : Tabs [(PT, qRi)] (upd (upd (upd H3 m (.dK [])) bl (.lst [])) t0 (.tup [.str x, .ref q, .ref m, .ref bl])) := (hT2.ext sA).ext sB
    have sb4 : Sb p H (upd (upd (upd H3 m (.dK [])) bl (.lst [])) t0 (.tup [.str x, .ref q, .ref m, .ref bl])) := (s1.trans s2).trans (Sb.of (sA.trans sB))
    have nbH : ∀ a o, H a = some o → a ≠ p → a ≠ q ∧ a ≠ bl ∧ a ≠ m := fun a o e np => by
      have e2 := s2 a o np (s1 a o np e)
      have e3 := sA _ _ e2
      exact ⟨ne_of_none e2 hq, ne_of_none (keep1 (o := .dK []) e3 hm) hbl, ne_of_none e3 hm⟩
    generalize upd (upd (upd H3 m (.dK [])) bl (.lst [])) t0 (.tup [.str x, .ref q, .ref m, .ref bl]) = H4 at em4 eb4 hD4 hW4 hT4 sb4 ⊢
    clear hD hD1 sA sB keep hq hdx ne hm hbl ht0 hW1 hW2 s1 s2 hT2 d0
    -- the boxes
    refine fun dB hdB => ?_
    have sC := same_new (o := .dK []) hdB
    have hD5 := ((hD4.add hdB).same sC)
    have em5 := sC _ _ em4
    have eb5 := sC _ _ eb4
    have hW5 := hW4.same sC
    have hT5 := hT4.ext sC
    have eB5 : upd H4 dB (.dK []) dB = some (.dK []) := upd_same
    have nBm : dB ≠ m := (ne_of_none em4 hdB).symm
    have sb5 : Sb p H (upd H4 dB (.dK [])) := sb4.trans (Sb.of sC)
    have nB : ∀ a o, H a = some o → a ≠ p → a ≠ dB := fun a o e np => ne_of_none (sb4 a o np e) hdB
    generalize upd H4 dB (.dK []) = H5 at hD5 em5 eb5 hW5 hT5 eB5 sb5 ⊢
    clear sC hD4 em4 eb4 hW4 hT4 hdB sb4
    refine ⟨_, rfl, _, rfl, p, x, rfl, hW5, hx, fun q1 ws1 fs1 kv1 H6 fi1 w51 _ s6 hW6 bx1 nw1 => ?_⟩
    refine ⟨_, rfl, _, rfl, p, 2, rfl, hW6, by decide, by decide, fun x2 H7 hx2 lx2 s7 hW7 => ?_⟩
    refine ⟨p, x2, rfl, hW7, hx2, fun q2 ws2 fs2 kv2 H8 fi2 w52 _ s8 hW8 bx2 nw2 => ?_⟩
    have nbp : bl ≠ p := fun z => by
      obtain ⟨_, _, _, _, _, e⟩ := id hW5
      rw [z, e] at eb5
      cases eb5
    have nmp : m ≠ p := fun z => by
      obtain ⟨_, _, _, _, _, e⟩ := id hW5
      rw [z, e] at em5
      cases em5
    have nBp : dB ≠ p := fun z => by
      obtain ⟨_, _, _, _, _, e⟩ := id hW5
      rw [z, e] at eB5
      cases eB5
    have s58 := (s6.trans s7).trans s8
    have eB8 := s58 _ _ nBp eB5
    have eb7 := (s6.trans s7) _ _ nbp eb5
    have eb8 := s58 _ _ nbp eb5
    have em8 := s58 _ _ nmp em5
    have hD8 := ((hD5.sb hW5 s6).sb hW6 s7).sb hW7 s8
    have hT8 := Tabs.sb_ (Tabs.sb_ (Tabs.sb_ hT5 hW5 s6) hW6 s7) hW7 s8
    have lp : ∀ {H' : Hp}, Wl H' p → ∀ a ∈ [p], Loose H' bl a := fun {H'} w a ha => by
      obtain ⟨w0, w1, w2, _, _, e⟩ := w
      rw [List.mem_singleton.mp ha]
      exact .inr (.inl ⟨w0, w1, w2, e⟩)
    have B1 : BxL H6 bl ⟨q1, x, ws1, fs1, kv1⟩ := by
      obtain ⟨lw, lf, g, e1, e2, e3, e4⟩ := bx1
      obtain ⟨n1, n2, n3⟩ := nw1 _ _ _ _ e1
      exact ⟨lw, lf, g, e1, e2, e3, e4, fun z => (by rw [z, eb5] at n1; cases n1), fun z => (by rw [z, eb5] at n2; cases n2)⟩
    have B1 : BxL H8 bl ⟨q1, x, ws1, fs1, kv1⟩ := B1.ks (S := [p]) (KS.sb (s7.trans s8) (by simp)) (lp hW6) ⟨_, s6 _ _ nbp eb5⟩
    have B2 : BxL H8 bl ⟨q2, x2, ws2, fs2, kv2⟩ := by
      obtain ⟨lw, lf, g, e1, e2, e3, e4⟩ := bx2
      obtain ⟨n1, n2, n3⟩ := nw2 _ _ _ _ e1
      exact ⟨lw, lf, g, e1, e2, e3, e4, fun z => (by rw [z, eb7] at n1; cases n1), fun z => (by rw [z, eb7] at n2; cases n2)⟩
    refine ⟨eB8, [(Sum.inr "a", .ref q1), (Sum.inr "ab", .ref q2)], rfl, by show 2 ≤ 15; decide, ?_⟩
    have emk : mergeK [] [((Sum.inr "a" : Key), V.ref q1), (Sum.inr "ab", .ref q2)] = ([(Sum.inr "a", V.ref q1), (Sum.inr "ab", V.ref q2)] : List (Key × V)) := rfl
    rw [emk]
    let bd : Str → BoxD := fun k => if k = "a" then ⟨q1, x, ws1, fs1, kv1⟩ else ⟨q2, x2, ws2, fs2, kv2⟩
    have fr9 : Fr [dB] H8 (upd H8 dB (.dK [(Sum.inr "a", .ref q1), (Sum.inr "ab", .ref q2)])) := fun b o nb e => by rw [upd_ne (nb dB (by simp))]; exact e
    have eB9 : upd H8 dB (.dK [(Sum.inr "a", .ref q1), (Sum.inr "ab", .ref q2)]) dB = some (.dK [(Sum.inr "a", .ref q1), (Sum.inr "ab", .ref q2)]) := upd_same
    have lB : ∀ a ∈ [dB], Loose H8 bl a := fun a ha => by
      rw [List.mem_singleton.mp ha]
      exact .inr (.inr (.inr ⟨_, eB8⟩))
    obtain ⟨dxq, stq, eq8⟩ := hD8.at
    have hD9 := hD8.chg fr9 (fun b hb => by rw [List.mem_singleton.mp hb]; exact .inr (.inr ⟨by simp, _, eB8⟩)) (by simpa using ne_of eq8 eB8 (by intro z; cases z))
    have B1 := B1.ks (KS.fr fr9 fun a ha => ha) lB ⟨_, eb8⟩
    have B2 := B2.ks (KS.fr fr9 fun a ha => ha) lB ⟨_, eb8⟩
    have W0 : W51 (upd H8 dB (.dK [(Sum.inr "a", .ref q1), (Sum.inr "ab", .ref q2)])) CD CS CU p q m bl dB [(PT, qRi)] [(Sum.inr "a", .ref q1), (Sum.inr "ab", .ref q2)] bd [] [] [] [] := by
      refine ⟨hW8.frO fr9 (by simpa using nBp.symm), Tabs.frD hT8 fr9 eB8, hD9.sub (by simp), ?_, ?_, eB9, nBm, fun k hk => ?_, fun z hz => by cases hz⟩
      · exact fr9 _ _ (by simpa using nBm.symm) em8
      · exact fr9 _ _ (by simpa using ne_of eb8 eB8 (by intro z; cases z)) eb8
      · simp only [List.mem_cons, List.not_mem_nil, or_false] at hk
        rcases hk with rfl | rfl
        · exact ⟨rfl, B1, fi1, w51⟩
        · exact ⟨rfl, B2, fi2, w52⟩
    have kp9 : ∀ H', KS [p, q, bl, m] (upd H8 dB (.dK [(Sum.inr "a", .ref q1), (Sum.inr "ab", .ref q2)])) H' → Kp p H H' := fun H' ks a o np nt e => by
      obtain ⟨n1, n2, n3⟩ := nbH a o e np
      refine ks a o (by simp [np, n1, n2, n3]) nt ?_
      rw [upd_ne (nB a o e np)]
      exact s58 _ _ np (sb5 a o np e)
    have sg1 : ∀ k ∈ keys2, 1 ≤ (bd k).x.length ∧ (bd k).x.length ≤ 3 ∧ ∀ c ∈ (bd k).x.cps.toList, c ∈ abc.cps.toList := fun k hk => by
      have hs := (W0.bx k hk).2.2.1.sgs
      rw [areS1] at hs
      simp only [Bool.and_eq_true, decide_eq_true_eq] at hs
      refine ⟨hs.1.1.1, hs.1.1.2, fun c hc => ?_⟩
      have := hs.1.2
      rw [made_all, List.all_eq_true] at this
      exact of_decide_eq_true (this c hc)
    generalize upd H8 dB (.dK [(Sum.inr "a", .ref q1), (Sum.inr "ab", .ref q2)]) = H9 at W0 kp9 ⊢
    generalize hkv : [((Sum.inr "a" : Key), V.ref q1), (Sum.inr "ab", V.ref q2)] = kvs at W0 ⊢
    clear fr9 eB9 lB eq8 hD9 B1 B2 hD8 hT8 eB8 eb8 em8 eb7 s58 hD5 em5 eb5 eB5 nw1 nw2 bx1 bx2 lp hW5 hW6 hW7 hW8 s6 s7 s8 hT5 sb5 nB nbH hkv emk
    generalize bd = bd at W0 sg1
    -- the rules are put
    refine ⟨by show 2 ≤ sizeLine; decide, fun l2 hl2 => ⟨l2, rfl, ⟨_, SqL.of upd_same⟩, ?_⟩⟩
    have sl := same_new (o := .lst [.str "a", .str "ab"]) hl2
    have W1 := W0.same sl
    have el2 : upd H9 l2 (.lst [.str "a", .str "ab"]) l2 = some (.lst (keys2.map V.str)) := upd_same
    have kp10 : ∀ H', KS [p, q, bl, m] (upd H9 l2 (.lst [.str "a", .str "ab"])) H' → Kp p H H' := fun H' ks => kp9 H' ((KS.same sl).trans ks)
    have nl2 : l2 ∉ [p, q, bl, m] := by
      obtain ⟨dxq, stq, eq⟩ := W1.d.at
      obtain ⟨w0, w1, w2, _, _, ep⟩ := id W1.w
      have eb := W1.eb
      simp only [List.mem_cons, List.not_mem_nil, or_false]
      rintro (z | z | z | z)
      · exact ne_of el2 ep (strs_ne3 keys2 _ _ _) z
      · exact ne_of el2 eq (by intro z; cases z) z
      · exact ne_of el2 eb (by intro z; injection z with z; cases z) z
      · exact ne_of el2 W1.em (by intro z; cases z) z
    generalize upd H9 l2 (.lst [.str "a", .str "ab"]) = HA at W1 el2 kp10 ⊢
    clear sl W0 kp9 hl2
    refine for_it (walk_listL (K := K) (a := l2) keys2 V.str) (fun i σ H' => (∃ v6, σ = [some (.ref p), some (.str x), some (.ref q), some (.ref m), some (.ref bl), some (.ref dB), v6, none, none, none, none, none, none, none]) ∧ KS [p, q, bl, m] HA H' ∧ ∃ T past, W51 H' CD CS CU p q m bl dB [(PT, qRi)] kvs bd (lawD T) T [] past ∧ T.map (·.1) = keys2.take i ∧ past.length = i) ⟨⟨_, rfl⟩, KS.refl, [], [], W1, rfl, rfl⟩ (fun i σ H' _ h => SqL.of (h.2.1 _ _ nl2 (fun _ z => by cases z) el2)) (fun i v σ HB HC hi h hy => ?_) (fun σ HB h => ?_)
    · obtain ⟨rfl, hv⟩ := hy
      obtain ⟨⟨v6, rfl⟩, ks, T, past, W, hT, zp⟩ := h
      obtain ⟨k, hk⟩ : ∃ k, keys2[i]? = some k := ⟨_, List.getElem?_eq_getElem hi⟩
      obtain rfl := map_get hk hv
      have hkm : k ∈ keys2 := List.mem_of_getElem? hk
      obtain ⟨vb, bl1, fi, w5⟩ := W.bx k hkm
      obtain ⟨bxf, pok, txk⟩ := W.box hkm
      have i2 : i < 2 := hi
      have zT : T.length ≤ 2 := by
        have := congrArg List.length hT
        rw [List.length_map, List.length_take] at this
        omega
      have okT : TOk T := ⟨by rw [hT]; exact (List.take_sublist _ _).nodup (by decide), fun z hz => by
        have : z.1 ∈ T.map (·.1) := List.mem_map.mpr ⟨z, hz, rfl⟩
        rw [hT] at this
        have := List.mem_of_mem_take this
        simp only [List.mem_cons, List.not_mem_nil, or_false] at this
        rcases this with e | e <;> rw [e]
        · exact a_word
        · exact ab_word⟩
      have kw : isWordL k = true := by
        simp only [List.mem_cons, List.not_mem_nil, or_false] at hkm
        rcases hkm with e | e <;> rw [e]
        · exact a_word
        · exact ab_word
      have nT : hasT T k = false := by
        cases hh : hasT T k with
        | false => rfl
        | true =>
          obtain ⟨z, hz, ez⟩ := hasT_iff.mp hh
          have m1 : k ∈ T.map (·.1) := List.mem_map.mpr ⟨z, hz, ez⟩
          rw [hT] at m1
          exfalso
          have : i = 0 ∨ i = 1 := by omega
          rcases this with rfl | rfl
          · cases m1
          · have e1 : k = "a" := by simpa using m1
            have e2 : "ab" = k := by simpa using hk
            rw [e1] at e2
            exact absurd e2 (by decide)
      have gB := DGet.k (k := Sum.inr k) W.ex
      rw [vb] at gB
      refine ⟨_, rfl, _, rfl, dB, V.ref (bd k).q, rfl, gB, (bd k).q, (bd k).x, (bd k).ws, (bd k).fs, (bd k).kv, rfl, bl1.at, fi.short (by omega), fun HD sD => ?_⟩
      have WD := W.same sD
      refine ⟨_, rfl, _, rfl, m, upd HD m (.dK (putK (lawD T) (Sum.inr k) (.str (bd k).tx))), rfl, .inl ⟨_, Sum.inr k, WD.em, rfl, by rw [ent_len, sizeLine_eq]; omega, rfl⟩, ?_⟩
      have frE : Fr [m] HD (upd HD m (.dK (putK (lawD T) (Sum.inr k) (.str (bd k).tx)))) := fun b o nb e => by rw [upd_ne (nb m (by simp))]; exact e
      obtain ⟨n1, n2, n3, n4, n5, n6⟩ := WD.ne
      have WE : W51 (upd HD m (.dK (putK (lawD T) (Sum.inr k) (.str (bd k).tx)))) CD CS CU p q m bl dB [(PT, qRi)] kvs bd (putK (lawD T) (Sum.inr k) (.str (bd k).tx)) T [] past :=
        WD.up (KS.fr frE (by simp)) (WD.w.frO frE (by simpa using n3.symm)) (Tabs.frD WD.t frE WD.em) (WD.d.lock (by simp) WD.em) upd_same (frE _ _ (by simpa using n6.symm) WD.eb) WD.tx
      have ksE : KS [p, q, bl, m] HA (upd HD m (.dK (putK (lawD T) (Sum.inr k) (.str (bd k).tx)))) := (ks.trans (KS.same sD)).trans (KS.fr frE (by simp))
      generalize upd HD m (.dK (putK (lawD T) (Sum.inr k) (.str (bd k).tx))) = HE at WE ksE ⊢
      obtain ⟨dxE, stE, eqE⟩ := WE.d.at
      have gM := DGet.k (k := Sum.inr k) WE.em
      rw [valV_put, if_pos rfl] at gM
      refine ⟨_, rfl, q, dxE, _, rfl, eqE, rfl, _, rfl, _, rfl, _, rfl, m, V.str (bd k).tx, rfl, gM, fun r dr hr0 hdr ner => ⟨r, dr, (bd k).tx, (bd k).pr, rfl, upd_same, txk.len, txk.ok, txk.pr, fun HF keepF hRF => ⟨rfl, ?_⟩⟩⟩
      have sF : Same HE HF := fun b o e => keepF b o (ne_of_none e hr0) (((same_new (o := .own r) hdr).trans (same_new (o := .ins CU dr []) (by rw [upd_ne ner.symm]; exact hr0))) b o e)
      have WF := WE.same sF
      refine ⟨q, r, k, (bd k).tx, (bd k).pr, T, past, [m], rfl, WF.d, okT, kw, hRF, txk, fun m' hm' e => ?_, by omega, fun HG frG hDG => ?_⟩
      · rw [List.mem_singleton.mp hm', WF.em] at e
        cases e
      have ep : putK (lawD T) (Sum.inr k) (.str (bd k).tx) = lawD (putT T (k, (bd k).tx, r)) := put_ent (fun z => V.str z.2.1) T (k, (bd k).tx, r)
      have eT : putT T (k, (bd k).tx, r) = T ++ [(k, (bd k).tx, r)] := by
        unfold putT
        rw [if_neg (by rw [nT]; decide)]
      have emG := frG _ _ (by simpa using n5) WF.em
      rw [ep] at emG
      refine ⟨⟨_, rfl⟩, (ksE.trans (KS.same sF)).trans (KS.fr frG (by simp)), putT T (k, (bd k).tx, r), (T, []) :: past, WF.desk frG hDG emG (frG _ _ (by simpa using n4) WF.eb) (fun z hz => ?_), ?_, ?_⟩
      · rw [eT] at hz
        rcases List.mem_append.mp hz with hz | hz
        · exact WF.tx z hz
        · rw [List.mem_singleton.mp hz]
      · rw [eT, List.map_append, hT, List.take_add_one, hk]
        rfl
      · rw [List.length_cons, zp]
    obtain ⟨⟨v6, rfl⟩, ks, T, past, W, hT, zp⟩ := h
    have hT : T.map (·.1) = keys2 := hT
    have okT : TOk T := ⟨by rw [hT]; decide, fun z hz => by
      have : z.1 ∈ T.map (·.1) := List.mem_map.mpr ⟨z, hz, rfl⟩
      rw [hT] at this
      simp only [List.mem_cons, List.not_mem_nil, or_false] at this
      rcases this with e | e <;> rw [e]
      · exact a_word
      · exact ab_word⟩
    have zT : T.length = 2 := by
      have := congrArg List.length hT
      rwa [List.length_map] at this
    have kpB : ∀ H', KS [p, q, bl, m] HB H' → Kp p H H' := fun H' k' => kp10 H' (ks.trans k')
    clear kp10 ks el2 nl2 W1
    have zp : past.length = 2 := zp
    refine ⟨10, rfl, by decide, by decide, for_range (n := 10) (fun i σ H' => (∃ v6 v7 v8 v9 v10 v11 v12 v13, σ = [some (.ref p), some (.str x), some (.ref q), some (.ref m), some (.ref bl), some (.ref dB), v6, v7, v8, v9, v10, v11, v12, v13]) ∧ KS [p, q, bl, m] HB H' ∧ ∃ B past, W51 H' CD CS CU p q m bl dB [(PT, qRi)] kvs bd (lawD T) T B past ∧ (∀ b ∈ B, BidOk b) ∧ B.length ≤ 2 * i ∧ past.length = 2 + B.length) ⟨⟨_, _, _, _, _, _, _, _, rfl⟩, KS.refl, [], past, W, (fun b hb => by cases hb), Nat.le_refl _, zp⟩ (fun i σ HC hi h => ?_) (fun σ HC h => ?_)⟩
    · obtain ⟨⟨v6, v7, v8, v9, v10, v11, v12, v13, rfl⟩, ks, B, past, W, bk, zB, zp⟩ := h
      refine ⟨by show 2 ≤ sizeLine; decide, fun l3 hl3 => ⟨_, rfl, p, 2, rfl, W.w.same (same_new hl3), by decide, by decide, fun d HD d0 d1 sD wD => ?_⟩⟩
      obtain ⟨j, rfl⟩ := Int.eq_ofNat_of_zero_le d0
      have nl3 : l3 ≠ p := W.w.new hl3
      obtain ⟨k, hkj, hk⟩ : ∃ k, ([V.str "a", V.str "ab"] : List V)[j]? = some (V.str k) ∧ k ∈ keys2 := by
        have : j = 0 ∨ j = 1 := by omega
        rcases this with rfl | rfl
        · exact ⟨"a", rfl, by simp⟩
        · exact ⟨"ab", rfl, by simp⟩
      refine ⟨l3, _, _, V.str k, rfl, rfl, SqL.of (sD _ _ nl3 upd_same), atI_nat hkj, ?_⟩
      have WD := (W.same (same_new (o := .lst [.str "a", .str "ab"]) hl3)).sb sD wD
      have ksD := (ks.trans (KS.same (S := [p, q, bl, m]) (same_new (o := .lst [.str "a", .str "ab"]) hl3))).trans (KS.sb sD (by simp))
      clear ks W sD wD hl3 nl3 hkj d0 d1
      obtain ⟨x1, x3, xa⟩ := sg1 k hk
      obtain ⟨vb, bl1, fi, w5⟩ := WD.bx k hk
      obtain ⟨bxf, pok, txk⟩ := WD.box hk
      have gB := DGet.k (k := Sum.inr k) WD.ex
      rw [vb] at gB
      obtain ⟨lw0, lf0, g0, eq0, _⟩ := id bl1
      refine ⟨_, rfl, _, rfl, _, rfl, dB, V.ref (bd k).q, rfl, gB, (bd k).q, _, _, V.str (bd k).x, rfl, rfl, SqT.of eq0, atI_nat (j := 0) rfl, p, (bd k).x, rfl, WD.w, by omega, by omega, xa, fun r HE lr mr sE wE => ?_⟩
      have WE := WD.sb sE wE
      have ksE := ksD.trans (KS.sb sE (by simp))
      obtain ⟨_, bl2, _, _⟩ := WE.bx k hk
      obtain ⟨lw2, lf2, g2, eq2, _⟩ := id bl2
      refine ⟨0 + (i : Int), r, k, dB, kvs, (bd k).q, (bd k).x, _, _, _, rfl, rfl, rfl, rfl, WE.ex, vb, eq2, x1, x3, xa, lin_of (by omega) mr, fun r' hr' => ?_⟩
      clear WD ksD sE wE lr mr bl1 bl2 eq0 eq2 gB
      refine ⟨by show 2 ≤ sizeLine; decide, fun la ha => ⟨by show 2 ≤ sizeLine; decide, fun lb hb => ⟨by show 2 ≤ sizeLine; decide, fun lc hc => ⟨_, rfl, p, 2, rfl, ((WE.w.same (same_new ha)).same (same_new hb)).same (same_new hc), by decide, by decide, fun d HF d0 d1 sF wF => ?_⟩⟩⟩⟩
      obtain ⟨j2, rfl⟩ := Int.eq_ofNat_of_zero_le d0
      have WA := WE.same (same_new (o := .lst [.str "good", .str "bad"]) ha)
      have WB := WA.same (same_new (o := .lst [.str "bad", .str "good"]) hb)
      have WC := WB.same (same_new (o := .lst [.ref la, .ref lb]) hc)
      have nla : la ≠ p := WE.w.new ha
      have nlb : lb ≠ p := WA.w.new hb
      have nlc : lc ≠ p := WB.w.new hc
      have ea := sF _ _ nla (keep1 (o := .lst [.ref la, .ref lb]) (keep1 (o := .lst [.str "bad", .str "good"]) (upd_same (a := la) (H := HE) (o := .lst [.str "good", .str "bad"])) hb) hc)
      have eb := sF _ _ nlb (keep1 (o := .lst [.ref la, .ref lb]) (upd_same (a := lb) (H := upd HE la (.lst [.str "good", .str "bad"])) (o := .lst [.str "bad", .str "good"])) hc)
      have ec := sF _ _ nlc (upd_same (a := lc) (H := upd (upd HE la (.lst [.str "good", .str "bad"])) lb (.lst [.str "bad", .str "good"])) (o := .lst [.ref la, .ref lb]))
      obtain ⟨lw, ws, hlw, elw, hws, zws⟩ : ∃ (lw : Addr) (ws : List Str), ([V.ref la, V.ref lb] : List V)[j2]? = some (V.ref lw) ∧ HF lw = some (.lst (ws.map V.str)) ∧ (∀ z ∈ ws, RowW z) ∧ ws.length = 2 := by
        have : j2 = 0 ∨ j2 = 1 := by omega
        rcases this with rfl | rfl
        · refine ⟨la, ["good", "bad"], rfl, ea, fun z hz => ?_, rfl⟩
          simpa [RowW] using hz
        · refine ⟨lb, ["bad", "good"], rfl, eb, fun z hz => ?_, rfl⟩
          have : z = "bad" ∨ z = "good" := by simpa using hz
          exact this.symm
      refine ⟨lc, _, _, V.ref lw, rfl, rfl, SqL.of ec, atI_nat hlw, ?_⟩
      have WF := WC.sb sF wF
      have ksF := (((ksE.trans (KS.same (S := [p, q, bl, m]) (same_new (o := .lst [.str "good", .str "bad"]) ha))).trans (KS.same (same_new (o := .lst [.str "bad", .str "good"]) hb))).trans (KS.same (same_new (o := .lst [.ref la, .ref lb]) hc))).trans (KS.sb sF (by simp))
      clear WE ksE WA WB WC ea eb ec sF wF hlw ha hb hc nla nlb nlc d0 d1
      have nlw : lw ∉ [p, q, bl, m] := by
        obtain ⟨dxq, stq, eq⟩ := WF.d.at
        obtain ⟨w0, w1, w2, _, _, ep⟩ := id WF.w
        simp only [List.mem_cons, List.not_mem_nil, or_false]
        rintro (z | z | z | z)
        · exact ne_of elw ep (strs_ne3 ws _ _ _) z
        · exact ne_of elw eq (by intro z; cases z) z
        · refine ne_of elw WF.eb (fun z => ?_) z
          injection z with z
          cases ws with
          | nil => cases zws
          | cons u v =>
            cases B with
            | nil => cases z
            | cons u' v' => injection z with z _; cases z
        · exact ne_of elw WF.em (by intro z; cases z) z
      obtain ⟨z, hz, ezk⟩ : ∃ z ∈ T, z.1 = k := by
        have : k ∈ T.map (·.1) := by rw [hT]; exact hk
        obtain ⟨z, hz, e⟩ := List.mem_map.mp this
        exact ⟨z, hz, e⟩
      refine ⟨_, rfl, lw, rfl, ⟨_, SqL.of elw⟩, ?_⟩
      refine for_it (walk_listL (K := K) (a := lw) ws V.str) (fun e σ H' => (∃ v10 v11 v12 v13, σ = [some (.ref p), some (.str x), some (.ref q), some (.ref m), some (.ref bl), some (.ref dB), some (.str k), some (.int (0 + (i : Int))), some (.str r'), some (.ref lw), v10, v11, v12, v13]) ∧ KS [p, q, bl, m] HF H' ∧ ∃ B past, W51 H' CD CS CU p q m bl dB [(PT, qRi)] kvs bd (lawD T) T B past ∧ (∀ b ∈ B, BidOk b) ∧ B.length ≤ 2 * i + e ∧ past.length = 2 + B.length) ⟨⟨_, _, _, _, rfl⟩, KS.refl, B, past, WF, bk, zB, zp⟩ (fun e σ H' _ h => SqL.of (h.2.1 _ _ nlw (fun _ z => by cases z) elw)) (fun e v σ HA HA' he h hy => ?_) (fun σ HA h => ?_)
      · obtain ⟨rfl, hv⟩ := hy
        obtain ⟨⟨v10, v11, v12, v13, rfl⟩, ksA, B, past, W, bk, zB, zp⟩ := h
        have e2 : e < 2 := by rw [← zws]; exact he
        obtain ⟨wd, hwd⟩ : ∃ wd, ws[e]? = some wd := ⟨_, List.getElem?_eq_getElem he⟩
        obtain rfl := map_get hwd hv
        have hrw := hws wd (List.mem_of_getElem? hwd)
        refine ⟨_, rfl, _, rfl, _, rfl, by show 3 ≤ sizeLine; decide, fun cA hcA => ?_⟩
        have s1 := same_new (o := .tup [.str wd, .str k, .str r']) hcA
        have W1 := W.same s1
        have ks1 := ksA.trans (KS.same (S := [p, q, bl, m]) s1)
        have ec1 : upd HA' cA (.tup [.str wd, .str k, .str r']) cA = some (.tup [.str wd, .str k, .str r']) := upd_same
        generalize upd HA' cA (.tup [.str wd, .str k, .str r']) = H1 at s1 W1 ks1 ec1 ⊢
        clear ksA W s1 hcA
        obtain ⟨vb, _⟩ := W1.bx k hk
        obtain ⟨bxf, pok, txk⟩ := W1.box hk
        have gB := DGet.k (k := Sum.inr k) W1.ex
        rw [vb] at gB
        refine ⟨_, rfl, _, rfl, dB, V.ref (bd k).q, rfl, gB, _, rfl, (bd k).q, (bd k).pr, r', rfl, bxf, pok, hr'.1, fun H2 s2 => ⟨_, rfl, rfl, rfl, ?_⟩⟩
        have W2 := W1.same s2
        have ks2 := ks1.trans (KS.same (S := [p, q, bl, m]) s2)
        have ec2 := s2 _ _ ec1
        clear W1 ks1 ec1 s2 gB bxf
        have ew : decide (V.bl (goodRowL (bd k).pr r') = V.bl (decide (V.str wd = V.str "good"))) = wishL (bd k).pr wd r' := wish_eq
        rw [ew]
        obtain ⟨pz, hRz, txz⟩ := W2.d.rule hz
        have etx : z.2.1 = (bd k).tx := by rw [W2.tx z hz, ezk]
        have epz : pz = (bd k).pr := by
          have h1 := txz.pr
          rw [etx, txk.pr] at h1
          exact (Option.some.inj h1).symm
        subst epz
        have bid : BidOk (cA, [.str wd, .str z.1, .str r']) := by
          refine ⟨fun v hv => ?_, by show 3 ≤ 4; decide⟩
          simp only [List.mem_cons, List.not_mem_nil, or_false] at hv
          rcases hv with rfl | rfl | rfl
          · rcases hrw with rfl | rfl <;> exact .inl ⟨_, rfl, by unfold Low; decide +kernel, by decide +kernel⟩
          · rw [ezk]
            simp only [List.mem_cons, List.not_mem_nil, or_false] at hk
            rcases hk with rfl | rfl <;> exact .inl ⟨_, rfl, by unfold Low; decide +kernel, by decide +kernel⟩
          · exact .inl ⟨_, rfl, hr'.low, by have := hr'.1; omega⟩
        cases hso : wishL (bd k).pr wd r' with
        | true =>
          refine ⟨_, rfl, _, rfl, iteT ⟨by show 2 ≤ sizeLine; decide, fun td htd => ?_⟩⟩
          have s3 := same_new (o := .tup [.str "told", .non]) htd
          have W3 := W2.same s3
          have ks3 := ks2.trans (KS.same (S := [p, q, bl, m]) s3)
          have ec3 := s3 _ _ ec2
          have ed3 : upd H2 td (.tup [.str "told", .non]) td = some (.tup [.str "told", .non]) := upd_same
          have hR3 := hRz.same s3
          generalize upd H2 td (.tup [.str "told", .non]) = H3 at W3 ks3 ec3 ed3 hR3 s3 ⊢
          clear W2 ks2 ec2 hRz s3 htd
          refine ⟨W3.t, fun H4 eN T4 => ?_⟩
          have W4 := W3.ext eN T4
          have ks4 := ks3.trans (KS.ext (S := [p, q, bl, m]) eN)
          have ec4 := eN _ _ ec3 fun _ z => by cases z
          have ed4 := eN _ _ ed3 fun _ z => by cases z
          have hR4 : RuleAt H4 CU z.2.2 z.2.1 (bd k).pr := by
            obtain ⟨dx, M, G, D, e1, e2, e3, e4⟩ := hR3
            exact ⟨dx, M, G, D, eN _ _ e1 (fun _ z => by cases z), eN _ _ e2 (fun _ z => by cases z), eN _ _ e3 (fun _ z => by cases z), eN _ _ e4 (fun _ z => by cases z)⟩
          clear W3 ks3 ec3 ed3 hR3
          obtain ⟨dxq, stq, eq4⟩ := W4.d.at
          have ec4' : H4 cA = some (.tup [.str wd, .str z.1, .str r']) := by rw [ezk]; exact ec4
          refine ⟨_, rfl, q, dxq, _, rfl, eq4, rfl, _, rfl, .inl ⟨q, cA, T, B, past, [m], z, (bd k).pr, wd, r', rfl, W4.d, ⟨okT, ec4', hrw, hr', hz, hR4, pok⟩, hso, by omega, fun H5 fr5 hD5 => ?_⟩⟩
          refine fun t1 ht1 => ?_
          have s6 := same_new (o := .tup [.str "told", .non]) ht1
          obtain ⟨n1, n2, n3, n4, n5, n6⟩ := W4.ne
          have ed5 := fr5 _ _ (by simpa using ne_of ed4 eq4 (by intro z; cases z)) ed4
          have eb6 := s6 _ _ (fr5 _ _ (by simpa using n4) W4.eb)
          have em6 := s6 _ _ (fr5 _ _ (by simpa using n5) W4.em)
          have w6 := (W4.w.frO fr5 (by simpa using n2.symm)).same s6
          have t6 := (Tabs.frI W4.t fr5 eq4).ext s6
          have hD6 := hD5.same s6
          have ks6 : KS [p, q, bl, m] H4 (upd H5 t1 (.tup [.str "told", .non])) := (KS.fr fr5 (by simp)).trans (KS.same s6)
          refine ⟨_, rfl, t1, td, [.str "told", .none], rfl, .tup (SqT.of upd_same) (.cons (.fl (.str _)) (.cons (.fl .non) .nil)), .tup (SqT.of (s6 _ _ ed5)) (.cons (.fl (.str _)) (.cons (.fl .non) .nil)), sw_told.1, sw_told.2.1, sw_told.2.2, _, rfl, iteF ?_⟩
          generalize upd H5 t1 (.tup [.str "told", .non]) = H6 at eb6 em6 w6 t6 hD6 ks6 ⊢
          refine ⟨_, rfl, _, rfl, iteT ⟨_, rfl, .inl ⟨rfl, _, SqL.of eb6⟩, _, rfl, bl, _, _, rfl, rfl, eb6, ?_, ?_⟩⟩
          · rw [List.length_map, sizeLine_eq]
            omega
          have fr7 : Fr [bl] H6 (upd H6 bl (.lst (bidR B ++ [V.ref cA]))) := fun b o nb e => by rw [upd_ne (nb bl (by simp))]; exact e
          have hD7 := hD6.chg fr7 (fun b hb => by rw [List.mem_singleton.mp hb]; exact .inl ⟨_, eb6⟩) (by simpa using n4.symm)
          have eB : bidR (B ++ [(cA, [V.str wd, .str z.1, .str r'])]) = bidR B ++ [V.ref cA] := by
            unfold bidR
            rw [List.map_append]
            rfl
          refine ⟨⟨_, _, _, _, rfl⟩, (ks4.trans ks6).trans (KS.fr fr7 (by simp)), B ++ [(cA, [V.str wd, .str z.1, .str r'])], (T, B) :: past, ?_, fun b hb => ?_, ?_, ?_⟩
          · refine W4.up (ks6.trans (KS.fr fr7 (by simp))) (w6.frO fr7 (by simpa using n1.symm)) (Tabs.off t6 eb6) hD7 (fr7 _ _ (by simpa using n6) em6) ?_ W4.tx
            rw [eB]
            exact upd_same
          · rcases List.mem_append.mp hb with hb | hb
            · exact bk b hb
            · rw [List.mem_singleton.mp hb]
              exact bid
          · rw [List.length_append]
            show B.length + 1 ≤ _
            omega
          · rw [List.length_cons, List.length_append]
            show _ = 2 + (B.length + 1)
            omega
        | false =>
          refine ⟨_, rfl, _, rfl, iteF ⟨_, rfl, bl, _, rfl, .inl (SqL.of W2.eb), by show 3 ≤ sizeLine; decide, fun td htd => ?_⟩⟩
          rw [show ((bidR B).length : Int) = (B.length : Int) by rw [List.length_map]] at *
          have s3 := same_new (o := .tup [.str "broken", .int (B.length : Int), .non]) htd
          have W3 := W2.same s3
          have ks3 := ks2.trans (KS.same (S := [p, q, bl, m]) s3)
          have ec3 := s3 _ _ ec2
          have ed3 : upd H2 td (.tup [.str "broken", .int (B.length : Int), .non]) td = some (.tup [.str "broken", .int (B.length : Int), .non]) := upd_same
          have hR3 := hRz.same s3
          generalize upd H2 td (.tup [.str "broken", .int (B.length : Int), .non]) = H3 at W3 ks3 ec3 ed3 hR3 s3 ⊢
          clear W2 ks2 ec2 hRz s3 htd
          refine ⟨W3.t, fun H4 eN T4 => ?_⟩
          have W4 := W3.ext eN T4
          have ks4 := ks3.trans (KS.ext (S := [p, q, bl, m]) eN)
          have ec4 := eN _ _ ec3 fun _ z => by cases z
          have ed4 := eN _ _ ed3 fun _ z => by cases z
          have hR4 : RuleAt H4 CU z.2.2 z.2.1 (bd k).pr := by
            obtain ⟨dx, M, G, D, e1, e2, e3, e4⟩ := hR3
            exact ⟨dx, M, G, D, eN _ _ e1 (fun _ z => by cases z), eN _ _ e2 (fun _ z => by cases z), eN _ _ e3 (fun _ z => by cases z), eN _ _ e4 (fun _ z => by cases z)⟩
          clear W3 ks3 ec3 ed3 hR3
          obtain ⟨dxq, stq, eq4⟩ := W4.d.at
          have ec4' : H4 cA = some (.tup [.str wd, .str z.1, .str r']) := by rw [ezk]; exact ec4
          refine ⟨_, rfl, q, dxq, _, rfl, eq4, rfl, _, rfl, .inr ⟨q, cA, T, B, past, [m], z, (bd k).pr, wd, r', rfl, W4.d, ⟨okT, ec4', hrw, hr', hz, hR4, pok⟩, hso, by omega, fun d' H5 s5 ed => ⟨c 19, d', 19, _, [.str "broken", .int (B.length : Int), .non], rfl, rfl, R.e19, ed, .inr (.inl ⟨rfl, _, _, rfl, rfl, rfl⟩), fun t1 H6 s6 et => ?_⟩⟩⟩
          obtain ⟨g1, g2, g3⟩ := sw_broken (n := B.length) (by omega)
          have s46 := s5.trans s6
          refine ⟨_, rfl, t1, td, [.str "broken", .int (B.length : Int), .none], rfl, .tup (SqT.of et) (.cons (.fl (.str _)) (.cons (.fl (.int _)) (.cons (.fl .non) .nil))), .tup (SqT.of (s46 _ _ ed4)) (.cons (.fl (.str _)) (.cons (.fl (.int _)) (.cons (.fl .non) .nil))), g1, g2, g3, _, rfl, iteF ?_⟩
          exact ⟨_, rfl, _, rfl, iteF ⟨⟨_, _, _, _, rfl⟩, ks4.trans (KS.same s46), B, past, W4.same s46, bk, by omega, zp⟩⟩
      · obtain ⟨⟨v10, v11, v12, v13, rfl⟩, ksA, B, past, W, bk, zB, zp⟩ := h
        exact ⟨⟨_, _, _, _, _, _, _, _, rfl⟩, ksF.trans ksA, B, past, W, bk, by rw [zws] at zB; omega, zp⟩
    · obtain ⟨⟨v6, v7, v8, v9, v10, v11, v12, v13, rfl⟩, ks, B, past, W, bk, zB, zp⟩ := h
      refine ⟨_, rfl, _, rfl, _, rfl, _, rfl, bl, _, rfl, .inl (SqL.of W.eb), _, _, rfl, rfl, q, m, bl, T, T, B, past, [m], ?_, .refl _, W.d, by simp, W.em, W.eb, okT, by omega, bk, by omega, by omega, fun H' s' => ?_⟩
      · rw [List.length_map, zp]
        show [V.ref q, V.ref m, V.ref bl, V.int (2 + (B.length : Int))] = [_, _, _, V.int ((2 + B.length : Nat) : Int)]
        rw [show ((2 + B.length : Nat) : Int) = 2 + (B.length : Int) by omega]
      · exact y H' (kpB H' (ks.trans (KS.same s'))) (W.t.ext s')
end
end My
namespace My
open PySem PySem.Spec PyProof.Rows L2 PySem.GX L2H LamX
abbrev nLawN : List Str := ["_law_script", "_law_k"]
def spLawT (T : List (Addr × Str)) (K : PySem.W.Frag) : Sp := fun vs H Q _ => ∃ (a : Addr) (ns : List Int), vs = [.ref a] ∧ SqL K H a (ns.map V.int) ∧ ns.length ≤ 63 ∧ Tabs T H ∧ ∀ H', Q (.bl true) H'
theorem all_repN (n : Nat) : (List.replicate n true).all id = true := by
  induction n with
  | zero => rfl
  | succ n ih => rw [List.replicate_succ, List.all_cons, ih]; rfl
theorem sq_extN {K : PySem.W.Frag} {H H' : Hp} {a : Addr} {xs : List V} (s : ExtN H H') (h : SqL K H a xs) : SqL K H' a xs := by
  rcases h with (h | ⟨o, h⟩) | h
  · exact .inl (.inl (s _ _ h fun _ z => by cases z))
  · exact .inl (.inr ⟨o, s _ _ h fun _ z => by cases z⟩)
  · exact .inr h
section
variable {P : Program} {w : World} {K : PySem.W.Frag} {mg : Str → Option Value} {base : Heap}
theorem scLawN : FnScope nLawN ["_law_script"] (defScope sLaw) := ⟨rfl, rfl, rfl, by decide +kernel, rfl, by decide +kernel, by decide +kernel⟩
theorem ok_lawN {f fR : Addr} {fd fdR : FuncData} {T : List (Addr × Str)} (F : Fun K "law" "law" sLaw f fd) (hAll : mg "all" = none) (hRange : mg "range" = none) (hMax : mg "max" = none) (hMin : mg "min" = none) (hL : mg "len" = none)
    (hCe : Hv P w K mg base 1 "_law_cell" ["_law_cells", "_law_k"] (spCell K)) (hPu : Hv P w K mg base 1 "_law_purse" ["_law_cell_here"] spPurse)
    (GR : FnG P w K mg base CX0 11 fR fdR ["_law_purse_here"] (spRightP T)) (bR : Binds K fdR ["_law_purse_here"] []) (gR : mg "_law_right" = some (.ref fR)) (kR : PySem.W.keepIn K (.ref fR) = true) :
    FnG P w K mg base CX0 12 f fd ["_law_script"] (spLawT T K) := by
  refine F.okG scLawN (fun vs H Q E h => ?_) (fun cdv A outer s H vs Q E hgd hr h => ?_)
  · obtain ⟨a, ns, rfl, _⟩ := h
    rfl
  · obtain ⟨a, ns, rfl, hS, hl, hT, k⟩ := h
    have hr1 := hr.mono (by decide : 1 ≤ 11)
    refine ⟨_, pss_one (ps_ret (pe_callB (cr_all rfl) (by rfl) hAll (by decide +kernel) (pa_cons
        (pe_lc (own := [("_law_k", 1)]) (g := gName 1) (tt := tYes) (te := tCall (spRightP T) [] E0 (tCons (tCall spPurse [] E0 (tCons (tCall (spCell K) [] E0 (tCons (tVar 0) (tCons (tVar 1) tNil))) tNil)) tNil)) rfl scLawN.nd
          (pi_range1 rfl hRange (pa_cons (pe_callB (call_max2 rfl) (by rfl) hMax (by decide +kernel) (pa_cons pe_int (pa_cons (pe_callB (call_min2 rfl) (by rfl) hMin (by decide +kernel) (pa_cons (pe_callB call_len_seq (by rfl) hL PySem.boot_len (pa_cons (pv 0) pa_nil)) (pa_cons pe_int pa_nil))) pa_nil))) pa_nil))
          (blkOk_by (N := nLawN) (sc := defScope sLaw) (by decide +kernel)) (fun _ _ _ _ _ => pg_name (i := 1) scLawN.nd rfl (Or.inl rfl)) (fun _ _ _ _ _ => pts_nil)
          (fun _ _ _ _ _ => pe_callG GR hgd hr rfl gR kR bR pass0 (pa_cons (pe_cl hPu hr1 rfl pass0 (pa_cons (pe_cl hCe hr1 rfl pass0 (pa_cons (pv 0) (pa_cons (pv 1) pa_nil))) pa_nil)) pa_nil))) pa_nil))), ?_⟩
    refine ⟨_, rfl, a, _, rfl, .inl hS, _, _, rfl, _, _, rfl, _, rfl, ?_, ?_, fun D hD => ?_⟩
    · rw [List.length_map]
      split <;> split <;> omega
    · rw [List.length_map]
      split <;> split <;> omega
    · rw [List.length_map] at *
      generalize hn : (if (if (4 : Int) < (ns.length : Int) then (4 : Int) else (ns.length : Int)) > 2 then (if (4 : Int) < (ns.length : Int) then (4 : Int) else (ns.length : Int)) else 2) = n
      have n1 : 0 ≤ n ∧ n ≤ 4 := by
        rw [← hn]
        constructor <;> split <;> split <;> omega
      refine lc_range (lo := 0) (n := n.toNat) (fun j H' => ExtN H H' ∧ Tabs T H' ∧ H' D = some (.lst (List.replicate j (V.bl true)))) ⟨ExtN.of (same_new hD), Tabs.ext hT (same_new hD), upd_same⟩ (fun j H' hj ⟨sH, tH, eD⟩ => ?_) (fun H' ⟨sH, tH, eD⟩ => ?_)
      · refine ⟨rfl, _, rfl, _, rfl, a, ns, _, rfl, sq_extN sH hS, (by omega), (by omega), fun z H1 s1 => ⟨z, rfl, fun p H2 s2 np hW => ⟨p, rfl, hW, (Tabs.ext tH s1).ext s2, fun H3 s3 t3 => ?_⟩⟩⟩
        have e1 := s1 _ _ eD
        have dp : D ≠ p := ne_of_none e1 np
        have eD2 : H3 D = some (.lst (List.replicate j (V.bl true))) := s3 D _ dp (fun _ z => by cases z) (s2 _ _ e1)
        refine ⟨_, eD2, ?_, fun b o e nt => ?_, Tabs.off t3 eD2, ?_⟩
        · rw [List.length_replicate, sizeLine_eq]
          omega
        · rw [upd_ne (ne_of_none e hD)]
          have z0 := s1 _ _ (sH _ _ e nt)
          exact s3 b o (ne_of_none z0 np) nt (s2 _ _ z0)
        · rw [upd_same, ← List.replicate_succ']
      · refine ⟨D, List.replicate n.toNat true, rfl, SqL.of (by rw [List.map_replicate]; exact eD), ?_⟩
        rw [all_repN]
        exact k H'
end
end My
namespace My
open PySem PySem.Spec PyProof.Rows L2 PySem.GX L2H LamX
theorem okCE_of {K : PySem.W.Frag} {C : Addr} (h : okCE K C = true) : ExcC K C ∧ PySem.W.findIn K (.ref C) "__setattr__" = some (some (.builtin "object.__setattr__")) ∧ PySem.W.keepIn K (.ref C) = true := by
  unfold okCE at h
  simp only [Bool.and_eq_true, beq_iff_eq] at h
  obtain ⟨h1, h2, h3, h4, h5, h6, h7, h8, h9, h10⟩ := h
  exact ⟨⟨h1, h2, h3, h4, h5, h6, h7, h8⟩, h9, h10⟩
theorem shpE_of {K : PySem.W.Frag} {C B : Addr} {tl : List Value} {nid : String} (q : shpE K C B tl nid = true) : ∃ nm qn N bs sn sub ab col dd k0 k1 k2 k3 k5,
    K.lookup C = some (excClassObj nm qn C N bs (.ref B :: tl) true sn sub ab col dd k0 k1 k2 k3 k5 nid) := by
  unfold shpE at q
  split at q
  · rename_i dd cd sl ho
    split at q
    · rename_i C' bm k0 k1 k2 k3 n k5 hm hs
      simp only [Bool.and_eq_true, beq_iff_eq, Bool.not_eq_true'] at q
      obtain ⟨rfl, rfl, hdel, hdi, hbm⟩ := q
      obtain ⟨nm, bs, mro, ns, qn, hd, sn, sub, ab, col, dl⟩ := cd
      dsimp only at hm hdel hdi
      subst hm hdel hdi hbm
      have hsl : sl = #[k0, k1, k2, k3, some (.builtin n), k5] := by
        obtain ⟨l⟩ := sl
        simp only at hs
        rw [hs]
      subst hsl
      exact ⟨nm, qn, ns, bs, sn, sub, ab, col, dd, k0, k1, k2, k3, k5, ho⟩
    · cases q
  · cases q
theorem exGE_of {K : PySem.W.Frag} {C B : Addr} {Bn nid iid : String} (FB : ExcBaseFacts Bn nid iid (tailE Bn)) (hp : ∀ self, refuseLoop self "__setattr__" (tailE Bn) = pure ()) (h : okCE K C = true) (q : shpE K C B (tailE Bn) nid = true) : ExG K C := by
  obtain ⟨a, b, c⟩ := okCE_of h
  obtain ⟨nm, qn, N, bs, sn, sub, ab, col, dd, k0, k1, k2, k3, k5, e⟩ := shpE_of q
  exact ⟨a, ⟨Bn, nid, iid, tailE Bn, nm, qn, N, bs, _, sn, sub, ab, col, dd, k0, k1, k2, k3, k5, FB, fun Y => by rw [List.contains_cons]; rfl, mroOk2 hp, e⟩, b, c⟩
theorem exG_E {K : PySem.W.Frag} {C B : Addr} {n : Nat} (h : okCE K C = true) (q : shpE K C B (tailE (baseE n)) (newE n) = true) : ExG K C := by
  match n, q with
  | 0, q => exact exGE_of (B := B) (Bn := "ValueError") PySem.F.excBase_ValueError pass_VE h q
  | 1, q => exact exGE_of (B := B) (Bn := "LookupError") PySem.F.excBase_LookupError pass_LE h q
  | n + 2, q => exact exGE_of (B := B) (Bn := "ArithmeticError") PySem.F.excBase_ArithmeticError pass_AE h q
theorem partN_eq (i : Nat) : partN i = partE i := rfl
theorem chkE_of {K : PySem.W.Frag} {C B0 B1 B2 : Addr} {i : Nat} {cs : List Addr} {fs : List Str} (hi : i < 20) (q : chkE K C i cs [B0, B1, B2] fs = true) : ErrD K (fun j => cs.getD j 0) (fun j => [B0, B1, B2].getD j 0) C i ∧ (∀ f ∈ fs, PySem.W.findIn K (.ref C) f = some none) ∧ ExG K C ∧ PySem.W.typeIn K (.ref C) = some (.type "type") ∧ PySem.W.exmAny K (.ref C) [.ref B0, .ref B1, .ref B2] = some true := by
  unfold chkE at q
  simp only [Bool.and_eq_true, beq_iff_eq] at q
  obtain ⟨q1, q2, q3, q4, q5, q6, q7, q8, q9, q10⟩ := q
  exact ⟨⟨(okCE_of q1).1, hi, fun j hj => beq_iff_eq.mp (List.all_eq_true.mp q2 j (List.mem_range.mpr hj)), fun j hj => beq_iff_eq.mp (List.all_eq_true.mp q3 j (List.mem_range.mpr hj)), q6, q7, q8⟩, fun f hf => beq_iff_eq.mp (List.all_eq_true.mp q5 f hf), exG_E q1 q4, q10, q9⟩
end My
namespace My
open PySem PySem.Spec PyProof.Rows L2 PySem.GX L2H LamX
theorem mkE_19 {P : Program} {w : World} {K : PySem.W.Frag} {mg : Str → Option Value} {base : Heap} {C fI : Addr} {fd : FuncData} (F : Fun K "__init__" "Broken.__init__" (inClass (top 24) 0) fI fd) (T : ExG K C) (no : PySem.W.findIn K (.ref C) "index" = some none) (no2 : PySem.W.findIn K (.ref C) "shown" = some none) (gC : mg "Broken" = some (.ref C))
    (iC : PySem.W.findIn K (.ref C) "__init__" = some (some (.ref fI))) (tI : PySem.W.typeIn K (.ref fI) = some (.type "function")) : Mk2 P w K mg base "Broken" C "index" "shown" := by
  have S : FnScope ["self", "index", "shown"] ["self", "index", "shown"] (defScope (inClass (top 24) 0)) := ⟨rfl, rfl, rfl, by decide +kernel, rfl, by decide +kernel, by decide +kernel⟩
  refine ⟨T, gC, fI, fd, iC, tI, ?_, ?_⟩
  · refine F.ok S (fun vs H Q E h => by obtain ⟨a, v, u, rfl, _⟩ := h; rfl) (fun cdv A outer s H vs Q E hr h => ?_)
    obtain ⟨a, v, u, rfl, ha, k⟩ := h
    refine ⟨_, pss_cons (ps_osG (pv 0) (pv 1)) (pss_one (ps_osG (pv 0) (pv 2))), _, rfl, _, rfl, a, C, rfl, T, no, .inl ⟨ha, fun d nd ne => ?_⟩⟩
    exact ⟨_, rfl, _, rfl, a, C, rfl, T, no2, .inr ⟨d, _, upd_same, by rw [upd_ne ne, upd_same], by show 1 ≤ 900; decide, k d nd ne⟩⟩
  · obtain ⟨oc, od, kV, doc, pm, an, cdv, ct, osl, rfl, lk, hcd⟩ := F.ex
    exact ⟨fun s us ws _ hu hw => match us, ws, hu, hw with | [_, _, _], [], _, _ => .of_eq rfl, fun r _ => r⟩
section
variable {l : PySem.W.OpenLaw} {w : World} {K : PySem.W.Frag} {h : Heap} {mg : Str → Option Value}
theorem all_mk {fa : Addr} {CU CD CS C0 C1 C2 C3 C4 C5 C6 C7 C8 C9 C10 C11 C12 C13 C14 C15 C16 C17 C18 C19 B0 B1 B2 gol gro giw gas gam gag grg grr gcr gws ggr gho gev gic gwo gno gso gsh glc glu glp glt gla glb glx gld glf gle glk glq gls gli glh clg Plg glg gll gri grm grh gsi gdi gdp gdr gdc gdn gva pT gpT pG gpG pN gpN pC gpC pH gpH tT tW tK : Addr} {odol anol odro anro odiw aniw odas anas odam anam odag anag odrg anrg odrr anrr odcr ancr odws anws odgr angr odho anho odev anev odic anic odwo anwo odno anno odso anso odsh ansh odlc anlc odlu anlu odlp anlp odlt anlt odla anla odlb anlb odlx anlx odld anld odlf anlf odle anle odlk anlk odlq anlq odls anls odli anli odlh anlh odlg anlg odll anll odri anri odrm anrm odrh anrh odsi ansi oddi andi oddp andp oddr andr oddc andc oddn andn odva anva odpT anpT odpG anpG odpN anpN odpC anpC odpH anpH : Option Addr} {slol slro sliw slas slam slag slrg slrr slcr slws slgr slho slev slic slwo slno slso slsh sllc sllu sllp sllt slla sllb sllx slld sllf slle sllk sllq slls slli sllh sllg slll slri slrm slrh slsi sldi sldp sldr sldc sldn slva slpT slpG slpN slpC slpH : Array (Option Value)} {ocol kVol dcol pmol ctol cdol ocro kVro dcro pmro ctro cdro ociw kViw dciw pmiw ctiw cdiw ocas kVas dcas pmas ctas cdas ocam kVam dcam pmam ctam cdam ocag kVag dcag pmag ctag cdag ocrg kVrg dcrg pmrg ctrg cdrg ocrr kVrr dcrr pmrr ctrr cdrr occr kVcr dccr pmcr ctcr cdcr ocws kVws dcws pmws ctws cdws ocgr kVgr dcgr pmgr ctgr cdgr ocho kVho dcho pmho ctho cdho ocev kVev dcev pmev ctev cdev ocic kVic dcic pmic ctic cdic ocwo kVwo dcwo pmwo ctwo cdwo ocno kVno dcno pmno ctno cdno ocso kVso dcso pmso ctso cdso ocsh kVsh dcsh pmsh ctsh cdsh oclc kVlc dclc pmlc ctlc cdlc oclu kVlu dclu pmlu ctlu cdlu oclp kVlp dclp pmlp ctlp cdlp oclt kVlt dclt pmlt ctlt cdlt ocla kVla dcla pmla ctla cdla oclb kVlb dclb pmlb ctlb cdlb oclx kVlx dclx pmlx ctlx cdlx ocld kVld dcld pmld ctld cdld oclf kVlf dclf pmlf ctlf cdlf ocle kVle dcle pmle ctle cdle oclk kVlk dclk pmlk ctlk cdlk oclq kVlq dclq pmlq ctlq cdlq ocls kVls dcls pmls ctls cdls ocli kVli dcli pmli ctli cdli oclh kVlh dclh pmlh ctlh cdlh oclg kVlg dclg pmlg ctlg ocll kVll dcll pmll ctll cdll ocri kVri dcri pmri ctri cdri ocrm kVrm dcrm pmrm ctrm cdrm ocrh kVrh dcrh pmrh ctrh cdrh ocsi kVsi dcsi pmsi ctsi cdsi ocdi kVdi dcdi pmdi ctdi cddi ocdp kVdp dcdp pmdp ctdp cddp ocdr kVdr dcdr pmdr ctdr cddr ocdc kVdc dcdc pmdc ctdc cddc ocdn kVdn dcdn pmdn ctdn cddn ocva kVva dcva pmva ctva cdva ocpT kVpT dcpT pmpT ctpT cdpT ocpG kVpG dcpG pmpG ctpG cdpG ocpN kVpN dcpN pmpN ctpN cdpN ocpC kVpC dcpC pmpC ctpC cdpC ocpH kVpH dcpH pmpH ctpH cdpH : Value} {tk0 tk1 tk2 tk3 tk4 : Tok} {rsT rsG rsN rsC rsH : List Value} (X : K.In h) (G : h.Ns mainGlobals mg) (hfa : mg "law" = some (.ref fa))
    (acCU : PySem.W.nsIn K mainGlobals "Rule" = some (some (.ref CU)))
    (acCD : PySem.W.nsIn K mainGlobals "Desk" = some (some (.ref CD)))
    (acCS : PySem.W.nsIn K mainGlobals "State" = some (some (.ref CS)))
    (acC0 : PySem.W.nsIn K mainGlobals "InvalidText" = some (some (.ref C0)))
    (acC1 : PySem.W.nsIn K mainGlobals "InvalidRow" = some (some (.ref C1)))
    (acC2 : PySem.W.nsIn K mainGlobals "InvalidKind" = some (some (.ref C2)))
    (acC3 : PySem.W.nsIn K mainGlobals "InvalidNumber" = some (some (.ref C3)))
    (acC4 : PySem.W.nsIn K mainGlobals "InvalidMood" = some (some (.ref C4)))
    (acC5 : PySem.W.nsIn K mainGlobals "InvalidSign" = some (some (.ref C5)))
    (acC6 : PySem.W.nsIn K mainGlobals "InvalidPaper" = some (some (.ref C6)))
    (acC7 : PySem.W.nsIn K mainGlobals "InvalidName" = some (some (.ref C7)))
    (acC8 : PySem.W.nsIn K mainGlobals "InvalidIndex" = some (some (.ref C8)))
    (acC9 : PySem.W.nsIn K mainGlobals "InvalidClaim" = some (some (.ref C9)))
    (acC10 : PySem.W.nsIn K mainGlobals "NotARule" = some (some (.ref C10)))
    (acC11 : PySem.W.nsIn K mainGlobals "InvalidWishes" = some (some (.ref C11)))
    (acC12 : PySem.W.nsIn K mainGlobals "InvalidChanges" = some (some (.ref C12)))
    (acC13 : PySem.W.nsIn K mainGlobals "UnknownName" = some (some (.ref C13)))
    (acC14 : PySem.W.nsIn K mainGlobals "InUse" = some (some (.ref C14)))
    (acC15 : PySem.W.nsIn K mainGlobals "NothingToUndo" = some (some (.ref C15)))
    (acC16 : PySem.W.nsIn K mainGlobals "OtherSigns" = some (some (.ref C16)))
    (acC17 : PySem.W.nsIn K mainGlobals "TooMany" = some (some (.ref C17)))
    (acC18 : PySem.W.nsIn K mainGlobals "Kept" = some (some (.ref C18)))
    (acC19 : PySem.W.nsIn K mainGlobals "Broken" = some (some (.ref C19)))
    (acB0 : PySem.W.nsIn K mainGlobals "NotRight" = some (some (.ref B0)))
    (acB1 : PySem.W.nsIn K mainGlobals "NotKnown" = some (some (.ref B1)))
    (acB2 : PySem.W.nsIn K mainGlobals "NotPossible" = some (some (.ref B2)))
    (agol : PySem.W.nsIn K mainGlobals "made_of" = some (some (.ref gol)))
    (lgol : K.lookup gol = some ⟨ocol, odol, .func (PySem.W.fnOf "made_of" "made_of" (defArgs sMade) (defBody sMade) (defScope sMade) .none kVol dcol pmol anol cdol ctol), slol⟩)
    (cgol : PySem.W.codeIn K cdol "made_of" = true)
    (kgol : PySem.W.keepIn K (.ref gol) = true)
    (agro : PySem.W.nsIn K mainGlobals "is_row_of" = some (some (.ref gro)))
    (lgro : K.lookup gro = some ⟨ocro, odro, .func (PySem.W.fnOf "is_row_of" "is_row_of" (defArgs sRowOf) (defBody sRowOf) (defScope sRowOf) .none kVro dcro pmro anro cdro ctro), slro⟩)
    (cgro : PySem.W.codeIn K cdro "is_row_of" = true)
    (kgro : PySem.W.keepIn K (.ref gro) = true)
    (agiw : PySem.W.nsIn K mainGlobals "is_word" = some (some (.ref giw)))
    (lgiw : K.lookup giw = some ⟨ociw, odiw, .func (PySem.W.fnOf "is_word" "is_word" (defArgs sWord) (defBody sWord) (defScope sWord) .none kViw dciw pmiw aniw cdiw ctiw), sliw⟩)
    (cgiw : PySem.W.codeIn K cdiw "is_word" = true)
    (kgiw : PySem.W.keepIn K (.ref giw) = true)
    (agas : PySem.W.nsIn K mainGlobals "are_signs" = some (some (.ref gas)))
    (lgas : K.lookup gas = some ⟨ocas, odas, .func (PySem.W.fnOf "are_signs" "are_signs" (defArgs sSigns) (defBody sSigns) (defScope sSigns) .none kVas dcas pmas anas cdas ctas), slas⟩)
    (cgas : PySem.W.codeIn K cdas "are_signs" = true)
    (kgas : PySem.W.keepIn K (.ref gas) = true)
    (agam : PySem.W.nsIn K mainGlobals "are_moods" = some (some (.ref gam)))
    (lgam : K.lookup gam = some ⟨ocam, odam, .func (PySem.W.fnOf "are_moods" "are_moods" (defArgs sMoods) (defBody sMoods) (defScope sMoods) .none kVam dcam pmam anam cdam ctam), slam⟩)
    (cgam : PySem.W.codeIn K cdam "are_moods" = true)
    (kgam : PySem.W.keepIn K (.ref gam) = true)
    (agag : PySem.W.nsIn K mainGlobals "are_good" = some (some (.ref gag)))
    (lgag : K.lookup gag = some ⟨ocag, odag, .func (PySem.W.fnOf "are_good" "are_good" (defArgs sGood) (defBody sGood) (defScope sGood) .none kVag dcag pmag anag cdag ctag), slag⟩)
    (cgag : PySem.W.codeIn K cdag "are_good" = true)
    (kgag : PySem.W.keepIn K (.ref gag) = true)
    (agrg : PySem.W.nsIn K mainGlobals "read_goals" = some (some (.ref grg)))
    (lgrg : K.lookup grg = some ⟨ocrg, odrg, .func (PySem.W.fnOf "read_goals" "read_goals" (defArgs sGoals) (defBody sGoals) (defScope sGoals) .none kVrg dcrg pmrg anrg cdrg ctrg), slrg⟩)
    (cgrg : PySem.W.codeIn K cdrg "read_goals" = true)
    (kgrg : PySem.W.keepIn K (.ref grg) = true)
    (agrr : PySem.W.nsIn K mainGlobals "read_rule" = some (some (.ref grr)))
    (lgrr : K.lookup grr = some ⟨ocrr, odrr, .func (PySem.W.fnOf "read_rule" "read_rule" (defArgs sRead) (defBody sRead) (defScope sRead) .none kVrr dcrr pmrr anrr cdrr ctrr), slrr⟩)
    (cgrr : PySem.W.codeIn K cdrr "read_rule" = true)
    (kgrr : PySem.W.keepIn K (.ref grr) = true)
    (agcr : PySem.W.nsIn K mainGlobals "check_rule" = some (some (.ref gcr)))
    (lgcr : K.lookup gcr = some ⟨occr, odcr, .func (PySem.W.fnOf "check_rule" "check_rule" (defArgs sCRule) (defBody sCRule) (defScope sCRule) .none kVcr dccr pmcr ancr cdcr ctcr), slcr⟩)
    (cgcr : PySem.W.codeIn K cdcr "check_rule" = true)
    (kgcr : PySem.W.keepIn K (.ref gcr) = true)
    (agws : PySem.W.nsIn K mainGlobals "is_wish" = some (some (.ref gws)))
    (lgws : K.lookup gws = some ⟨ocws, odws, .func (PySem.W.fnOf "is_wish" "is_wish" (defArgs sIsWish) (defBody sIsWish) (defScope sIsWish) .none kVws dcws pmws anws cdws ctws), slws⟩)
    (cgws : PySem.W.codeIn K cdws "is_wish" = true)
    (kgws : PySem.W.keepIn K (.ref gws) = true)
    (aggr : PySem.W.nsIn K mainGlobals "is_good_row" = some (some (.ref ggr)))
    (lggr : K.lookup ggr = some ⟨ocgr, odgr, .func (PySem.W.fnOf "is_good_row" "is_good_row" (defArgs sGoodRow) (defBody sGoodRow) (defScope sGoodRow) .none kVgr dcgr pmgr angr cdgr ctgr), slgr⟩)
    (cggr : PySem.W.codeIn K cdgr "is_good_row" = true)
    (kggr : PySem.W.keepIn K (.ref ggr) = true)
    (agho : PySem.W.nsIn K mainGlobals "holds" = some (some (.ref gho)))
    (lgho : K.lookup gho = some ⟨ocho, odho, .func (PySem.W.fnOf "holds" "holds" (defArgs sHoldsW) (defBody sHoldsW) (defScope sHoldsW) .none kVho dcho pmho anho cdho ctho), slho⟩)
    (cgho : PySem.W.codeIn K cdho "holds" = true)
    (kgho : PySem.W.keepIn K (.ref gho) = true)
    (agev : PySem.W.nsIn K mainGlobals "evidence" = some (some (.ref gev)))
    (lgev : K.lookup gev = some ⟨ocev, odev, .func (PySem.W.fnOf "evidence" "evidence" (defArgs sEvid) (defBody sEvid) (defScope sEvid) .none kVev dcev pmev anev cdev ctev), slev⟩)
    (cgev : PySem.W.codeIn K cdev "evidence" = true)
    (kgev : PySem.W.keepIn K (.ref gev) = true)
    (agic : PySem.W.nsIn K mainGlobals "is_claim" = some (some (.ref gic)))
    (lgic : K.lookup gic = some ⟨ocic, odic, .func (PySem.W.fnOf "is_claim" "is_claim" (defArgs sIsClaim) (defBody sIsClaim) (defScope sIsClaim) .none kVic dcic pmic anic cdic ctic), slic⟩)
    (cgic : PySem.W.codeIn K cdic "is_claim" = true)
    (kgic : PySem.W.keepIn K (.ref gic) = true)
    (agwo : PySem.W.nsIn K mainGlobals "wish_of" = some (some (.ref gwo)))
    (lgwo : K.lookup gwo = some ⟨ocwo, odwo, .func (PySem.W.fnOf "wish_of" "wish_of" (defArgs sWishOf) (defBody sWishOf) (defScope sWishOf) .none kVwo dcwo pmwo anwo cdwo ctwo), slwo⟩)
    (cgwo : PySem.W.codeIn K cdwo "wish_of" = true)
    (kgwo : PySem.W.keepIn K (.ref gwo) = true)
    (agno : PySem.W.nsIn K mainGlobals "names_of" = some (some (.ref gno)))
    (lgno : K.lookup gno = some ⟨ocno, odno, .func (PySem.W.fnOf "names_of" "names_of" (defArgs sNamesOf) (defBody sNamesOf) (defScope sNamesOf) .none kVno dcno pmno anno cdno ctno), slno⟩)
    (cgno : PySem.W.codeIn K cdno "names_of" = true)
    (kgno : PySem.W.keepIn K (.ref gno) = true)
    (agso : PySem.W.nsIn K mainGlobals "is_so" = some (some (.ref gso)))
    (lgso : K.lookup gso = some ⟨ocso, odso, .func (PySem.W.fnOf "is_so" "is_so" (defArgs sIsSoD) (defBody sIsSoD) (defScope sIsSoD) .none kVso dcso pmso anso cdso ctso), slso⟩)
    (cgso : PySem.W.codeIn K cdso "is_so" = true)
    (kgso : PySem.W.keepIn K (.ref gso) = true)
    (agsh : PySem.W.nsIn K mainGlobals "shown_against" = some (some (.ref gsh)))
    (lgsh : K.lookup gsh = some ⟨ocsh, odsh, .func (PySem.W.fnOf "shown_against" "shown_against" (defArgs sShownA) (defBody sShownA) (defScope sShownA) .none kVsh dcsh pmsh ansh cdsh ctsh), slsh⟩)
    (cgsh : PySem.W.codeIn K cdsh "shown_against" = true)
    (kgsh : PySem.W.keepIn K (.ref gsh) = true)
    (aglc : PySem.W.nsIn K mainGlobals "_law_cell" = some (some (.ref glc)))
    (lglc : K.lookup glc = some ⟨oclc, odlc, .func (PySem.W.fnOf "_law_cell" "_law_cell" (defArgs sCell) (defBody sCell) (defScope sCell) .none kVlc dclc pmlc anlc cdlc ctlc), sllc⟩)
    (cglc : PySem.W.codeIn K cdlc "_law_cell" = true)
    (kglc : PySem.W.keepIn K (.ref glc) = true)
    (aglu : PySem.W.nsIn K mainGlobals "_law_purse" = some (some (.ref glu)))
    (lglu : K.lookup glu = some ⟨oclu, odlu, .func (PySem.W.fnOf "_law_purse" "_law_purse" (defArgs sPurse) (defBody sPurse) (defScope sPurse) .none kVlu dclu pmlu anlu cdlu ctlu), sllu⟩)
    (cglu : PySem.W.codeIn K cdlu "_law_purse" = true)
    (kglu : PySem.W.keepIn K (.ref glu) = true)
    (aglp : PySem.W.nsIn K mainGlobals "_law_pick" = some (some (.ref glp)))
    (lglp : K.lookup glp = some ⟨oclp, odlp, .func (PySem.W.fnOf "_law_pick" "_law_pick" (defArgs sPick) (defBody sPick) (defScope sPick) .none kVlp dclp pmlp anlp cdlp ctlp), sllp⟩)
    (cglp : PySem.W.codeIn K cdlp "_law_pick" = true)
    (kglp : PySem.W.keepIn K (.ref glp) = true)
    (aglt : PySem.W.nsIn K mainGlobals "_law_letters" = some (some (.ref glt)))
    (lglt : K.lookup glt = some ⟨oclt, odlt, .func (PySem.W.fnOf "_law_letters" "_law_letters" (defArgs sLetters) (defBody sLetters) (defScope sLetters) .none kVlt dclt pmlt anlt cdlt ctlt), sllt⟩)
    (cglt : PySem.W.codeIn K cdlt "_law_letters" = true)
    (kglt : PySem.W.keepIn K (.ref glt) = true)
    (agla : PySem.W.nsIn K mainGlobals "_law_aim" = some (some (.ref gla)))
    (lgla : K.lookup gla = some ⟨ocla, odla, .func (PySem.W.fnOf "_law_aim" "_law_aim" (defArgs sAim) (defBody sAim) (defScope sAim) .none kVla dcla pmla anla cdla ctla), slla⟩)
    (cgla : PySem.W.codeIn K cdla "_law_aim" = true)
    (kgla : PySem.W.keepIn K (.ref gla) = true)
    (aglb : PySem.W.nsIn K mainGlobals "_law_box" = some (some (.ref glb)))
    (lglb : K.lookup glb = some ⟨oclb, odlb, .func (PySem.W.fnOf "_law_box" "_law_box" (defArgs sBox) (defBody sBox) (defScope sBox) .none kVlb dclb pmlb anlb cdlb ctlb), sllb⟩)
    (cglb : PySem.W.codeIn K cdlb "_law_box" = true)
    (kglb : PySem.W.keepIn K (.ref glb) = true)
    (aglx : PySem.W.nsIn K mainGlobals "_law_text" = some (some (.ref glx)))
    (lglx : K.lookup glx = some ⟨oclx, odlx, .func (PySem.W.fnOf "_law_text" "_law_text" (defArgs sText) (defBody sText) (defScope sText) .none kVlx dclx pmlx anlx cdlx ctlx), sllx⟩)
    (cglx : PySem.W.codeIn K cdlx "_law_text" = true)
    (kglx : PySem.W.keepIn K (.ref glx) = true)
    (agld : PySem.W.nsIn K mainGlobals "_law_end" = some (some (.ref gld)))
    (lgld : K.lookup gld = some ⟨ocld, odld, .func (PySem.W.fnOf "_law_end" "_law_end" (defArgs sEnd) (defBody sEnd) (defScope sEnd) .none kVld dcld pmld anld cdld ctld), slld⟩)
    (cgld : PySem.W.codeIn K cdld "_law_end" = true)
    (kgld : PySem.W.keepIn K (.ref gld) = true)
    (aglf : PySem.W.nsIn K mainGlobals "_law_is_fine" = some (some (.ref glf)))
    (lglf : K.lookup glf = some ⟨oclf, odlf, .func (PySem.W.fnOf "_law_is_fine" "_law_is_fine" (defArgs sFine) (defBody sFine) (defScope sFine) .none kVlf dclf pmlf anlf cdlf ctlf), sllf⟩)
    (cglf : PySem.W.codeIn K cdlf "_law_is_fine" = true)
    (kglf : PySem.W.keepIn K (.ref glf) = true)
    (agle : PySem.W.nsIn K mainGlobals "_law_refused" = some (some (.ref gle)))
    (lgle : K.lookup gle = some ⟨ocle, odle, .func (PySem.W.fnOf "_law_refused" "_law_refused" (defArgs sRefused) (defBody sRefused) (defScope sRefused) .none kVle dcle pmle anle cdle ctle), slle⟩)
    (cgle : PySem.W.codeIn K cdle "_law_refused" = true)
    (kgle : PySem.W.keepIn K (.ref gle) = true)
    (aglk : PySem.W.nsIn K mainGlobals "_law_caught" = some (some (.ref glk)))
    (lglk : K.lookup glk = some ⟨oclk, odlk, .func (PySem.W.fnOf "_law_caught" "_law_caught" (defArgs sCaught) (defBody sCaught) (defScope sCaught) .none kVlk dclk pmlk anlk cdlk ctlk), sllk⟩)
    (cglk : PySem.W.codeIn K cdlk "_law_caught" = true)
    (kglk : PySem.W.keepIn K (.ref glk) = true)
    (aglq : PySem.W.nsIn K mainGlobals "_law_desk_is" = some (some (.ref glq)))
    (lglq : K.lookup glq = some ⟨oclq, odlq, .func (PySem.W.fnOf "_law_desk_is" "_law_desk_is" (defArgs sDeskIs) (defBody sDeskIs) (defScope sDeskIs) .none kVlq dclq pmlq anlq cdlq ctlq), sllq⟩)
    (cglq : PySem.W.codeIn K cdlq "_law_desk_is" = true)
    (kglq : PySem.W.keepIn K (.ref glq) = true)
    (agls : PySem.W.nsIn K mainGlobals "_law_same" = some (some (.ref gls)))
    (lgls : K.lookup gls = some ⟨ocls, odls, .func (PySem.W.fnOf "_law_same" "_law_same" (defArgs sSame) (defBody sSame) (defScope sSame) .none kVls dcls pmls anls cdls ctls), slls⟩)
    (cgls : PySem.W.codeIn K cdls "_law_same" = true)
    (kgls : PySem.W.keepIn K (.ref gls) = true)
    (agli : PySem.W.nsIn K mainGlobals "_law_line" = some (some (.ref gli)))
    (lgli : K.lookup gli = some ⟨ocli, odli, .func (PySem.W.fnOf "_law_line" "_law_line" (defArgs sLine) (defBody sLine) (defScope sLine) .none kVli dcli pmli anli cdli ctli), slli⟩)
    (cgli : PySem.W.codeIn K cdli "_law_line" = true)
    (kgli : PySem.W.keepIn K (.ref gli) = true)
    (aglh : PySem.W.nsIn K mainGlobals "_law_holds" = some (some (.ref glh)))
    (lglh : K.lookup glh = some ⟨oclh, odlh, .func (PySem.W.fnOf "_law_holds" "_law_holds" (defArgs sHolds) (defBody sHolds) (defScope sHolds) .none kVlh dclh pmlh anlh cdlh ctlh), sllh⟩)
    (cglh : PySem.W.codeIn K cdlh "_law_holds" = true)
    (kglh : PySem.W.keepIn K (.ref glh) = true)
    (aglg : PySem.W.nsIn K mainGlobals "_law_right" = some (some (.ref glg)))
    (lglg : K.lookup glg = some ⟨oclg, odlg, .func (PySem.W.fnOf "_law_right" "_law_right" (defArgs sRight) (defBody sRight) (defScope sRight) .none kVlg dclg pmlg anlg (.ref clg) ctlg), sllg⟩)
    (cglg : PySem.W.codeIn K (.ref clg) "_law_right" = true)
    (kglg : PySem.W.keepIn K (.ref glg) = true)
    (agll : PySem.W.nsIn K mainGlobals "law" = some (some (.ref gll)))
    (lgll : K.lookup gll = some ⟨ocll, odll, .func (PySem.W.fnOf "law" "law" (defArgs sLaw) (defBody sLaw) (defScope sLaw) .none kVll dcll pmll anll cdll ctll), slll⟩)
    (cgll : PySem.W.codeIn K cdll "law" = true)
    (kgll : PySem.W.keepIn K (.ref gll) = true)
    (amri : PySem.W.findIn K (.ref CU) "__init__" = some (some (.ref gri)))
    (airi : PySem.W.isFn K (.ref gri) = true)
    (lgri : K.lookup gri = some ⟨ocri, odri, .func (PySem.W.fnOf "__init__" "Rule.__init__" (defArgs sInit) (defBody sInit) (defScope sInit) .none kVri dcri pmri anri cdri ctri), slri⟩)
    (cgri : PySem.W.codeIn K cdri "Rule.__init__" = true)
    (kgri : PySem.W.keepIn K (.ref gri) = true)
    (amrm : PySem.W.findIn K (.ref CU) "mood" = some (some (.ref grm)))
    (airm : PySem.W.isFn K (.ref grm) = true)
    (lgrm : K.lookup grm = some ⟨ocrm, odrm, .func (PySem.W.fnOf "mood" "Rule.mood" (defArgs sMood) (defBody sMood) (defScope sMood) .none kVrm dcrm pmrm anrm cdrm ctrm), slrm⟩)
    (cgrm : PySem.W.codeIn K cdrm "Rule.mood" = true)
    (kgrm : PySem.W.keepIn K (.ref grm) = true)
    (amrh : PySem.W.findIn K (.ref CU) "has" = some (some (.ref grh)))
    (airh : PySem.W.isFn K (.ref grh) = true)
    (lgrh : K.lookup grh = some ⟨ocrh, odrh, .func (PySem.W.fnOf "has" "Rule.has" (defArgs sHas) (defBody sHas) (defScope sHas) .none kVrh dcrh pmrh anrh cdrh ctrh), slrh⟩)
    (cgrh : PySem.W.codeIn K cdrh "Rule.has" = true)
    (kgrh : PySem.W.keepIn K (.ref grh) = true)
    (amsi : PySem.W.findIn K (.ref CS) "__init__" = some (some (.ref gsi)))
    (aisi : PySem.W.isFn K (.ref gsi) = true)
    (lgsi : K.lookup gsi = some ⟨ocsi, odsi, .func (PySem.W.fnOf "__init__" "State.__init__" (defArgs sStInit) (defBody sStInit) (defScope sStInit) .none kVsi dcsi pmsi ansi cdsi ctsi), slsi⟩)
    (cgsi : PySem.W.codeIn K cdsi "State.__init__" = true)
    (kgsi : PySem.W.keepIn K (.ref gsi) = true)
    (amdi : PySem.W.findIn K (.ref CD) "__init__" = some (some (.ref gdi)))
    (aidi : PySem.W.isFn K (.ref gdi) = true)
    (lgdi : K.lookup gdi = some ⟨ocdi, oddi, .func (PySem.W.fnOf "__init__" "Desk.__init__" (defArgs sDkInit) (defBody sDkInit) (defScope sDkInit) .none kVdi dcdi pmdi andi cddi ctdi), sldi⟩)
    (cgdi : PySem.W.codeIn K cddi "Desk.__init__" = true)
    (kgdi : PySem.W.keepIn K (.ref gdi) = true)
    (amdp : PySem.W.findIn K (.ref CD) "put" = some (some (.ref gdp)))
    (aidp : PySem.W.isFn K (.ref gdp) = true)
    (lgdp : K.lookup gdp = some ⟨ocdp, oddp, .func (PySem.W.fnOf "put" "Desk.put" (defArgs sPutM) (defBody sPutM) (defScope sPutM) .none kVdp dcdp pmdp andp cddp ctdp), sldp⟩)
    (cgdp : PySem.W.codeIn K cddp "Desk.put" = true)
    (kgdp : PySem.W.keepIn K (.ref gdp) = true)
    (amdr : PySem.W.findIn K (.ref CD) "rule" = some (some (.ref gdr)))
    (aidr : PySem.W.isFn K (.ref gdr) = true)
    (lgdr : K.lookup gdr = some ⟨ocdr, oddr, .func (PySem.W.fnOf "rule" "Desk.rule" (defArgs sRuleM) (defBody sRuleM) (defScope sRuleM) .none kVdr dcdr pmdr andr cddr ctdr), sldr⟩)
    (cgdr : PySem.W.codeIn K cddr "Desk.rule" = true)
    (kgdr : PySem.W.keepIn K (.ref gdr) = true)
    (amdc : PySem.W.findIn K (.ref CD) "claim" = some (some (.ref gdc)))
    (aidc : PySem.W.isFn K (.ref gdc) = true)
    (lgdc : K.lookup gdc = some ⟨ocdc, oddc, .func (PySem.W.fnOf "claim" "Desk.claim" (defArgs sClaimM) (defBody sClaimM) (defScope sClaimM) .none kVdc dcdc pmdc andc cddc ctdc), sldc⟩)
    (cgdc : PySem.W.codeIn K cddc "Desk.claim" = true)
    (kgdc : PySem.W.keepIn K (.ref gdc) = true)
    (amdn : PySem.W.findIn K (.ref CD) "check_name" = some (some (.ref gdn)))
    (aidn : PySem.W.isFn K (.ref gdn) = true)
    (lgdn : K.lookup gdn = some ⟨ocdn, oddn, .func (PySem.W.fnOf "check_name" "Desk.check_name" (defArgs sChkN) (defBody sChkN) (defScope sChkN) .none kVdn dcdn pmdn andn cddn ctdn), sldn⟩)
    (cgdn : PySem.W.codeIn K cddn "Desk.check_name" = true)
    (kgdn : PySem.W.keepIn K (.ref gdn) = true)
    (amva : PySem.W.findIn K (.ref C19) "__init__" = some (some (.ref gva)))
    (aiva : PySem.W.isFn K (.ref gva) = true)
    (lgva : K.lookup gva = some ⟨ocva, odva, .func (PySem.W.fnOf "__init__" "Broken.__init__" (defArgs (inClass (top 24) 0)) (defBody (inClass (top 24) 0)) (defScope (inClass (top 24) 0)) .none kVva dcva pmva anva cdva ctva), slva⟩)
    (cgva : PySem.W.codeIn K cdva "Broken.__init__" = true)
    (kgva : PySem.W.keepIn K (.ref gva) = true)
    (tva : PySem.W.typeIn K (.ref gva) = some (.type "function"))
    (ch19 : chkE K C19 19 [C0, C1, C2, C3, C4, C5, C6, C7, C8, C9, C10, C11, C12, C13, C14, C15, C16, C17, C18, C19] [B0, B1, B2] ["given", "index", "shown", "limit"] = true)
    (atT : PySem.W.findIn K (.ref CU) "text" = some (some (.ref pT)))
    (gtT : PySem.W.specialIn K (.ref pT) "__get__" = some (some (.builtin "property.__get__")))
    (ttT : PySem.W.takesIn K (.ref pT) = some true)
    (rtT : PySem.W.recIn K pT "property" = some (.ref gpT :: rsT))
    (lgpT : K.lookup gpT = some ⟨ocpT, odpT, .func (PySem.W.fnOf "text" "Rule.text" (defArgs (inClass sRule 1)) (defBody (inClass sRule 1)) (defScope (inClass sRule 1)) .none kVpT dcpT pmpT anpT cdpT ctpT), slpT⟩)
    (cgpT : PySem.W.codeIn K cdpT "Rule.text" = true)
    (kgpT : PySem.W.keepIn K (.ref gpT) = true)
    (atG : PySem.W.findIn K (.ref CU) "signs" = some (some (.ref pG)))
    (gtG : PySem.W.specialIn K (.ref pG) "__get__" = some (some (.builtin "property.__get__")))
    (ttG : PySem.W.takesIn K (.ref pG) = some true)
    (rtG : PySem.W.recIn K pG "property" = some (.ref gpG :: rsG))
    (lgpG : K.lookup gpG = some ⟨ocpG, odpG, .func (PySem.W.fnOf "signs" "Rule.signs" (defArgs (inClass sRule 2)) (defBody (inClass sRule 2)) (defScope (inClass sRule 2)) .none kVpG dcpG pmpG anpG cdpG ctpG), slpG⟩)
    (cgpG : PySem.W.codeIn K cdpG "Rule.signs" = true)
    (kgpG : PySem.W.keepIn K (.ref gpG) = true)
    (atN : PySem.W.findIn K (.ref CD) "names" = some (some (.ref pN)))
    (gtN : PySem.W.specialIn K (.ref pN) "__get__" = some (some (.builtin "property.__get__")))
    (ttN : PySem.W.takesIn K (.ref pN) = some true)
    (rtN : PySem.W.recIn K pN "property" = some (.ref gpN :: rsN))
    (lgpN : K.lookup gpN = some ⟨ocpN, odpN, .func (PySem.W.fnOf "names" "Desk.names" (defArgs sNamesP) (defBody sNamesP) (defScope sNamesP) .none kVpN dcpN pmpN anpN cdpN ctpN), slpN⟩)
    (cgpN : PySem.W.codeIn K cdpN "Desk.names" = true)
    (kgpN : PySem.W.keepIn K (.ref gpN) = true)
    (atC : PySem.W.findIn K (.ref CD) "claims" = some (some (.ref pC)))
    (gtC : PySem.W.specialIn K (.ref pC) "__get__" = some (some (.builtin "property.__get__")))
    (ttC : PySem.W.takesIn K (.ref pC) = some true)
    (rtC : PySem.W.recIn K pC "property" = some (.ref gpC :: rsC))
    (lgpC : K.lookup gpC = some ⟨ocpC, odpC, .func (PySem.W.fnOf "claims" "Desk.claims" (defArgs sClaimsP) (defBody sClaimsP) (defScope sClaimsP) .none kVpC dcpC pmpC anpC cdpC ctpC), slpC⟩)
    (cgpC : PySem.W.codeIn K cdpC "Desk.claims" = true)
    (kgpC : PySem.W.keepIn K (.ref gpC) = true)
    (atH : PySem.W.findIn K (.ref CD) "changes" = some (some (.ref pH)))
    (gtH : PySem.W.specialIn K (.ref pH) "__get__" = some (some (.builtin "property.__get__")))
    (ttH : PySem.W.takesIn K (.ref pH) = some true)
    (rtH : PySem.W.recIn K pH "property" = some (.ref gpH :: rsH))
    (lgpH : K.lookup gpH = some ⟨ocpH, odpH, .func (PySem.W.fnOf "changes" "Desk.changes" (defArgs sChangesP) (defBody sChangesP) (defScope sChangesP) .none kVpH dcpH pmpH anpH cdpH ctpH), slpH⟩)
    (cgpH : PySem.W.codeIn K cdpH "Desk.changes" = true)
    (kgpH : PySem.W.keepIn K (.ref gpH) = true)
    (av0 : PySem.W.nsIn K mainGlobals "MOST_SIGNS" = some (some (.int 3 tk0)))
    (av1 : PySem.W.nsIn K mainGlobals "MOST_MOODS" = some (some (.int 300 tk1)))
    (av2 : PySem.W.nsIn K mainGlobals "MOST_ROW" = some (some (.int 1000 tk2)))
    (av3 : PySem.W.nsIn K mainGlobals "LONGEST_WORD" = some (some (.int 8 tk3)))
    (av4 : PySem.W.nsIn K mainGlobals "LETTERS" = some (some (.str abc tk4)))
    (at_T : PySem.W.nsIn K mainGlobals "TITLES" = some (some (.ref tT)))
    (ktT : ∀ H, SqT K H tT (titles.map V.str))
    (at_W : PySem.W.nsIn K mainGlobals "PAIR_WORDS" = some (some (.ref tW)))
    (ktW : ∀ H, SqT K H tW (pairW.map V.str))
    (at_K : PySem.W.nsIn K mainGlobals "KINDS" = some (some (.ref tK)))
    (ktK : ∀ H, SqT K H tK (kinds.map V.str))
    (pg : PySem.W.plainGet K CU Str.empty = true)
    (hd : PySem.W.hasDictIn K CU = true)
    (po : PySem.W.plainOver K CU = true)
    (sa : PySem.W.findIn K (.ref CU) "__setattr__" = some (some (.builtin "object.__setattr__")))
    (mk : PySem.W.makesIn K CU = true)
    (kc : PySem.W.keepIn K (.ref CU) = true)
    (pgD : PySem.W.plainGet K CD Str.empty = true)
    (hdD : PySem.W.hasDictIn K CD = true)
    (poD : PySem.W.plainOver K CD = true)
    (saD : PySem.W.findIn K (.ref CD) "__setattr__" = some (some (.builtin "object.__setattr__")))
    (mkD : PySem.W.makesIn K CD = true)
    (kcD : PySem.W.keepIn K (.ref CD) = true)
    (pgS : PySem.W.plainGet K CS Str.empty = true)
    (hdS : PySem.W.hasDictIn K CS = true)
    (poS : PySem.W.plainOver K CS = true)
    (saS : PySem.W.findIn K (.ref CS) "__setattr__" = some (some (.builtin "object.__setattr__")))
    (mkS : PySem.W.makesIn K CS = true)
    (kcS : PySem.W.keepIn K (.ref CS) = true)
    (nf0 : PySem.W.findIn K (.ref CU) "written" = some none)
    (nf1 : PySem.W.findIn K (.ref CU) "letters" = some none)
    (nf2 : PySem.W.findIn K (.ref CU) "words" = some none)
    (nf3 : PySem.W.findIn K (.ref CU) "chosen" = some none)
    (nf4 : PySem.W.findIn K (.ref CU) "goals" = some none)
    (ns0 : PySem.W.findIn K (.ref CS) "held" = some none)
    (ns1 : PySem.W.findIn K (.ref CS) "said" = some none)
    (ns2 : PySem.W.findIn K (.ref CS) "earlier" = some none)
    (ns3 : PySem.W.findIn K (.ref CS) "depth" = some none)
    (nd0 : PySem.W.findIn K (.ref CD) "state" = some none)
    (ic1 : PySem.W.findIn K (.ref CU) "__class__" = some (some (.builtin "object.__class__")))
    (ic2 : PySem.W.specialIn K (.builtin "object.__class__") "__get__" = some (some (.builtin "getset_descriptor.__get__")))
    (ic3 : PySem.W.takesIn K (.builtin "object.__class__") = some true)
    (ic4 : PySem.W.mroIn K CU (.type "object") = some true)
    (ic5 : PySem.W.kitOne K (.ref CU) (.ref CU) = some true)
    (hcf : chkF K = true) :
    ∃ fd : FuncData, (∀ (s : Shared) (v : Value), BindsTo s fd ⟨[v], []⟩ [("_law_script", v)]) ∧ ∀ base : Heap, K.In base → base.Ns mainGlobals mg → (∀ q ∈ [(clg, Plg)], TabB base mg q.1 q.2) → FnG l.prog w K mg base CX0 12 fa fd ["_law_script"] (spLawT ([(clg, Plg)].map fun q => (q.2, qRi)) K) := by
  have e := hfa.symm.trans (PySem.W.mg_of X G agll)
  cases e
  have fr := fun {x : Str} (hx : x ∈ frees) => free_of X G hcf hx
  have mcCU := PySem.W.mg_of X G acCU
  have mcCD := PySem.W.mg_of X G acCD
  have mcCS := PySem.W.mg_of X G acCS
  have mcC0 := PySem.W.mg_of X G acC0
  have mcC1 := PySem.W.mg_of X G acC1
  have mcC2 := PySem.W.mg_of X G acC2
  have mcC3 := PySem.W.mg_of X G acC3
  have mcC4 := PySem.W.mg_of X G acC4
  have mcC5 := PySem.W.mg_of X G acC5
  have mcC6 := PySem.W.mg_of X G acC6
  have mcC7 := PySem.W.mg_of X G acC7
  have mcC8 := PySem.W.mg_of X G acC8
  have mcC9 := PySem.W.mg_of X G acC9
  have mcC10 := PySem.W.mg_of X G acC10
  have mcC11 := PySem.W.mg_of X G acC11
  have mcC12 := PySem.W.mg_of X G acC12
  have mcC13 := PySem.W.mg_of X G acC13
  have mcC14 := PySem.W.mg_of X G acC14
  have mcC15 := PySem.W.mg_of X G acC15
  have mcC16 := PySem.W.mg_of X G acC16
  have mcC17 := PySem.W.mg_of X G acC17
  have mcC18 := PySem.W.mg_of X G acC18
  have mcC19 := PySem.W.mg_of X G acC19
  have mcB0 := PySem.W.mg_of X G acB0
  have mcB1 := PySem.W.mg_of X G acB1
  have mcB2 := PySem.W.mg_of X G acB2
  have Fol := fun_mk (st := sMade) lgol cgol kgol
  have bol := Fol.binds (ps := ["text", "letters"]) fun _ _ _ _ _ _ us hl => match us, hl with | [_, _], _ => rfl
  have mol := PySem.W.mg_of X G agol
  have Fro := fun_mk (st := sRowOf) lgro cgro kgro
  have bro := Fro.binds (ps := ["value", "letters"]) fun _ _ _ _ _ _ us hl => match us, hl with | [_, _], _ => rfl
  have mro := PySem.W.mg_of X G agro
  have Fiw := fun_mk (st := sWord) lgiw cgiw kgiw
  have biw := Fiw.binds (ps := ["text"]) fun _ _ _ _ _ _ us hl => match us, hl with | [_], _ => rfl
  have miw := PySem.W.mg_of X G agiw
  have Fas := fun_mk (st := sSigns) lgas cgas kgas
  have bas := Fas.binds (ps := ["words"]) fun _ _ _ _ _ _ us hl => match us, hl with | [_], _ => rfl
  have mas := PySem.W.mg_of X G agas
  have Fam := fun_mk (st := sMoods) lgam cgam kgam
  have bam := Fam.binds (ps := ["words"]) fun _ _ _ _ _ _ us hl => match us, hl with | [_], _ => rfl
  have mam := PySem.W.mg_of X G agam
  have Fag := fun_mk (st := sGood) lgag cgag kgag
  have bag := Fag.binds (ps := ["words", "moods"]) fun _ _ _ _ _ _ us hl => match us, hl with | [_, _], _ => rfl
  have mag := PySem.W.mg_of X G agag
  have Frg := fun_mk (st := sGoals) lgrg cgrg kgrg
  have brg := Frg.binds (ps := ["signs", "moods", "rows"]) fun _ _ _ _ _ _ us hl => match us, hl with | [_, _, _], _ => rfl
  have mrg := PySem.W.mg_of X G agrg
  have Frr := fun_mk (st := sRead) lgrr cgrr kgrr
  have brr := Frr.binds (ps := ["text"]) fun _ _ _ _ _ _ us hl => match us, hl with | [_], _ => rfl
  have mrr := PySem.W.mg_of X G agrr
  have Fcr := fun_mk (st := sCRule) lgcr cgcr kgcr
  have bcr := Fcr.binds (ps := ["value"]) fun _ _ _ _ _ _ us hl => match us, hl with | [_], _ => rfl
  have mcr := PySem.W.mg_of X G agcr
  have Fws := fun_mk (st := sIsWish) lgws cgws kgws
  have bws := Fws.binds (ps := ["value", "kinds"]) fun _ _ _ _ _ _ us hl => match us, hl with | [_, _], _ => rfl
  have mws := PySem.W.mg_of X G agws
  have Fgr := fun_mk (st := sGoodRow) lggr cggr kggr
  have bgr := Fgr.binds (ps := ["rule", "row"]) fun _ _ _ _ _ _ us hl => match us, hl with | [_, _], _ => rfl
  have mgr := PySem.W.mg_of X G aggr
  have Fho := fun_mk (st := sHoldsW) lgho cgho kgho
  have bho := Fho.binds (ps := ["rule", "wish"]) fun _ _ _ _ _ _ us hl => match us, hl with | [_, _], _ => rfl
  have mho := PySem.W.mg_of X G agho
  have Fev := fun_mk (st := sEvid) lgev cgev kgev
  have bev := Fev.binds (ps := ["rule", "wish"]) fun _ _ _ _ _ _ us hl => match us, hl with | [_, _], _ => rfl
  have mev := PySem.W.mg_of X G agev
  have Fic := fun_mk (st := sIsClaim) lgic cgic kgic
  have bic := Fic.binds (ps := ["value"]) fun _ _ _ _ _ _ us hl => match us, hl with | [_], _ => rfl
  have mic := PySem.W.mg_of X G agic
  have Fwo := fun_mk (st := sWishOf) lgwo cgwo kgwo
  have bwo := Fwo.binds (ps := ["claim"]) fun _ _ _ _ _ _ us hl => match us, hl with | [_], _ => rfl
  have mwo := PySem.W.mg_of X G agwo
  have Fno := fun_mk (st := sNamesOf) lgno cgno kgno
  have bno := Fno.binds (ps := ["claim"]) fun _ _ _ _ _ _ us hl => match us, hl with | [_], _ => rfl
  have mno := PySem.W.mg_of X G agno
  have Fso := fun_mk (st := sIsSoD) lgso cgso kgso
  have bso := Fso.binds (ps := ["held", "claim"]) fun _ _ _ _ _ _ us hl => match us, hl with | [_, _], _ => rfl
  have mso := PySem.W.mg_of X G agso
  have Fsh := fun_mk (st := sShownA) lgsh cgsh kgsh
  have bsh := Fsh.binds (ps := ["held", "claim"]) fun _ _ _ _ _ _ us hl => match us, hl with | [_, _], _ => rfl
  have msh := PySem.W.mg_of X G agsh
  have Flc := fun_mk (st := sCell) lglc cglc kglc
  have blc := Flc.binds (ps := ["_law_cells", "_law_k"]) fun _ _ _ _ _ _ us hl => match us, hl with | [_, _], _ => rfl
  have mlc := PySem.W.mg_of X G aglc
  have Flu := fun_mk (st := sPurse) lglu cglu kglu
  have blu := Flu.binds (ps := ["_law_cell_here"]) fun _ _ _ _ _ _ us hl => match us, hl with | [_], _ => rfl
  have mlu := PySem.W.mg_of X G aglu
  have Flp := fun_mk (st := sPick) lglp cglp kglp
  have blp := Flp.binds (ps := ["_law_purse_here", "_law_size"]) fun _ _ _ _ _ _ us hl => match us, hl with | [_, _], _ => rfl
  have mlp := PySem.W.mg_of X G aglp
  have Flt := fun_mk (st := sLetters) lglt cglt kglt
  have blt := Flt.binds (ps := ["_law_purse_here", "_law_size"]) fun _ _ _ _ _ _ us hl => match us, hl with | [_, _], _ => rfl
  have mlt := PySem.W.mg_of X G aglt
  have Fla := fun_mk (st := sAim) lgla cgla kgla
  have bla := Fla.binds (ps := ["_law_purse_here", "_law_way", "_law_size", "_law_count", "_law_spot", "_law_step"]) fun _ _ _ _ _ _ us hl => match us, hl with | [_, _, _, _, _, _], _ => rfl
  have mla := PySem.W.mg_of X G agla
  have Flb := fun_mk (st := sBox) lglb cglb kglb
  have blb := Flb.binds (ps := ["_law_purse_here", "_law_letters_here"]) fun _ _ _ _ _ _ us hl => match us, hl with | [_, _], _ => rfl
  have mlb := PySem.W.mg_of X G aglb
  have Flx := fun_mk (st := sText) lglx cglx kglx
  have blx := Flx.binds (ps := ["_law_box_here"]) fun _ _ _ _ _ _ us hl => match us, hl with | [_], _ => rfl
  have mlx := PySem.W.mg_of X G aglx
  have Fld := fun_mk (st := sEnd) lgld cgld kgld
  have bld := Fld.binds (ps := ["_law_box_here", "_law_begin", "_law_line_here"]) fun _ _ _ _ _ _ us hl => match us, hl with | [_, _, _], _ => rfl
  have mld := PySem.W.mg_of X G agld
  have Flf := fun_mk (st := sFine) lglf cglf kglf
  have blf := Flf.binds (ps := ["_law_box_here", "_law_line_here"]) fun _ _ _ _ _ _ us hl => match us, hl with | [_, _], _ => rfl
  have mlf := PySem.W.mg_of X G aglf
  have Fle := fun_mk (st := sRefused) lgle cgle kgle
  have ble := Fle.binds (ps := ["_law_e"]) fun _ _ _ _ _ _ us hl => match us, hl with | [_], _ => rfl
  have mle := PySem.W.mg_of X G agle
  have Flk := fun_mk (st := sCaught) lglk cglk kglk
  have blk := Flk.binds (ps := ["_law_act"]) fun _ _ _ _ _ _ us hl => match us, hl with | [_], _ => rfl
  have mlk := PySem.W.mg_of X G aglk
  have Flq := fun_mk (st := sDeskIs) lglq cglq kglq
  have blq := Flq.binds (ps := ["_law_mine", "_law_held", "_law_bids", "_law_steps"]) fun _ _ _ _ _ _ us hl => match us, hl with | [_, _, _, _], _ => rfl
  have mlq := PySem.W.mg_of X G aglq
  have Fls := fun_mk (st := sSame) lgls cgls kgls
  have bls := Fls.binds (ps := ["_law_told", "_law_due"]) fun _ _ _ _ _ _ us hl => match us, hl with | [_, _], _ => rfl
  have mls := PySem.W.mg_of X G agls
  have Fli := fun_mk (st := sLine) lgli cgli kgli
  have bli := Fli.binds (ps := ["_law_purse_here", "_law_letters_here"]) fun _ _ _ _ _ _ us hl => match us, hl with | [_, _], _ => rfl
  have mli := PySem.W.mg_of X G agli
  have Flh := fun_mk (st := sHolds) lglh cglh kglh
  have blh := Flh.binds (ps := ["_law_box_here", "_law_line_here"]) fun _ _ _ _ _ _ us hl => match us, hl with | [_, _], _ => rfl
  have mlh := PySem.W.mg_of X G aglh
  have Flg := fun_mk (st := sRight) lglg cglg kglg
  have blg := Flg.binds (ps := ["_law_purse_here"]) fun _ _ _ _ _ _ us hl => match us, hl with | [_], _ => rfl
  have mlg := PySem.W.mg_of X G aglg
  have Fll := fun_mk (st := sLaw) lgll cgll kgll
  have bll := Fll.binds (ps := ["_law_script"]) fun _ _ _ _ _ _ us hl => match us, hl with | [_], _ => rfl
  have mll := PySem.W.mg_of X G agll
  have Fri := fun_mk (st := sInit) lgri cgri kgri
  have bri := Fri.binds (ps := ["self", "text"]) fun _ _ _ _ _ _ us hl => match us, hl with | [_, _], _ => rfl
  have Frm := fun_mk (st := sMood) lgrm cgrm kgrm
  have brm := Frm.binds (ps := ["self", "row"]) fun _ _ _ _ _ _ us hl => match us, hl with | [_, _], _ => rfl
  have Frh := fun_mk (st := sHas) lgrh cgrh kgrh
  have brh := Frh.binds (ps := ["self", "row"]) fun _ _ _ _ _ _ us hl => match us, hl with | [_, _], _ => rfl
  have Fsi := fun_mk (st := sStInit) lgsi cgsi kgsi
  have bsi := Fsi.binds (ps := ["self", "held", "said", "earlier"]) fun _ _ _ _ _ _ us hl => match us, hl with | [_, _, _, _], _ => rfl
  have Fdi := fun_mk (st := sDkInit) lgdi cgdi kgdi
  have bdi := Fdi.binds (ps := ["self"]) fun _ _ _ _ _ _ us hl => match us, hl with | [_], _ => rfl
  have Fdp := fun_mk (st := sPutM) lgdp cgdp kgdp
  have bdp := Fdp.binds (ps := ["self", "name", "rule"]) fun _ _ _ _ _ _ us hl => match us, hl with | [_, _, _], _ => rfl
  have Fdr := fun_mk (st := sRuleM) lgdr cgdr kgdr
  have bdr := Fdr.binds (ps := ["self", "name"]) fun _ _ _ _ _ _ us hl => match us, hl with | [_, _], _ => rfl
  have Fdc := fun_mk (st := sClaimM) lgdc cgdc kgdc
  have bdc := Fdc.binds (ps := ["self", "claim"]) fun _ _ _ _ _ _ us hl => match us, hl with | [_, _], _ => rfl
  have Fdn := fun_mk (st := sChkN) lgdn cgdn kgdn
  have bdn := Fdn.binds (ps := ["self", "name"]) fun _ _ _ _ _ _ us hl => match us, hl with | [_, _], _ => rfl
  have Fva := fun_mk (st := (inClass (top 24) 0)) lgva cgva kgva
  have bva := Fva.binds (ps := ["self", "index", "shown"]) fun _ _ _ _ _ _ us hl => match us, hl with | [_, _, _], _ => rfl
  have FpT := fun_mk (st := (inClass sRule 1)) lgpT cgpT kgpT
  have bpT := FpT.binds (ps := ["self"]) fun _ _ _ _ _ _ us hl => match us, hl with | [_], _ => rfl
  have FpG := fun_mk (st := (inClass sRule 2)) lgpG cgpG kgpG
  have bpG := FpG.binds (ps := ["self"]) fun _ _ _ _ _ _ us hl => match us, hl with | [_], _ => rfl
  have FpN := fun_mk (st := sNamesP) lgpN cgpN kgpN
  have bpN := FpN.binds (ps := ["self"]) fun _ _ _ _ _ _ us hl => match us, hl with | [_], _ => rfl
  have FpC := fun_mk (st := sClaimsP) lgpC cgpC kgpC
  have bpC := FpC.binds (ps := ["self"]) fun _ _ _ _ _ _ us hl => match us, hl with | [_], _ => rfl
  have FpH := fun_mk (st := sChangesP) lgpH cgpH kgpH
  have bpH := FpH.binds (ps := ["self"]) fun _ _ _ _ _ _ us hl => match us, hl with | [_], _ => rfl
  have v0 := PySem.W.mg_of X G av0
  have v1 := PySem.W.mg_of X G av1
  have v2 := PySem.W.mg_of X G av2
  have v3 := PySem.W.mg_of X G av3
  have v4 := PySem.W.mg_of X G av4
  obtain ⟨D19, no19, X19, y19, x19⟩ := chkE_of (by decide) ch19
  have F19 : ErrF K (fun j => ([C0, C1, C2, C3, C4, C5, C6, C7, C8, C9, C10, C11, C12, C13, C14, C15, C16, C17, C18, C19] : List Addr).getD j 0) (fun j => [B0, B1, B2].getD j 0) C19 19 := ⟨D19, no19, x19⟩
  refine ⟨PySem.W.fnOf "law" "law" (defArgs sLaw) (defBody sLaw) (defScope sLaw) .none kVll dcll pmll anll cdll ctll, fun s v => .of_eq rfl, fun base _ _ hTB => ?_⟩
  have T : RuC K CU := ⟨⟨pg, hd, po, sa⟩, nf0, nf1, nf2, nf3, nf4⟩
  have TD : DkC K CD := ⟨⟨pgD, hdD, poD, saD⟩, nd0⟩
  have TS : StC K CS := ⟨⟨pgS, hdS, poS, saS⟩, ns0, ns1, ns2, ns3⟩
  have IU : InC K CU := ⟨T.cl, ic1, ic2, ic3, ic4, ic5⟩
  have hOl : Hv l.prog w K mg base 1 "made_of" ["text", "letters"] spMade := ⟨_, _, ok_made Fol (fr (by decide)), bol, mol, kgol⟩
  have hIw : Hv l.prog w K mg base 2 "is_word" ["text"] spWord := ⟨_, _, ok_word Fiw hOl (fr (by decide)) v3 v4, biw, miw, kgiw⟩
  have hAs : Hv l.prog w K mg base 2 "are_signs" ["words"] (spSigns K) := ⟨_, _, ok_signs Fas hOl v4 (fr (by decide)) (fr (by decide)) (fr (by decide)) v0, bas, mas, kgas⟩
  have hAm : Hv l.prog w K mg base 3 "are_moods" ["words"] (spMoods K) := ⟨_, _, ok_moods Fam hIw (fr (by decide)) (fr (by decide)) (fr (by decide)) v1, bam, mam, kgam⟩
  have hAg : Hv l.prog w K mg base 1 "are_good" ["words", "moods"] (spGood K) := ⟨_, _, ok_good Fag, bag, mag, kgag⟩
  have hRg : Hv l.prog w K mg base 1 "read_goals" ["signs", "moods", "rows"] spGoals := ⟨_, _, ok_goals Frg (fr (by decide)) (fr (by decide)), brg, mrg, kgrg⟩
  have hRr : Hv l.prog w K mg base 4 "read_rule" ["text"] spRead := ⟨_, _, ok_read Frr hAs hAm hAg hRg (PySem.W.mg_of X G at_T) ktT (fr (by decide)) (fr (by decide)), brr, mrr, kgrr⟩
  have GU := ok_init (P := l.prog) (w := w) (base := base) Fri T hRr (fr (by decide)) (fr (by decide))
  have MU : Mk K CU gri := ⟨mk, amri, airi, kc⟩
  have GS := ok_stInit (P := l.prog) (w := w) (mg := mg) (base := base) Fsi TS
  have MS : Mk K CS gsi := ⟨mkS, amsi, aisi, kcS⟩
  have GD := ok_dkInitP (P := l.prog) (w := w) (base := base) (CU := CU) Fdi TD MS GS bsi mcCS
  have MD : Mk K CD gdi := ⟨mkD, amdi, aidi, kcD⟩
  have TBd : TabB base mg clg Plg := hTB (clg, Plg) (List.mem_cons_self ..)
  have hRo : Hv l.prog w K mg base 2 "is_row_of" ["value", "letters"] spRow := ⟨_, _, ok_row Fro hOl (fr (by decide)) (fr (by decide)) (fr (by decide)) v2, bro, mro, kgro⟩
  have hRm : HvM l.prog w K mg base 3 CU "mood" ["self", "row"] (spMood CU) := ⟨_, _, ok_mood Frm T hRo, brm, ⟨amrm, airm, kgrm⟩⟩
  have hRh : HvM l.prog w K mg base 4 CU "has" ["self", "row"] (spHas CU) := ⟨_, _, ok_has Frh T hRm, brh, ⟨amrh, airh, kgrh⟩⟩
  have scT : FnScope ["self"] ["self"] (defScope (inClass sRule 1)) := ⟨rfl, rfl, rfl, by decide +kernel, rfl, by decide +kernel, by decide +kernel⟩
  have GT : FnOk l.prog w K mg base CX0 1 gpT _ ["self"] (getSp CU "written") := fn_getter lgpT cgpT scT rfl rfl T.cl nf0
  have PT : PrS l.prog w K mg base CU "text" (getSp CU "written") := ⟨pT, gpT, _, ⟨atT, gtT, ttT, _, rtT⟩, GT, bpT⟩
  have scG : FnScope ["self"] ["self"] (defScope (inClass sRule 2)) := ⟨rfl, rfl, rfl, by decide +kernel, rfl, by decide +kernel, by decide +kernel⟩
  have GG : FnOk l.prog w K mg base CX0 1 gpG _ ["self"] (getSp CU "letters") := fn_getter lgpG cgpG scG rfl rfl T.cl nf1
  have PG : PrF l.prog w K mg base CU "signs" "letters" := ⟨pG, gpG, _, ⟨atG, gtG, ttG, _, rtG⟩, GG, bpG⟩
  have PN : PrS l.prog w K mg base CD "names" (spNamesPP CD CS CU) := ⟨pN, gpN, _, ⟨atN, gtN, ttN, _, rtN⟩, ok_namesPP FpN TD TS (fr (by decide)) (fr (by decide)) (fr (by decide)), bpN⟩
  have PC : PrS l.prog w K mg base CD "claims" (spClaimsPP CD CS CU) := ⟨pC, gpC, _, ⟨atC, gtC, ttC, _, rtC⟩, ok_claimsPP FpC TD TS, bpC⟩
  have PH : PrS l.prog w K mg base CD "changes" (spChangesPP CD CS CU) := ⟨pH, gpH, _, ⟨atH, gtH, ttH, _, rtH⟩, ok_changesPP FpH TD TS, bpH⟩
  have hCr : Hv l.prog w K mg base 1 "check_rule" ["value"] (spCkRule CU) := ⟨_, _, ok_ckRule Fcr IU (fr (by decide)) mcCU, bcr, mcr, kgcr⟩
  have hGr : Hv l.prog w K mg base 5 "is_good_row" ["rule", "row"] (spGoodRow CU) := ⟨_, _, ok_goodRow Fgr T hOl PG hRh, bgr, mgr, kggr⟩
  have hHo : Hv l.prog w K mg base 6 "holds" ["rule", "wish"] (spHoldsR CU) := ⟨_, _, ok_holdsR Fho hGr, bho, mho, kgho⟩
  have hEv : Hv l.prog w K mg base 1 "evidence" ["rule", "wish"] spEvidR := ⟨_, _, ok_evidR Fev, bev, mev, kgev⟩
  have hWs : Hv l.prog w K mg base 3 "is_wish" ["value", "kinds"] spIsWishR := ⟨_, _, ok_isWishR Fws hRo v4 (fr (by decide)) (fr (by decide)) (fr (by decide)) (fr (by decide)), bws, mws, kgws⟩
  have hWo : Hv l.prog w K mg base 1 "wish_of" ["claim"] spWishOfR := ⟨_, _, ok_wishOfR Fwo, bwo, mwo, kgwo⟩
  have hNo : Hv l.prog w K mg base 1 "names_of" ["claim"] spNamesOfR := ⟨_, _, ok_namesOfR Fno (PySem.W.mg_of X G at_W) ktW, bno, mno, kgno⟩
  have hIc : Hv l.prog w K mg base 4 "is_claim" ["value"] spIsClaimR := ⟨_, _, ok_isClaimR Fic hWo hWs (PySem.W.mg_of X G at_W) ktW (PySem.W.mg_of X G at_K) (fr (by decide)) (fr (by decide)) (fr (by decide)) (fr (by decide)), bic, mic, kgic⟩
  have hSo : Hv l.prog w K mg base 7 "is_so" ["held", "claim"] (spIsSoR CU) := ⟨_, _, ok_isSoR Fso hNo hWo hHo (fr (by decide)), bso, mso, kgso⟩
  have hSh : Hv l.prog w K mg base 2 "shown_against" ["held", "claim"] spShownR := ⟨_, _, ok_shownR Fsh hNo hWo hEv (fr (by decide)), bsh, msh, kgsh⟩
  have hCk : HvM l.prog w K mg base 1 CD "check_name" ["self", "name"] (spChkP CD CS CU) := ⟨_, _, ok_chkP Fdn TD TS (fr (by decide)) (fr (by decide)), bdn, ⟨amdn, aidn, kgdn⟩⟩
  have hRu : HvM l.prog w K mg base 2 CD "rule" ["self", "name"] (spRuleP CD CS CU) := ⟨_, _, ok_ruleP Fdr TD TS hCk, bdr, ⟨amdr, aidr, kgdr⟩⟩
  have GPu := ok_putP0 (P := l.prog) (w := w) (base := base) (CU := CU) Fdp TD TS MS GS bsi mcCS hIw hCr (fr (by decide)) (fr (by decide)) (fr (by decide))
  have Z19 : Mk2 l.prog w K mg base "Broken" C19 "index" "shown" := mkE_19 Fva X19 (F19.no _ (by simp)) (F19.no _ (by simp)) mcC19 amva tva
  have GCl := ok_claimB (P := l.prog) (w := w) (base := base) (CU := CU) Fdc TD TS MS GS bsi mcCS Z19 X19.toExcC.hs y19 hIc hNo hCk hSo hSh (fr (by decide))
  have hCe : Hv l.prog w K mg base 1 "_law_cell" ["_law_cells", "_law_k"] (spCell K) := ⟨_, _, ok_cell Flc (fr (by decide)) (fr (by decide)), blc, mlc, kglc⟩
  have hPu : Hv l.prog w K mg base 1 "_law_purse" ["_law_cell_here"] spPurse := ⟨_, _, ok_purse Flu (fr (by decide)) (fr (by decide)), blu, mlu, kglu⟩
  have hPk : Hv l.prog w K mg base 1 "_law_pick" ["_law_purse_here", "_law_size"] spPk := ⟨_, _, ok_pk Flp (fr (by decide)) (fr (by decide)), blp, mlp, kglp⟩
  have hLt : Hv l.prog w K mg base 2 "_law_letters" ["_law_purse_here", "_law_size"] spLetters := ⟨_, _, ok_letters Flt hPk (fr (by decide)), blt, mlt, kglt⟩
  have hAi : Hv l.prog w K mg base 2 "_law_aim" ["_law_purse_here", "_law_way", "_law_size", "_law_count", "_law_spot", "_law_step"] spAim := ⟨_, _, ok_aim Fla hPk (fr (by decide)), bla, mla, kgla⟩
  have hBx : Hv l.prog w K mg base 3 "_law_box" ["_law_purse_here", "_law_letters_here"] spBox := ⟨_, _, ok_box Flb hPk hAi (fr (by decide)) (fr (by decide)) (fr (by decide)), blb, mlb, kglb⟩
  have hTx : Hv l.prog w K mg base 1 "_law_text" ["_law_box_here"] spTextB := ⟨_, _, ok_textB Flx, blx, mlx, kglx⟩
  have hEn : Hv l.prog w K mg base 1 "_law_end" ["_law_box_here", "_law_begin", "_law_line_here"] spEndB := ⟨_, _, ok_endB Fld, bld, mld, kgld⟩
  have hFi : Hv l.prog w K mg base 2 "_law_is_fine" ["_law_box_here", "_law_line_here"] spFineL := ⟨_, _, ok_fineL Flf hEn, blf, mlf, kglf⟩
  have hLn : Hv l.prog w K mg base 2 "_law_line" ["_law_purse_here", "_law_letters_here"] spLineR := ⟨_, _, ok_lineR Fli hPk (fr (by decide)) (fr (by decide)), bli, mli, kgli⟩
  have hHl : Hv l.prog w K mg base 3 "_law_holds" ["_law_box_here", "_law_line_here"] spHoldsL := ⟨_, _, ok_holdsL Flh hFi, blh, mlh, kglh⟩
  have GI := ok_deskIsP Flq TD IU PN PC PH PT hRu mcCU (fr (by decide)) (fr (by decide)) (fr (by decide)) (fr (by decide))
  have R : R51 l.prog w K mg base CD CS CU (fun j => ([C0, C1, C2, C3, C4, C5, C6, C7, C8, C9, C10, C11, C12, C13, C14, C15, C16, C17, C18, C19] : List Addr).getD j 0) (fun j => [B0, B1, B2].getD j 0) := {
    T := TD
    md := ⟨_, _, MD, GD, bdi, mcCD⟩
    ru := ⟨_, _, MU, GU, bri, mcCU⟩
    pu := ⟨_, _, ⟨⟨amdp, aidp, kgdp⟩, bdp⟩, GPu⟩
    cl := ⟨_, _, ⟨⟨amdc, aidc, kgdc⟩, bdc⟩, GCl⟩
    hP := hPk
    hLt := hLt
    hBx := hBx
    hTx := hTx
    hLn := hLn
    hHo := hHl
    e19 := F19
    rf := ⟨_, _, Fle, ble, mle⟩
    gc := fun j hj => match j, hj with
      | 0, _ => mcC0
      | 1, _ => mcC1
      | 2, _ => mcC2
      | 3, _ => mcC3
      | 4, _ => mcC4
      | 5, _ => mcC5
      | 6, _ => mcC6
      | 7, _ => mcC7
      | 8, _ => mcC8
      | 9, _ => mcC9
      | 10, _ => mcC10
      | 11, _ => mcC11
      | 12, _ => mcC12
      | 13, _ => mcC13
      | 14, _ => mcC14
      | 15, _ => mcC15
      | 16, _ => mcC16
      | 17, _ => mcC17
      | 18, _ => mcC18
      | 19, _ => mcC19
      | n + 20, h => absurd h (by omega)
    gb := fun j hj => match j, hj with
      | 0, _ => mcB0
      | 1, _ => mcB1
      | 2, _ => mcB2
      | n + 3, h => absurd h (by omega)
    ca := ⟨glk, oclk, odlk, kVlk, dclk, pmlk, anlk, cdlk, ctlk, sllk, mlk, kglk, lglk, cglk, blk⟩
    sa := ⟨_, _, ok_same Fls (fr (by decide)), bls, mls, kgls⟩
    di := ⟨_, _, GI, blq, mlq, kglq⟩
    hIs := (fr (by decide))
    hVE := (fr (by decide))
    hLE := (fr (by decide))
    hAE := (fr (by decide))
    hRa := (fr (by decide))
    hL := (fr (by decide)) }
  have GRi := ok_rightP lglg cglg TBd R
  exact ok_lawN Fll (fr (by decide)) (fr (by decide)) (fr (by decide)) (fr (by decide)) (fr (by decide)) hCe hPu GRi blg mlg kglg
end
end My
namespace L2
open PySem PySem.Spec PyProof.Rows
/-- the end over a part of the heap that a hook tells -/
theorem walk_GE {l : PySem.W.OpenLaw} {n k : Nat} {q : Program} {loose : List Str} {XP : (Str → Option Value) → Heap → Prop} {YP : World → Heap → Prop} {d : DefRec} {sp : PySem.W.Frag → Sp} {x : Str}
    (hn : l.most = some n) (hn2 : n ≤ sizeLine) (hdf : d.params.defaults = []) (hr : Room k callerA)
    (F : ∀ (w : World) (mg : Str → Option Value) (fa : Addr) (h : Heap), YP w h → h.Ns mainGlobals mg → mg d.name = some (.ref fa) →
      ∃ (K : PySem.W.Frag) (fd : FuncData), K.In h ∧ (∀ (s : Shared) (u : Value), BindsTo s fd ⟨[u], []⟩ [(x, u)]) ∧
        ∀ base : Heap, K.In base → base.Ns mainGlobals mg → FnG l.prog w K mg base CX0 k fa fd [x] (sp K))
    (hsp : ∀ (K : PySem.W.Frag) (H : Hp) (a : Addr) (ns : List Int), ns.length ≤ n → Only H → SqL K H a (ns.map V.int) → sp K [.ref a] H (fun v _ => v = .bl true) fun _ _ _ => False) :
    PySem.W.WalkO q loose XP YP l.row.toRowW d [] (fun f vs => PySem.call f vs) := by
  refine Att.attach_call hn hdf fun w s₀ s1 mg mb fa o pm cd doc a vs ns G Y ho hd hcd hmg hobj hints hlen hg => ?_
  obtain ⟨K, fd, KX, hb, hF⟩ := F w mg fa _ Y G.T.g hmg
  exact law_callG KX G.T.g G.T.b G.T.builtins G.T.nolimit hg hobj hints (Nat.le_trans hlen hn2) hr hF hb (fun H hO hS => hsp K H a ns hlen hO hS) fun _ _ _ z => z
/-- .. of a law whose defs make lambdas -/
theorem walk_GTE {l : PySem.W.OpenLaw} {n k : Nat} {q : Program} {loose : List Str} {XP : (Str → Option Value) → Heap → Prop} {YP : World → Heap → Prop} {d : DefRec} {sp : PySem.W.Frag → List (Addr × Addr) → Sp} {x : Str}
    (hn : l.most = some n) (hn2 : n ≤ sizeLine) (hdf : d.params.defaults = []) (hr : Room k callerA)
    (F : ∀ (w : World) (mg : Str → Option Value) (fa : Addr) (h : Heap), YP w h → h.Ns mainGlobals mg → mg d.name = some (.ref fa) →
      ∃ (K : PySem.W.Frag) (ts : List (Addr × Addr)) (fd : FuncData), K.In h ∧ (∀ q ∈ ts, h.get? q.2 = some (PySem.W.tabObj #[]) ∧ K.lookup q.2 = none ∧ PySem.W.CodeHd h q.1 q.2) ∧ (∀ (s : Shared) (u : Value), BindsTo s fd ⟨[u], []⟩ [(x, u)]) ∧
        ∀ base : Heap, K.In base → base.Ns mainGlobals mg → (∀ q ∈ ts, LamX.TabB base mg q.1 q.2) → FnG l.prog w K mg base CX0 k fa fd [x] (sp K ts))
    (hsp : ∀ (K : PySem.W.Frag) (ts : List (Addr × Addr)) (H : Hp) (a : Addr) (ns : List Int), ns.length ≤ n → (∀ q ∈ ts, H q.2 = some (.tbl #[])) → SqL K H a (ns.map V.int) → sp K ts [.ref a] H (fun v _ => v = .bl true) fun _ _ _ => False) :
    PySem.W.WalkO q loose XP YP l.row.toRowW d [] (fun f vs => PySem.call f vs) := by
  refine Att.attach_call hn hdf fun w s₀ s1 mg mb fa o pm cd doc a vs ns G Y ho hd hcd hmg hobj hints hlen hg => ?_
  obtain ⟨K, ts, fd, KX, t1, hb, hF⟩ := F w mg fa _ Y G.T.g hmg
  exact law_callGT KX G.T.g G.T.b G.T.builtins G.T.nolimit hg t1 G.T.bmain hobj hints (Nat.le_trans hlen hn2) hr hF hb (fun H hT hS => hsp K ts H a ns hlen hT hS) fun _ _ _ z => z
end L2
namespace My
open PySem PySem.Spec PyProof.Rows L2
theorem facts {w : World} {K : PySem.W.Frag} {h : Heap} {mg : Str → Option Value} {f : Addr} (X : K.In h) (G : h.Ns mainGlobals mg) (hfa : mg ("law" : Str) = some (.ref f)) (c : Hq.SaysQ qs fns tfs h K) :
    ∃ fd : FuncData, (∀ (s : Shared) (v : Value), BindsTo s fd ⟨[v], []⟩ [("_law_script", v)]) ∧ ∀ base : Heap, K.In base → base.Ns mainGlobals mg → (∀ q ∈ tfs.map (Hq.cTab K), LamX.TabB base mg q.1 q.2) → FnG PySem.Challenge.rw_shortlooks_k51_good_and_bad_claims.prog w K mg base CX0 12 f fd ["_law_script"] (My.spLawT ((tfs.map (Hq.cTab K)).map fun q => (q.2, My.qRi)) K) := by
  obtain ⟨oc0, od0, sl0, kV0, dc0, pm0, an0, cv0, ct0, l0, d0⟩ := c.def_ 0 (d := fn0) rfl
  obtain ⟨oc1, od1, sl1, kV1, dc1, pm1, an1, cv1, ct1, l1, d1⟩ := c.def_ 1 (d := fn1) rfl
  obtain ⟨oc2, od2, sl2, kV2, dc2, pm2, an2, cv2, ct2, l2, d2⟩ := c.def_ 2 (d := fn2) rfl
  obtain ⟨oc3, od3, sl3, kV3, dc3, pm3, an3, cv3, ct3, l3, d3⟩ := c.def_ 3 (d := fn3) rfl
  obtain ⟨oc4, od4, sl4, kV4, dc4, pm4, an4, cv4, ct4, l4, d4⟩ := c.def_ 4 (d := fn4) rfl
  obtain ⟨oc5, od5, sl5, kV5, dc5, pm5, an5, cv5, ct5, l5, d5⟩ := c.def_ 5 (d := fn5) rfl
  obtain ⟨oc6, od6, sl6, kV6, dc6, pm6, an6, cv6, ct6, l6, d6⟩ := c.def_ 6 (d := fn6) rfl
  obtain ⟨oc7, od7, sl7, kV7, dc7, pm7, an7, cv7, ct7, l7, d7⟩ := c.def_ 7 (d := fn7) rfl
  obtain ⟨oc8, od8, sl8, kV8, dc8, pm8, an8, cv8, ct8, l8, d8⟩ := c.def_ 8 (d := fn8) rfl
  obtain ⟨oc9, od9, sl9, kV9, dc9, pm9, an9, cv9, ct9, l9, d9⟩ := c.def_ 9 (d := fn9) rfl
  obtain ⟨oc10, od10, sl10, kV10, dc10, pm10, an10, cv10, ct10, l10, d10⟩ := c.def_ 10 (d := fn10) rfl
  obtain ⟨oc11, od11, sl11, kV11, dc11, pm11, an11, cv11, ct11, l11, d11⟩ := c.def_ 11 (d := fn11) rfl
  obtain ⟨oc12, od12, sl12, kV12, dc12, pm12, an12, cv12, ct12, l12, d12⟩ := c.def_ 12 (d := fn12) rfl
  obtain ⟨oc13, od13, sl13, kV13, dc13, pm13, an13, cv13, ct13, l13, d13⟩ := c.def_ 13 (d := fn13) rfl
  obtain ⟨oc14, od14, sl14, kV14, dc14, pm14, an14, cv14, ct14, l14, d14⟩ := c.def_ 14 (d := fn14) rfl
  obtain ⟨oc15, od15, sl15, kV15, dc15, pm15, an15, cv15, ct15, l15, d15⟩ := c.def_ 15 (d := fn15) rfl
  obtain ⟨oc16, od16, sl16, kV16, dc16, pm16, an16, cv16, ct16, l16, d16⟩ := c.def_ 16 (d := fn16) rfl
  obtain ⟨oc17, od17, sl17, kV17, dc17, pm17, an17, cv17, ct17, l17, d17⟩ := c.def_ 17 (d := fn17) rfl
  obtain ⟨oc18, od18, sl18, kV18, dc18, pm18, an18, cv18, ct18, l18, d18⟩ := c.def_ 18 (d := fn18) rfl
  obtain ⟨oc19, od19, sl19, kV19, dc19, pm19, an19, cv19, ct19, l19, d19⟩ := c.def_ 19 (d := fn19) rfl
  obtain ⟨oc20, od20, sl20, kV20, dc20, pm20, an20, cv20, ct20, l20, d20⟩ := c.def_ 20 (d := fn20) rfl
  obtain ⟨oc21, od21, sl21, kV21, dc21, pm21, an21, cv21, ct21, l21, d21⟩ := c.def_ 21 (d := fn21) rfl
  obtain ⟨oc22, od22, sl22, kV22, dc22, pm22, an22, cv22, ct22, l22, d22⟩ := c.def_ 22 (d := fn22) rfl
  obtain ⟨oc23, od23, sl23, kV23, dc23, pm23, an23, cv23, ct23, l23, d23⟩ := c.def_ 23 (d := fn23) rfl
  obtain ⟨oc24, od24, sl24, kV24, dc24, pm24, an24, cv24, ct24, l24, d24⟩ := c.def_ 24 (d := fn24) rfl
  obtain ⟨oc25, od25, sl25, kV25, dc25, pm25, an25, cv25, ct25, l25, d25⟩ := c.def_ 25 (d := fn25) rfl
  obtain ⟨oc26, od26, sl26, kV26, dc26, pm26, an26, cv26, ct26, l26, d26⟩ := c.def_ 26 (d := fn26) rfl
  obtain ⟨oc27, od27, sl27, kV27, dc27, pm27, an27, cv27, ct27, l27, d27⟩ := c.def_ 27 (d := fn27) rfl
  obtain ⟨oc28, od28, sl28, kV28, dc28, pm28, an28, cv28, ct28, l28, d28⟩ := c.def_ 28 (d := fn28) rfl
  obtain ⟨oc29, od29, sl29, kV29, dc29, pm29, an29, cv29, ct29, l29, d29⟩ := c.def_ 29 (d := fn29) rfl
  obtain ⟨oc30, od30, sl30, kV30, dc30, pm30, an30, cv30, ct30, l30, d30⟩ := c.def_ 30 (d := fn30) rfl
  obtain ⟨oc31, od31, sl31, kV31, dc31, pm31, an31, cv31, ct31, l31, d31⟩ := c.def_ 31 (d := fn31) rfl
  obtain ⟨oc32, od32, sl32, kV32, dc32, pm32, an32, cv32, ct32, l32, d32⟩ := c.def_ 32 (d := fn32) rfl
  obtain ⟨oc33, od33, sl33, kV33, dc33, pm33, an33, cv33, ct33, l33, d33⟩ := c.def_ 33 (d := fn33) rfl
  obtain ⟨oc34, od34, sl34, kV34, dc34, pm34, an34, cv34, ct34, l34, d34⟩ := c.def_ 34 (d := fn34) rfl
  obtain ⟨oc35, od35, sl35, kV35, dc35, pm35, an35, cv35, ct35, l35, d35⟩ := c.def_ 35 (d := fn35) rfl
  obtain ⟨oc36, od36, sl36, kV36, dc36, pm36, an36, cv36, ct36, l36, d36⟩ := c.def_ 36 (d := fn36) rfl
  obtain ⟨oc37, od37, sl37, kV37, dc37, pm37, an37, cv37, ct37, l37, d37⟩ := c.def_ 37 (d := fn37) rfl
  obtain ⟨oc38, od38, sl38, kV38, dc38, pm38, an38, cv38, ct38, l38, d38⟩ := c.def_ 38 (d := fn38) rfl
  obtain ⟨oc39, od39, sl39, kV39, dc39, pm39, an39, cv39, ct39, l39, d39⟩ := c.def_ 39 (d := fn39) rfl
  obtain ⟨oc40, od40, sl40, kV40, dc40, pm40, an40, cv40, ct40, l40, d40⟩ := c.def_ 40 (d := fn40) rfl
  obtain ⟨oc41, od41, sl41, kV41, dc41, pm41, an41, cv41, ct41, l41, d41⟩ := c.def_ 41 (d := fn41) rfl
  obtain ⟨oc42, od42, sl42, kV42, dc42, pm42, an42, cv42, ct42, l42, d42⟩ := c.def_ 42 (d := fn42) rfl
  obtain ⟨oc43, od43, sl43, kV43, dc43, pm43, an43, cv43, ct43, l43, d43⟩ := c.def_ 43 (d := fn43) rfl
  obtain ⟨oc44, od44, sl44, kV44, dc44, pm44, an44, cv44, ct44, l44, d44⟩ := c.def_ 44 (d := fn44) rfl
  obtain ⟨oc45, od45, sl45, kV45, dc45, pm45, an45, cv45, ct45, l45, d45⟩ := c.def_ 45 (d := fn45) rfl
  obtain ⟨oc46, od46, sl46, kV46, dc46, pm46, an46, cv46, ct46, l46, d46⟩ := c.def_ 46 (d := fn46) rfl
  obtain ⟨oc47, od47, sl47, kV47, dc47, pm47, an47, cv47, ct47, l47, d47⟩ := c.def_ 47 (d := fn47) rfl
  obtain ⟨oc48, od48, sl48, kV48, dc48, pm48, an48, cv48, ct48, l48, d48⟩ := c.def_ 48 (d := fn48) rfl
  obtain ⟨oc49, od49, sl49, kV49, dc49, pm49, an49, cv49, ct49, l49, d49⟩ := c.def_ 49 (d := fn49) rfl
  obtain rfl := Hq.codeAt_ref l33 d33
  exact all_mk (Plg := Hq.tabAt K (Hq.codeAt K (He.ga K "_law_right"))) X G hfa (of_decide_eq_true (c.fact 0 (f := q0) rfl)) (of_decide_eq_true (c.fact 1 (f := q1) rfl)) (of_decide_eq_true (c.fact 2 (f := q2) rfl)) (of_decide_eq_true (c.fact 3 (f := q3) rfl)) (of_decide_eq_true (c.fact 4 (f := q4) rfl)) (of_decide_eq_true (c.fact 5 (f := q5) rfl)) (of_decide_eq_true (c.fact 6 (f := q6) rfl)) (of_decide_eq_true (c.fact 7 (f := q7) rfl)) (of_decide_eq_true (c.fact 8 (f := q8) rfl)) (of_decide_eq_true (c.fact 9 (f := q9) rfl)) (of_decide_eq_true (c.fact 10 (f := q10) rfl)) (of_decide_eq_true (c.fact 11 (f := q11) rfl)) (of_decide_eq_true (c.fact 12 (f := q12) rfl)) (of_decide_eq_true (c.fact 13 (f := q13) rfl)) (of_decide_eq_true (c.fact 14 (f := q14) rfl)) (of_decide_eq_true (c.fact 15 (f := q15) rfl)) (of_decide_eq_true (c.fact 16 (f := q16) rfl)) (of_decide_eq_true (c.fact 17 (f := q17) rfl)) (of_decide_eq_true (c.fact 18 (f := q18) rfl)) (of_decide_eq_true (c.fact 19 (f := q19) rfl)) (of_decide_eq_true (c.fact 20 (f := q20) rfl)) (of_decide_eq_true (c.fact 21 (f := q21) rfl)) (of_decide_eq_true (c.fact 22 (f := q22) rfl)) (of_decide_eq_true (c.fact 23 (f := q23) rfl)) (of_decide_eq_true (c.fact 24 (f := q24) rfl)) (of_decide_eq_true (c.fact 25 (f := q25) rfl)) (of_decide_eq_true (c.fact 26 (f := q26) rfl)) l0 d0 (of_decide_eq_true (c.fact 27 (f := q27) rfl)) (of_decide_eq_true (c.fact 28 (f := q28) rfl)) l1 d1 (of_decide_eq_true (c.fact 29 (f := q29) rfl)) (of_decide_eq_true (c.fact 30 (f := q30) rfl)) l2 d2 (of_decide_eq_true (c.fact 31 (f := q31) rfl)) (of_decide_eq_true (c.fact 32 (f := q32) rfl)) l3 d3 (of_decide_eq_true (c.fact 33 (f := q33) rfl)) (of_decide_eq_true (c.fact 34 (f := q34) rfl)) l4 d4 (of_decide_eq_true (c.fact 35 (f := q35) rfl)) (of_decide_eq_true (c.fact 36 (f := q36) rfl)) l5 d5 (of_decide_eq_true (c.fact 37 (f := q37) rfl)) (of_decide_eq_true (c.fact 38 (f := q38) rfl)) l6 d6 (of_decide_eq_true (c.fact 39 (f := q39) rfl)) (of_decide_eq_true (c.fact 40 (f := q40) rfl)) l7 d7 (of_decide_eq_true (c.fact 41 (f := q41) rfl)) (of_decide_eq_true (c.fact 42 (f := q42) rfl)) l8 d8 (of_decide_eq_true (c.fact 43 (f := q43) rfl)) (of_decide_eq_true (c.fact 44 (f := q44) rfl)) l9 d9 (of_decide_eq_true (c.fact 45 (f := q45) rfl)) (of_decide_eq_true (c.fact 46 (f := q46) rfl)) l10 d10 (of_decide_eq_true (c.fact 47 (f := q47) rfl)) (of_decide_eq_true (c.fact 48 (f := q48) rfl)) l11 d11 (of_decide_eq_true (c.fact 49 (f := q49) rfl)) (of_decide_eq_true (c.fact 50 (f := q50) rfl)) l12 d12 (of_decide_eq_true (c.fact 51 (f := q51) rfl)) (of_decide_eq_true (c.fact 52 (f := q52) rfl)) l13 d13 (of_decide_eq_true (c.fact 53 (f := q53) rfl)) (of_decide_eq_true (c.fact 54 (f := q54) rfl)) l14 d14 (of_decide_eq_true (c.fact 55 (f := q55) rfl)) (of_decide_eq_true (c.fact 56 (f := q56) rfl)) l15 d15 (of_decide_eq_true (c.fact 57 (f := q57) rfl)) (of_decide_eq_true (c.fact 58 (f := q58) rfl)) l16 d16 (of_decide_eq_true (c.fact 59 (f := q59) rfl)) (of_decide_eq_true (c.fact 60 (f := q60) rfl)) l17 d17 (of_decide_eq_true (c.fact 61 (f := q61) rfl)) (of_decide_eq_true (c.fact 62 (f := q62) rfl)) l18 d18 (of_decide_eq_true (c.fact 63 (f := q63) rfl)) (of_decide_eq_true (c.fact 64 (f := q64) rfl)) l19 d19 (of_decide_eq_true (c.fact 65 (f := q65) rfl)) (of_decide_eq_true (c.fact 66 (f := q66) rfl)) l20 d20 (of_decide_eq_true (c.fact 67 (f := q67) rfl)) (of_decide_eq_true (c.fact 68 (f := q68) rfl)) l21 d21 (of_decide_eq_true (c.fact 69 (f := q69) rfl)) (of_decide_eq_true (c.fact 70 (f := q70) rfl)) l22 d22 (of_decide_eq_true (c.fact 71 (f := q71) rfl)) (of_decide_eq_true (c.fact 72 (f := q72) rfl)) l23 d23 (of_decide_eq_true (c.fact 73 (f := q73) rfl)) (of_decide_eq_true (c.fact 74 (f := q74) rfl)) l24 d24 (of_decide_eq_true (c.fact 75 (f := q75) rfl)) (of_decide_eq_true (c.fact 76 (f := q76) rfl)) l25 d25 (of_decide_eq_true (c.fact 77 (f := q77) rfl)) (of_decide_eq_true (c.fact 78 (f := q78) rfl)) l26 d26 (of_decide_eq_true (c.fact 79 (f := q79) rfl)) (of_decide_eq_true (c.fact 80 (f := q80) rfl)) l27 d27 (of_decide_eq_true (c.fact 81 (f := q81) rfl)) (of_decide_eq_true (c.fact 82 (f := q82) rfl)) l28 d28 (of_decide_eq_true (c.fact 83 (f := q83) rfl)) (of_decide_eq_true (c.fact 84 (f := q84) rfl)) l29 d29 (of_decide_eq_true (c.fact 85 (f := q85) rfl)) (of_decide_eq_true (c.fact 86 (f := q86) rfl)) l30 d30 (of_decide_eq_true (c.fact 87 (f := q87) rfl)) (of_decide_eq_true (c.fact 88 (f := q88) rfl)) l31 d31 (of_decide_eq_true (c.fact 89 (f := q89) rfl)) (of_decide_eq_true (c.fact 90 (f := q90) rfl)) l32 d32 (of_decide_eq_true (c.fact 91 (f := q91) rfl)) (of_decide_eq_true (c.fact 92 (f := q92) rfl)) l33 d33 (of_decide_eq_true (c.fact 93 (f := q93) rfl)) (of_decide_eq_true (c.fact 94 (f := q94) rfl)) l34 d34 (of_decide_eq_true (c.fact 95 (f := q95) rfl)) (of_decide_eq_true (c.fact 96 (f := q96) rfl)) (of_decide_eq_true (c.fact 97 (f := q97) rfl)) l35 d35 (of_decide_eq_true (c.fact 98 (f := q98) rfl)) (of_decide_eq_true (c.fact 99 (f := q99) rfl)) (of_decide_eq_true (c.fact 100 (f := q100) rfl)) l36 d36 (of_decide_eq_true (c.fact 101 (f := q101) rfl)) (of_decide_eq_true (c.fact 102 (f := q102) rfl)) (of_decide_eq_true (c.fact 103 (f := q103) rfl)) l37 d37 (of_decide_eq_true (c.fact 104 (f := q104) rfl)) (of_decide_eq_true (c.fact 105 (f := q105) rfl)) (of_decide_eq_true (c.fact 106 (f := q106) rfl)) l38 d38 (of_decide_eq_true (c.fact 107 (f := q107) rfl)) (of_decide_eq_true (c.fact 108 (f := q108) rfl)) (of_decide_eq_true (c.fact 109 (f := q109) rfl)) l39 d39 (of_decide_eq_true (c.fact 110 (f := q110) rfl)) (of_decide_eq_true (c.fact 111 (f := q111) rfl)) (of_decide_eq_true (c.fact 112 (f := q112) rfl)) l40 d40 (of_decide_eq_true (c.fact 113 (f := q113) rfl)) (of_decide_eq_true (c.fact 114 (f := q114) rfl)) (of_decide_eq_true (c.fact 115 (f := q115) rfl)) l41 d41 (of_decide_eq_true (c.fact 116 (f := q116) rfl)) (of_decide_eq_true (c.fact 117 (f := q117) rfl)) (of_decide_eq_true (c.fact 118 (f := q118) rfl)) l42 d42 (of_decide_eq_true (c.fact 119 (f := q119) rfl)) (of_decide_eq_true (c.fact 120 (f := q120) rfl)) (of_decide_eq_true (c.fact 121 (f := q121) rfl)) l43 d43 (of_decide_eq_true (c.fact 122 (f := q122) rfl)) (of_decide_eq_true (c.fact 123 (f := q123) rfl)) (of_decide_eq_true (c.fact 124 (f := q124) rfl)) l44 d44 (of_decide_eq_true (c.fact 125 (f := q125) rfl)) (of_decide_eq_true (c.fact 126 (f := q126) rfl)) (of_decide_eq_true (c.fact 127 (f := q127) rfl)) (of_decide_eq_true (c.fact 128 (f := q128) rfl)) (of_decide_eq_true (c.fact 129 (f := q129) rfl)) (of_decide_eq_true (c.fact 130 (f := q130) rfl)) (of_decide_eq_true (c.fact 131 (f := q131) rfl)) l45 d45 (of_decide_eq_true (c.fact 132 (f := q132) rfl)) (of_decide_eq_true (c.fact 133 (f := q133) rfl)) (of_decide_eq_true (c.fact 134 (f := q134) rfl)) (of_decide_eq_true (c.fact 135 (f := q135) rfl)) (of_decide_eq_true (c.fact 136 (f := q136) rfl)) l46 d46 (of_decide_eq_true (c.fact 137 (f := q137) rfl)) (of_decide_eq_true (c.fact 138 (f := q138) rfl)) (of_decide_eq_true (c.fact 139 (f := q139) rfl)) (of_decide_eq_true (c.fact 140 (f := q140) rfl)) (of_decide_eq_true (c.fact 141 (f := q141) rfl)) l47 d47 (of_decide_eq_true (c.fact 142 (f := q142) rfl)) (of_decide_eq_true (c.fact 143 (f := q143) rfl)) (of_decide_eq_true (c.fact 144 (f := q144) rfl)) (of_decide_eq_true (c.fact 145 (f := q145) rfl)) (of_decide_eq_true (c.fact 146 (f := q146) rfl)) l48 d48 (of_decide_eq_true (c.fact 147 (f := q147) rfl)) (of_decide_eq_true (c.fact 148 (f := q148) rfl)) (of_decide_eq_true (c.fact 149 (f := q149) rfl)) (of_decide_eq_true (c.fact 150 (f := q150) rfl)) (of_decide_eq_true (c.fact 151 (f := q151) rfl)) l49 d49 (of_decide_eq_true (c.fact 152 (f := q152) rfl)) (of_decide_eq_true (c.fact 153 (f := q153) rfl)) (of_decide_eq_true (c.fact 154 (f := q154) rfl)) (of_decide_eq_true (c.fact 155 (f := q155) rfl)) (of_decide_eq_true (c.fact 156 (f := q156) rfl)) (of_decide_eq_true (c.fact 157 (f := q157) rfl)) (of_decide_eq_true (c.fact 158 (f := q158) rfl)) (fun H => He.tupB_ok (vs := [.str "signs", .str "moods", .str "good"]) (c.fact 159 (f := q159) rfl) H) (of_decide_eq_true (c.fact 160 (f := q160) rfl)) (fun H => He.tupB_ok (vs := [.str "alike", .str "within"]) (c.fact 161 (f := q161) rfl) H) (of_decide_eq_true (c.fact 162 (f := q162) rfl)) (fun H => He.tupB_ok (vs := [.str "last", .str "ends", .str "windows", .str "sets"]) (c.fact 163 (f := q163) rfl) H) (of_decide_eq_true (c.fact 164 (f := q164) rfl)) (of_decide_eq_true (c.fact 165 (f := q165) rfl)) (of_decide_eq_true (c.fact 166 (f := q166) rfl)) (of_decide_eq_true (c.fact 167 (f := q167) rfl)) (of_decide_eq_true (c.fact 168 (f := q168) rfl)) (of_decide_eq_true (c.fact 169 (f := q169) rfl)) (of_decide_eq_true (c.fact 170 (f := q170) rfl)) (of_decide_eq_true (c.fact 171 (f := q171) rfl)) (of_decide_eq_true (c.fact 172 (f := q172) rfl)) (of_decide_eq_true (c.fact 173 (f := q173) rfl)) (of_decide_eq_true (c.fact 174 (f := q174) rfl)) (of_decide_eq_true (c.fact 175 (f := q175) rfl)) (of_decide_eq_true (c.fact 176 (f := q176) rfl)) (of_decide_eq_true (c.fact 177 (f := q177) rfl)) (of_decide_eq_true (c.fact 178 (f := q178) rfl)) (of_decide_eq_true (c.fact 179 (f := q179) rfl)) (of_decide_eq_true (c.fact 180 (f := q180) rfl)) (of_decide_eq_true (c.fact 181 (f := q181) rfl)) (of_decide_eq_true (c.fact 182 (f := q182) rfl)) (of_decide_eq_true (c.fact 183 (f := q183) rfl)) (of_decide_eq_true (c.fact 184 (f := q184) rfl)) (of_decide_eq_true (c.fact 185 (f := q185) rfl)) (of_decide_eq_true (c.fact 186 (f := q186) rfl)) (of_decide_eq_true (c.fact 187 (f := q187) rfl)) (of_decide_eq_true (c.fact 188 (f := q188) rfl)) (of_decide_eq_true (c.fact 189 (f := q189) rfl)) (of_decide_eq_true (c.fact 190 (f := q190) rfl)) (of_decide_eq_true (c.fact 191 (f := q191) rfl)) (of_decide_eq_true (c.fact 192 (f := q192) rfl)) (of_decide_eq_true (c.fact 193 (f := q193) rfl)) (of_decide_eq_true (c.fact 194 (f := q194) rfl)) (of_decide_eq_true (c.fact 195 (f := q195) rfl)) (of_decide_eq_true (c.fact 196 (f := q196) rfl)) (c.fact 197 (f := q197) rfl)
end My
open PySem PySem.W PyProof.Rows
set_option maxRecDepth 100000 in
set_option maxHeartbeats 0 in
theorem PySem.Challenge.cw_shortlooks_k51_good_and_bad_claims_holds : PySem.Challenge.rw_shortlooks_k51_good_and_bad_claims.Holds := by
  w_on; o_law
  refine HandSHeadRun.head_any (r := OpenLaw.row PySem.Challenge.rw_shortlooks_k51_good_and_bad_claims) (q := view (OpenLaw.row PySem.Challenge.rw_shortlooks_k51_good_and_bad_claims).prog [144]) (H := My.hk) (ob := My.ob) (M := 30000) (loose := My.others) (d := HandSHeadRun.topDef (OpenLaw.row PySem.Challenge.rw_shortlooks_k51_good_and_bad_claims).prog 144) (kwd := []) My.ob_eq
    (by kernel_rfl) (fun s => by kernel_rfl) My.run (by kernel_rfl) (by kernel_rfl) (by kernel_rfl) (by rfl) (by first | assumption | decide +kernel) (by decide +kernel) ⟨rfl, rfl, rfl, rfl, rfl, by decide +kernel⟩ ?hw ?hc
  case hw => w_witness2
  case hc =>
    refine L2.walk_GTE (l := PySem.Challenge.rw_shortlooks_k51_good_and_bad_claims) (n := 63) (k := 12) (x := "_law_script") (sp := fun K ts => My.spLawT (ts.map fun q => (q.2, My.qRi)) K) rfl (by decide) (by kernel_rfl) ⟨rfl, by decide, by decide⟩ ?F (fun _ ts _ a ns hl hT hS => ⟨a, ns, rfl, hS, hl, (fun z hz => by obtain ⟨q, hq, rfl⟩ := List.mem_map.mp hz; exact LamX.TabS.nil (hT q hq)), fun _ => rfl⟩)
    intro w mg fa h Y G hmg0
    obtain ⟨K, KX, c⟩ := Y
    have hmg : mg ("law" : PySem.Str) = some (.ref fa) := by
      have e : (HandSHeadRun.topDef (OpenLaw.row PySem.Challenge.rw_shortlooks_k51_good_and_bad_claims).prog 144).name = ("law" : PySem.Str) := by kernel_rfl
      rw [← e]
      exact hmg0
    obtain ⟨fd, hb, hF⟩ := My.facts (w := w) KX G hmg c
    exact ⟨K, _, fd, KX, c.tabs KX, hb, hF⟩
