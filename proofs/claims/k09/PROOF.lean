import PyProof.Rows.All
import Wide.All
import OpenK.AllK
import Wide.FinOn
import HandS.Words
import PyProof.EqAt
import PyProof.EqKinds
import PyProof.TupleCall
import KE.KFromBytes
import HandS.ForMost
import HandS.Exc
import HandS.ExcInit
import HandS.ExcIs
import HandS.IsInst
import HandS.ExcOwn
import HandS.ExcValue
import HandS.Defaults
import HandS.Set
import HandS.Strs
import PyProof.Rows.SetFrom
import PyProof.StrWalks
import PyProof.Rows.SortStr
import PyProof.Rows.SortShellAny
import PyProof.SetRoads
import HandS.DictComp
import HandS.Walk
import HandS.NoneIn
import HandS.Flow
import HandS.FStr
import HandS.Star
import HandS.Property
import KE.KUnpackStar
import HandS.TupAny
import PyProof.StrBlock2
import HandS.Rev
import HandS.MapJoin
import KE.KDictDisplayH
import HandS.HotCalls
import KE.KUnpack
import KE.KTryMore
import HandS.Lambda
import HandS.EndTab
import HandS.Nested
import PyProof.StrLawsRepr
import HandS.SetBool
import PyProof.NeKinds
import HandS.TryOnly
import HandS.More
import HandS.CallLocal
import HandS.Style
import HandS.Text
import PyProof.Rows.FactsM_int_bit_length
import PyProof.Rows.RuleM_int
import HandS.Call
import HandS.List
import HandS.Small
import HandS.Conv
import KE.DataMinMax
import KE.DataEq
import HandS.Iter
import KE.GoesEnum
import PyProof.EnumMake
import HandS.Comp
import KE.KCallOwn
import HandS.RaiseMore
import PySem.Challenge.RW_shortlooks_k09_good_rows
set_option Elab.async false
set_option linter.all false
set_option maxRecDepth 100000
set_option maxHeartbeats 8000000
namespace My
open PySem PySem.Spec PyProof.Rows L2
def top (i : Nat) : Stmt := PySem.Challenge.pw_shortlooks_k09_good_rows.main.body.getD i (.Pass ⟨0, 0, 0, 0⟩)
abbrev sBounds : Stmt := top 20
abbrev sMade : Stmt := top 25
abbrev sWord : Stmt := top 27
abbrev sSigns : Stmt := top 28
abbrev sMoods : Stmt := top 29
abbrev sGood : Stmt := top 30
abbrev sGoals : Stmt := top 31
abbrev sRead : Stmt := top 32
abbrev sRule : Stmt := top 34
abbrev sCRule : Stmt := top 35
abbrev sRowBack : Stmt := top 37
abbrev sFirstRow : Stmt := top 38
abbrev sFirstMo : Stmt := top 39
abbrev sPairStep : Stmt := top 40
abbrev sPairTest : Stmt := top 41
abbrev sFirstSh : Stmt := top 42
abbrev sFirstGood : Stmt := top 43
abbrev sMany : Stmt := top 44
abbrev sEvenR : Stmt := top 48
abbrev sFreeR : Stmt := top 49
abbrev sWell : Stmt := top 51
abbrev sDip : Stmt := top 52
abbrev sPick : Stmt := top 53
abbrev sTerms : Stmt := top 54
abbrev sSketch : Stmt := top 55
abbrev sText : Stmt := top 56
abbrev sLed : Stmt := top 57
abbrev sFine : Stmt := top 58
abbrev sLinesL : Stmt := top 59
abbrev sBeside : Stmt := top 60
abbrev sOdd : Stmt := top 61
abbrev sError : Stmt := top 62
abbrev sClass : Stmt := top 63
abbrev sField : Stmt := top 64
abbrev sRuleL : Stmt := top 65
abbrev sCountedK : Stmt := top 66
abbrev sRight : Stmt := top 67
abbrev sLaw : Stmt := top 68
end My
namespace PySem
namespace GX
open PySem.W PySem.Calls PyProof.Rows PySem.HandSPX
open Builtin Builtin.ObjectAttr
section
variable {M : Model} {Ar : Around} {Er : Value → Shared → Prop} {hh : Heap} {gg : Array GenState} {dd : Drawn} {tt : Nat} {oo : OsState}
variable {n1 n2 : Str} {C N : Addr} {b1 b2 b3 : List Value} {hx : Bool} {l1 : List Str} {l2 : List Value} {ab : Bool} {cl : Option Bool} {da : Option Addr} {m0 m1 m2 m3 m5 : Option Value} {B nid iid : String}
theorem chkNew (F : ExcBaseFacts B nid iid b3) (hT : ∀ Y : String, b2.contains (.type Y) = b3.contains (.type Y)) {rs : List Value} {kw : List (Str × Value)} {Q : Unit → Shared → Prop}
    (hC : hh.get? C = some (excClassObj n1 n2 C N b1 b2 hx l1 l2 ab cl da m0 m1 m2 m3 m5 nid))
    (hq : Q () ⟨hh, gg, dd, tt, oo⟩) :
    wpAny M Ar (checkBuiltinCall nid ⟨.ref C :: rs, kw⟩) Q Er ⟨hh, gg, dd, tt, oo⟩ := by
  have c1 : (Value.ref C :: b2).contains (.type B) = true := by
    rw [List.contains_cons, hT, F.hasB, Bool.or_true]
  have c2 := F.noStar
  simp only [checkBuiltinCall, F.newKind, F.newSplit, F.newRow]
  repeat (first
    | refine wpAny_loadPart_at hC ?_
    | (refine wpAny_isSubtype_exc hC ?_; rw [c1])
    | refine wpAny_staticBase_exc hC ?_
    | refine wpAny_madeBy_exc hC ?_
    | simp only [bne_self_eq_false, Bool.false_eq_true, if_false]
    | wp_step)
  exact hq
end
section
variable {pr : Program} {wd : World} {Ar : Around} {Er : Value → Shared → Prop} {Rr : Result → Shared → Prop} {hh : Heap} {gg : Array GenState} {dd : Drawn} {tt : Nat} {oo : OsState}
variable {n1 n2 : Str} {C N : Addr} {b1 b2 b3 : List Value} {hx : Bool} {l1 : List Str} {l2 : List Value} {ab : Bool} {cl : Option Bool} {da : Option Addr} {m0 m1 m2 m3 m5 : Option Value} {B nid iid : String}
theorem newK (F : ExcBaseFacts B nid iid b3) (hT : ∀ Y : String, b2.contains (.type Y) = b3.contains (.type Y)) {rs : List Value} {kw : List (Str × Value)}
    (hC : hh.get? C = some (excClassObj n1 n2 C N b1 b2 hx l1 l2 ab cl da m0 m1 m2 m3 m5 nid))
    (hq : Rr (.ok (.ret (.ref (hh.objs.size + 1)))) ⟨(hh.push (W.kdv_tup rs)).push (excO C hh.objs.size), gg, dd, tt, oo⟩)
    (hrs : rs.length ≤ sizeLine) :
    codeAny (model pr wd) Ar (.builtin nid ⟨.ref C :: rs, kw⟩) Rr ⟨hh, gg, dd, tt, oo⟩ := by
  have c0 := F.ends
  have cB : (Value.ref C :: b2).contains (.type B) = true := by
    rw [List.contains_cons, hT, F.hasB, Bool.or_true]
  have cA : (Value.ref C :: b2).contains (.type "AttributeError") = false := by
    rw [List.contains_cons, hT, F.noAttr]; rfl
  have cN : (Value.ref C :: b2).contains (.type "NameError") = false := by
    rw [List.contains_cons, hT, F.noName]; rfl
  refine codeAny_builtinAt F.entry ?_
  unfold Builtin.«BaseException.__new__»
  refine wpAt_bind ?_
  show wpAt _ _ _ (stack >>= _) _ _ _
  refine wpAt_bind (wpAt_stack fun p below => wpAt_of_wpAny ?_)
  wp_walk
  refine wpAt_of_wpAny ?_
  rw [F.owner]
  repeat (first
    | with_reducible refine wpAny_madeHere_exc F.canon hC ?_
    | with_reducible refine wpAny_loadPart_at hC ?_
    | (with_reducible refine wpAny_isSubtype_exc hC ?_; first | rw [cB] | rw [cA] | rw [cN])
    | wp_step)
  show Rr _ _
  rw [Heap.size_push]
  exact hq
end
end GX
end PySem
namespace PySem
namespace GX
open PySem.W PySem.Calls PyProof.Rows PySem.HandSPX
open Builtin Builtin.ObjectAttr
section
variable {M : Model} {Ar : Around} {Er : Value → Shared → Prop} {hh : Heap} {gg : Array GenState} {dd : Drawn} {tt : Nat} {oo : OsState}
variable {n1 n2 : Str} {C N : Addr} {b1 b2 b3 : List Value} {hx : Bool} {l1 : List Str} {l2 : List Value} {ab : Bool} {cl : Option Bool} {da : Option Addr} {m0 m1 m2 m3 m5 : Option Value} {B nid iid : String}
theorem chkCall {rs : List Value} {kw : List (Str × Value)} {Q : Unit → Shared → Prop}
    (hC : hh.get? C = some (excClassObj n1 n2 C N b1 b2 hx l1 l2 ab cl da m0 m1 m2 m3 m5 nid))
    (hq : Q () ⟨hh, gg, dd, tt, oo⟩) :
    wpAny M Ar (checkBuiltinCall "type.__call__" ⟨.ref C :: rs, kw⟩) Q Er ⟨hh, gg, dd, tt, oo⟩ := by
  have z3 := tc_sub
  have zT : (⟨hh, gg, dd, tt, oo⟩ : Shared).TypeIs (.ref C) "type" := ⟨_, hC, rfl⟩
  simp only [checkBuiltinCall, tc_kind, tc_split]
  repeat (any_goals (first
    | assumption
    | with_reducible refine wpAny_loadPart_at hC ?_
    | with_reducible refine wpAny_onRaise ?_
    | with_reducible refine wpAny_map ?_
    | wp_step))
end
section
variable {pr : Program} {wd : World} {Ar : Around} {Er : Value → Shared → Prop} {Rr : Result → Shared → Prop} {hh : Heap} {gg : Array GenState} {dd : Drawn} {tt : Nat} {oo : OsState}
variable {n1 n2 : Str} {C N : Addr} {b1 b2 b3 : List Value} {hx : Bool} {l1 : List Str} {l2 : List Value} {ab : Bool} {cl : Option Bool} {da : Option Addr} {m0 m1 m2 m3 m5 : Option Value} {B nid iid : String}
theorem typeK (F : ExcBaseFacts B nid iid b3) (hT : ∀ Y : String, b2.contains (.type Y) = b3.contains (.type Y)) {rs : List Value} {kw : List (Str × Value)} {fI : Addr} {Q : Fin → Shared → Prop}
    (hC : hh.get? C = some (excClassObj n1 n2 C N b1 b2 hx l1 l2 ab cl da m0 m1 m2 m3 m5 nid))
    (hi : W.Looks (model pr wd) hh (typeLookup (.ref C) "__init__") (some (.ref fI)))
    (hb : ∀ self, W.Looks (model pr wd) hh (bindSpecial (.ref fI) self) (.ref fI, [self]))
    (hrs : rs.length ≤ sizeLine)
    (hq : codeAny (model pr wd) Ar (.call (.ref fI) ⟨.ref (hh.objs.size + 1) :: rs, kw⟩)
      (fun r s' => match r with
        | .ok (.ret v) => v = .none ∧ Q (.done (.ret (.ref (hh.objs.size + 1)))) s'
        | .ok _ => False
        | .error e => Er e s')
      ⟨(hh.push (W.kdv_tup rs)).push (excO C hh.objs.size), gg, dd, tt, oo⟩) :
    wpAny (model pr wd) Ar (Builtin.«type.__call__» ⟨.ref C :: rs, kw⟩) Q Er ⟨hh, gg, dd, tt, oo⟩ := by
  repeat (first
    | with_reducible refine wpAny_loadPart_at hC ?_
    | with_reducible refine wpAny_madeBy_exc hC ?_
    | wp_step)
  refine codeAny_call_builtin_code (Code.quiet_builtin _ F.quiet) (chkNew F hT hC ?_)
  refine newK F hT hC ?_ hrs
  show wpAny _ _ _ _ _ _
  have kk : ∀ b o, hh.get? b = some o → ((hh.push (W.kdv_tup rs)).push (excO C hh.objs.size)).get? b = some o :=
    fun b o e => Heap.get?_push_of_some _ (Heap.get?_push_of_some _ e)
  have hC1 := kk _ _ hC
  have hgt : ((hh.push (W.kdv_tup rs)).push (excO C hh.objs.size)).get? (hh.objs.size + 1) = some (excO C hh.objs.size) := by
    heap_get
  have cC : (Value.ref C :: b2).contains (.ref C) = true := by simp
  have j1 := hi.keeps kk
  have j2 := (hb (.ref (hh.objs.size + 1))).keeps kk
  unfold isInstance
  repeat (first
    | with_reducible refine wpAny_loadPart_at hgt ?_
    | (with_reducible refine wpAny_isSubtype_exc hC1 ?_; rw [cC])
    | wp_step)
  show wpAny _ _ (typeLookup (.ref C) _) _ _ _
  refine j1.at ?_
  refine wpAny_holding (wpAny_bind (j2.at ?_))
  refine wpAny_bind (wpAny_call (codeAny_mono hq fun r s' z => ?_))
  rcases r with e | (v | _ | _ | _) <;> first | exact z | exact z.elim | skip
  obtain ⟨rfl, z⟩ := z
  first
    | exact wpAny_pure (wpAny_pure z)
    | (wp_walk; exact z)
theorem callK (F : ExcBaseFacts B nid iid b3) (hT : ∀ Y : String, b2.contains (.type Y) = b3.contains (.type Y)) {rs : List Value} {kw : List (Str × Value)} {fI : Addr}
    (hC : hh.get? C = some (excClassObj n1 n2 C N b1 b2 hx l1 l2 ab cl da m0 m1 m2 m3 m5 nid))
    (hi : W.Looks (model pr wd) hh (typeLookup (.ref C) "__init__") (some (.ref fI)))
    (hb : ∀ self, W.Looks (model pr wd) hh (bindSpecial (.ref fI) self) (.ref fI, [self]))
    (hrs : rs.length ≤ sizeLine)
    (hq : codeAny (model pr wd) (Ar.under (.builtin "type.__call__" ⟨.ref C :: rs, kw⟩)) (.call (.ref fI) ⟨.ref (hh.objs.size + 1) :: rs, kw⟩) (W.InitBack (hh.objs.size + 1) Rr)
      ⟨(hh.push (W.kdv_tup rs)).push (excO C hh.objs.size), gg, dd, tt, oo⟩) :
    codeAny (model pr wd) Ar (.call (.ref C) ⟨rs, kw⟩) Rr ⟨hh, gg, dd, tt, oo⟩ := by
  have z1 := tc_lookup
  have z2 := tc_bind (.ref C)
  have zT : (⟨hh, gg, dd, tt, oo⟩ : Shared).TypeIs (.ref C) "type" := ⟨_, hC, rfl⟩
  refine codeAny_of_tree ?_
  show wpAny _ _ (callAny (.ref C) _) _ _ _
  repeat (any_goals (first
    | assumption
    | with_reducible refine wpAny_loadPart_at hC ?_
    | wp_step))
  refine ⟨rfl, ?_⟩
  refine codeAny_call_builtin_at (Code.quiet_builtin _ (by decide +kernel)) entry_typeCall (chkCall hC (typeK F hT hC hi hb hrs ?_))
  refine codeAny_mono hq fun r s' z => ?_
  rcases r with e | (v | _ | _ | _) <;> exact z
end
end GX
end PySem
namespace PySem
namespace GX
open PySem.W PySem.Calls PyProof.Rows PySem.HandSPX
open Builtin Builtin.ObjectAttr
/-- what an own class's mro must say for a store to an instance -/
structure MroOk (l : List Value) : Prop where
  pass : ∀ self, refuseLoop self "__setattr__" l = pure ()
  ob : l.contains (.type "object") = true
  ne : l.isEmpty = false
section
variable {pr : Program} {wd : World} {Ar : Around} {Er : Value → Shared → Prop} {Rr : Result → Shared → Prop} {hh : Heap} {gg : Array GenState} {dd : Drawn} {tt : Nat} {oo : OsState}
theorem osaN {K : W.Frag} {nm : Str} {tk : Tok} {v : Value} {x C : Addr} {fv : Array Value} {cd : ClassData}
    (X : K.In hh) (hx : hh.get? x = some { cls := .ref C, data := .fields fv }) (hcd : W.clsIn K C = some cd) (hm : MroOk cd.mro) (hd : cd.hasDict = true)
    (ha : W.findIn K (.ref C) nm = some none)
    (hq : ∀ h' tk' dx, (∀ b o, b ≠ x → hh.get? b = some o → h'.get? b = some o) → hh.objs.size ≤ dx → dx ≠ x →
      h'.get? x = some { cls := .ref C, dict := some dx, data := .fields fv } →
      h'.Ns1 dx (fun y => if y = nm then some v else none) → Rr (.ok (.ret .none)) ⟨h', gg, dd, tk', oo⟩) :
    codeAny (model pr wd) Ar (.call (.builtin "object.__setattr__") ⟨[.ref x, .str nm tk, v], []⟩) Rr ⟨hh, gg, dd, tt, oo⟩ := by
  have I : W.InstAt hh x { cls := .ref C, data := .fields fv } C none := ⟨hx, rfl, rfl, trivial⟩
  have SF := F.store_object
  have hne := hm.ne
  have hxs : x ≠ hh.objs.size := Nat.ne_of_lt (Heap.lt_size hx)
  have sub : W.Looks (model pr wd) hh (isInstance (.ref x) (.type "object")) true :=
    I.type.andThen (W.looks_mroIn X (by unfold W.mroIn; rw [hcd, Option.bind_some, if_neg (by rw [hne]; decide), hm.ob]))
  refine codeAny_call_builtin SF.slot.plain SF.entry (@W.check_slot (model pr wd) _ _ ⟨hh, gg, dd, tt, oo⟩ "object.__setattr__" "object" "__setattr__" (.ref x)
    [.str nm tk, v] [] _ SF.kind SF.split sub (SF.args (.ref x) (.str nm tk) v) ?_)
  have lm : W.Looks (model pr wd) hh (mroOf (.ref C)) cd.mro := (W.looks_clsIn X hcd).andThen .now
  have lt : W.Looks (model pr wd) hh (storeTaker? none) none := .now
  have lc : W.Looks (model pr wd) hh (classData C) cd := W.looks_clsIn X hcd
  rw [W.osa_eq, refuse_eq]
  refine wpAny_bind (wpAny_bind (I.type.at (wpAny_bind (lm.at ?_))))
  rw [hm.pass]
  refine wpAny_pure (wpAny_bind (I.type.at (wpAny_bind ((W.looks_findIn X ha).at (wpAny_bind (lt.at ?_))))))
  show wpAny _ _ (storeInOwnDict (.ref x) (.ref C) (.str nm tk) nm v false) _ _ _
  obtain ⟨c1, c2, c3, c4, c5, c6, c7, c8, c9, c10, c11⟩ := cd
  dsimp only at hd
  subst hd
  unfold storeInOwnDict ownDictForStores
  repeat (first
    | with_reducible refine store_in_new ?_ ?_
    | with_reducible refine wpAny_loadPart_at hx ?_
    | with_reducible refine lc.at ?_
    | wp_step)
  · exact ⟨_, #[], _, (Heap.get?_update_ne _ _ _ _ hxs.symm).trans (Heap.get?_push_at rfl rfl), rfl, fun e he => absurd he (by simp), fun _ => rfl⟩
  · intro h' tk' hn' hs
    have hx1 : (hh.push { cls := .type "dict", data := .dict #[] }).get? x = some { cls := .ref C, data := .fields fv } :=
      Heap.get?_push_of_some _ hx
    refine hq h' tk' hh.objs.size (fun b o hb ho => ?_) (Nat.le_refl _) hxs.symm ?_ hn'
    · exact (hs.2 b (Nat.ne_of_lt (Heap.lt_size ho))).trans ((Heap.get?_update_ne _ _ _ _ hb).trans (Heap.get?_push_of_some _ ho))
    · exact (hs.2 x hxs).trans (Heap.get?_update_self _ hx1 rfl)
theorem osaO {K : W.Frag} {nm : Str} {tk : Tok} {v : Value} {x C dx : Addr} {fv : Array Value} {cd : ClassData} {m0 : Str → Option Value} {nl : List Str}
    (X : K.In hh) (hx : hh.get? x = some { cls := .ref C, dict := some dx, data := .fields fv }) (hns : hh.Ns1 dx m0) (hw : Within m0 nl) (hz : nl.length ≤ 1000)
    (hcd : W.clsIn K C = some cd) (hm : MroOk cd.mro) (hd : cd.hasDict = true) (ha : W.findIn K (.ref C) nm = some none)
    (hq : ∀ h' tk', (∀ b o, b ≠ dx → hh.get? b = some o → h'.get? b = some o) →
      h'.Ns1 dx (fun y => if y = nm then some v else m0 y) → Rr (.ok (.ret .none)) ⟨h', gg, dd, tk', oo⟩) :
    codeAny (model pr wd) Ar (.call (.builtin "object.__setattr__") ⟨[.ref x, .str nm tk, v], []⟩) Rr ⟨hh, gg, dd, tt, oo⟩ := by
  obtain ⟨oD, esD, epD, hoD, hdD, _⟩ := hns.count hw
  have I : W.InstAt hh x { cls := .ref C, dict := some dx, data := .fields fv } C (some oD) := ⟨hx, rfl, rfl, hoD⟩
  have SF := F.store_object
  have hne := hm.ne
  have sub : W.Looks (model pr wd) hh (isInstance (.ref x) (.type "object")) true :=
    I.type.andThen (W.looks_mroIn X (by unfold W.mroIn; rw [hcd, Option.bind_some, if_neg (by rw [hne]; decide), hm.ob]))
  refine codeAny_call_builtin SF.slot.plain SF.entry (@W.check_slot (model pr wd) _ _ ⟨hh, gg, dd, tt, oo⟩ "object.__setattr__" "object" "__setattr__" (.ref x)
    [.str nm tk, v] [] _ SF.kind SF.split sub (SF.args (.ref x) (.str nm tk) v) ?_)
  have lm : W.Looks (model pr wd) hh (mroOf (.ref C)) cd.mro := (W.looks_clsIn X hcd).andThen .now
  have lt : W.Looks (model pr wd) hh (storeTaker? none) none := .now
  have lc : W.Looks (model pr wd) hh (classData C) cd := W.looks_clsIn X hcd
  rw [W.osa_eq, refuse_eq]
  refine wpAny_bind (wpAny_bind (I.type.at (wpAny_bind (lm.at ?_))))
  rw [hm.pass]
  refine wpAny_pure (wpAny_bind (I.type.at (wpAny_bind ((W.looks_findIn X ha).at (wpAny_bind (lt.at ?_))))))
  show wpAny _ _ (storeInOwnDict (.ref x) (.ref C) (.str nm tk) nm v false) _ _ _
  obtain ⟨c1, c2, c3, c4, c5, c6, c7, c8, c9, c10, c11⟩ := cd
  dsimp only at hd
  subst hd
  unfold storeInOwnDict ownDictForStores
  repeat (first
    | with_reducible refine PySem.OEX.store_in_old hns hw hz ?_
    | with_reducible refine wpAny_loadPart_at hx ?_
    | with_reducible refine lc.at ?_
    | wp_step)
  intro h' tk' hn' hs
  exact hq h' tk' (fun b o hb ho => (hs.2 b hb).trans ho) hn'
end
/-! the three built-in bases -/
abbrev tailOf (B : String) : List Value := [.type B, .type "Exception", .type "BaseException", .type "object"]
theorem pass_VE : ∀ self, refuseLoop self "__setattr__" (tailOf "ValueError") = pure () := fun self => by kernel_rfl
theorem mroOk2 {B : String} {a b : Addr} (hp : ∀ self, refuseLoop self "__setattr__" (tailOf B) = pure ()) : MroOk (.ref a :: .ref b :: tailOf B) :=
  ⟨fun self => by rw [refuseLoop_ref, refuseLoop_ref]; exact hp self, by simp [List.contains_cons], rfl⟩
end GX
end PySem
namespace PySem
namespace GX
open PySem.W PySem.Calls PyProof.Rows PySem.HandSPX
section
variable {pr : Program} {wd : World} {Ar : Around} {Er : Value → Shared → Prop} {s : Shared} {K : Frag} {x D : Addr} {ox : Obj} {od : Option Obj}
theorem classG {Q : Option Value → Shared → Prop} (T : L2.ExcC K D) (X : K.In s.heap) (I : InstAt s.heap x ox D od) (h : Q (some (.ref D)) { s with toks := s.toks + 1 }) :
    wpAny (model pr wd) Ar (getAttr? (.ref x) "__class__") Q Er s := by
  have cs : (clsIn K D).isSome = true := by
    obtain ⟨cd, hc, _⟩ := any_some T.hd
    rw [hc]; rfl
  have hf : findObj K D od "__class__" = some (.bind (.builtin "getset_descriptor.__get__") (.builtin "object.__class__")) := by
    cases od with
    | none => exact findObj_dataN cs T.ha T.hn T.ht
    | some o => exact findObj_data cs T.ha T.hn T.ht
  obtain ⟨hp, g, d, t, os⟩ := s
  have y0 := I.type (M := model pr wd)
  have y1 := looks_findIn (M := model pr wd) X T.hg
  have y2 := looks_findIn (M := model pr wd) X T.hk
  have y3 := looks_find (M := model pr wd) X I hf
  have sub : Looks (model pr wd) hp (isInstance (.ref x) (.type "BaseException")) true := y0.andThen (looks_subIn X T.hs)
  have e0 : (false && onTheHeap (Value.builtin "BaseException.__getattribute__")) = false := rfl
  have e2 : (Value.builtin "BaseException.__getattribute__" == Value.builtin "object.__getattribute__") = false := by
    decide +kernel
  have e1 : (onTheHeap (Value.ref D) && Value.builtin "BaseException.__getattribute__" == Value.builtin "object.__getattribute__") = false := by
    rw [e2]; rfl
  unfold getAttr? getAttrBy? getAttrBy
  refine wpAny_bind (wpAny_mkText (wpAny_bind (wpAny_attempt (wpAny_holding (wpAny_bind (y0.at (wpAny_bind (y1.at ?_))))))))
  show wpAny _ _ (if (onTheHeap (Value.ref D) && Value.builtin "BaseException.__getattribute__" == Value.builtin "object.__getattribute__") = true then _ else _) _ _ _
  rw [e1, if_neg Bool.false_ne_true]
  unfold getAttrByItsOwn hookBefore
  refine wpAny_bind ?_
  rw [if_pos (show onTheHeap (Value.ref D) = true from rfl)]
  refine y2.at ?_
  refine wpAny_bind (wpAny_attempt (wpAny_holding ?_))
  unfold callGetattribute
  rw [e0, if_neg Bool.false_ne_true]
  unfold boundAndCalled
  rw [PySem.F.excAttr_ValueError.ga.bind (.ref x)]
  refine wpAny_bind (wpAny_pure ?_)
  show wpAny _ _ (call (.builtin "BaseException.__getattribute__") [.ref x, .str "__class__" t]) _ _ _
  refine wpAny_call (codeAny_call_builtin PySem.F.excAttr_ValueError.ga.plain PySem.F.entry_bexc_ga ?_)
  refine @check_slot (model pr wd) _ _ ⟨hp, g, d, t + 1, os⟩ "BaseException.__getattribute__" "BaseException" "__getattribute__" (.ref x)
    [.str "__class__" t] [] _ (by decide +kernel) (by decide +kernel) sub (PySem.F.args_bexc_ga (.ref x) (.str "__class__" t)) ?_
  unfold Builtin.«object.__getattribute__»
  refine wpAny_bind (wpAny_of_eq (a := ((Value.ref x : Value), [Value.str "__class__" t])) (by first | rfl | (simp only [slotArgs]; rfl)) ?_)
  refine wpAny_bind (wpAny_pure (wpAny_bind (y0.at (wpAny_bind (y3.at ?_)))))
  show wpAny _ _ (holding [Value.builtin "object.__class__"] (call (.builtin "getset_descriptor.__get__") [.builtin "object.__class__", .ref x, .ref D]) >>= ret) _ _ _
  refine wpAny_bind (wpAny_holding (wpAny_call (class_get (s := ⟨hp, g, d, t + 1, os⟩) (ox := ox) (od := od) X I T.hm ?_)))
  refine wpAny_pure ?_
  show wpAny _ _ (handedOut (.ref D)) _ _ _
  rw [handedOut_of (v := .ref D) rfl]
  first
    | exact wpAny_pure (wpAny_pure h)
    | exact wpAny_pure h
    | exact wpAny_pure (wpAny_bind (wpAny_pure (wpAny_pure h)))
theorem kitG (T : L2.ExcC K D) : KitX K (.ref x) (.ref D) (fun h => InstAt h x ox D od) where
  ty := fun _ _ _ I => I.type
  it := fun _ _ X _ => by
    obtain ⟨cdD, hcD, _⟩ := any_some T.hd
    unfold clsIn at hcD
    split at hcD
    · rename_i c' d' cd' sl' ho
      intro A' Q' E' s' k q
      unfold isType loadHead
      exact wpAny_bind (wpAny_loadPart (k _ _ (X _ _ ho)) (wpAny_pure q))
    · cases hcD
  ne := fun h tp dd its n sl X htp => by
    obtain ⟨cdD, hcD, _⟩ := any_some T.hd
    refine Bool.eq_false_iff.mpr fun q => ?_
    have e : D = tp := Value.ref.inj (beq_iff_eq.mp q)
    subst e
    unfold clsIn at hcD
    split at hcD
    · rename_i c' d' cd' sl' ho
      have z := (X _ _ ho).symm.trans htp
      cases z
    · cases hcD
  ca := fun X I k => classG T X I k
end
end GX
end PySem
namespace L2
open PySem PySem.Spec PyProof.Rows PySem.GX
/-- what the written part says of an own exception class at C over a built-in base -/
structure ExG (K : PySem.W.Frag) (C : Addr) : Prop extends ExcC K C where
  cls : ∃ (B nid iid : String) (b3 : List Value) (nm q : Str) (N : Addr) (bs bm : List Value) (sn : List Str) (sub : List Value) (ab : Bool) (col : Option Bool) (dd : Option Addr) (k0 k1 k2 k3 k5 : Option Value),
    ExcBaseFacts B nid iid b3 ∧ (∀ Y : String, bm.contains (.type Y) = b3.contains (.type Y)) ∧ MroOk (.ref C :: bm) ∧
    K.lookup C = some (excClassObj nm q C N bs bm true sn sub ab col dd k0 k1 k2 k3 k5 nid)
  sa : PySem.W.findIn K (.ref C) "__setattr__" = some (some (.builtin "object.__setattr__"))
  kC : PySem.W.keepIn K (.ref C) = true
/-- an exception at a of the class at C with the fields fs (its dict at d) -/
structure ExAt (H : Hp) (a C d : Addr) (fs : List (Str × V)) : Prop where
  ob : H a = some (exo a C (some d))
  di : H d = some (exd d fs)
end L2
namespace L2
open PySem PySem.Spec PyProof.Rows PySem.GX
section
variable {X : Cx} {pins : List (Addr × Obj)} {σ : St} {H : Hp} {s : Shared} {a C dx : Addr} {f : Str} {y : V} {u : Value} {fs : List (Str × V)} {Q : Unit → Shared → Prop} {Er : Value → Shared → Prop} {Ar : Around}
/-- the first store gives the exception its dict -/
theorem ostN (T : ExG X.K C) (I : Inv X pins σ H s) (e : H a = some (exo a C none)) (hno : PySem.W.findIn X.K (.ref C) f = some none) (ry : RelV y u)
    (h : ∀ dx s', H dx = none → dx ≠ a → Inv X pins σ (upd (upd H dx (exd dx [(f, y)])) a (exo a C (some dx))) s' → Q () s') :
    wpAny (model X.prog X.w) Ar (setAttr (.ref a) f u) Q Er s := by
  obtain ⟨B, nid, iid, b3, nm, q, N, bs, bm, sn, sub, ab, col, dd, k0, k1, k2, k3, k5, FB, hT, hM, hC⟩ := T.cls
  have hcl : PySem.W.clsIn X.K C = some { name := nm, bases := bs, mro := .ref C :: bm, ns := N, qualname := q, hasDict := true, slotNames := sn, subclasses := sub, abstract := ab, collection := col, hasDel := false } := by
    unfold PySem.W.clsIn; rw [hC] <;> rfl
  obtain ⟨t1, ho⟩ := exo_at I.hok e
  obtain ⟨hp, g, d, t, os⟩ := s
  refine PySem.W.set_plain I.kIn (ox := { cls := .ref C, dict := none, data := .fields #[.ref t1, .none, .none, .none, .bool false, .none] })
    (od := none) ⟨ho, rfl, rfl, trivial⟩ T.sa ?_
  refine osaN I.kIn ho hcl hM rfl hno (fun h' tk' dx k dn dne hx hn => ?_)
  have free1 : H dx = none := I.hok.fresh dn
  have ndx : ∀ {b : Addr} {o : Obj}, hp.get? b = some o → b ≠ dx :=
    fun {b o} q => Nat.ne_of_lt (Nat.lt_of_lt_of_le (Heap.lt_size q) dn)
  have nea : ∀ {b : Addr}, H b = none → b ≠ a := fun {b} n z => by
    rw [z, e] at n; cases n
  have U1 : Un X.fs [] H (upd (upd H dx (exd dx [(f, y)])) a (exo a C (some dx))) hp h' := by
    refine ⟨fun b o q n _ _ => k b o (nea n) q, fun b o q n _ _ => ⟨o.slots, k b o (nea n) q⟩, fun b o q n _ => ?_, fun b o q _ => ?_, fun b xs q => ?_, fun b o v q => ?_, fun b ps q => ⟨#[], ?_⟩⟩
    · rw [upd_ne (nea n), upd_ne (ndx q)]; exact n
    · by_cases hb : b = a
      · exact ⟨_, by rw [hb]; exact hx⟩
      · exact ⟨o, k b o hb q⟩
    · rw [upd_ne (at_ne e q exo_tup), upd_ne (ne_of_none q free1)]; exact q
    · rw [upd_ne (at_ne e q exo_frz), upd_ne (ne_of_none q free1)]; exact q
    · rw [upd_ne (at_ne e q exo_tbl), upd_ne (ne_of_none q free1), q]; simp
  refine h dx _ free1 dne (I.un (t' := tk') U1 fun b o q => ?_)
  by_cases hb : b = a
  · subst hb
    rw [upd_same] at q; cases q
    exact exo_ok hx
  · rw [upd_ne hb] at q
    by_cases hd : b = dx
    · subst hd
      rw [upd_same] at q; cases q
      exact exd_ok hn (relO_put (fs := []) ry fun g => True.intro)
    · rw [upd_ne hd] at q
      refine (I.hok b o q).stay (fun c v hc z => k c v ?_ z) (fun c hc => ?_) (fun c xs hc => ?_)
      · rcases hc with hc | hc
        · rw [hc]; exact hb
        · exact at_ne e hc exo_own
      · rw [upd_ne (at_ne e hc exo_own), upd_ne (ne_of_none hc free1)]; exact hc
      · rw [upd_ne (at_ne e hc exo_tup), upd_ne (ne_of_none hc free1)]; exact hc
theorem ostO (T : ExG X.K C) (I : Inv X pins σ H s) (e : H a = some (exo a C (some dx))) (ed : H dx = some (exd dx fs)) (hl : fs.length ≤ 900) (hno : PySem.W.findIn X.K (.ref C) f = some none) (ry : RelV y u)
    (h : ∀ s', Inv X pins σ (upd H dx (exd dx ((f, y) :: fs))) s' → Q () s') : wpAny (model X.prog X.w) Ar (setAttr (.ref a) f u) Q Er s := by
  obtain ⟨B, nid, iid, b3, nm, q, N, bs, bm, sn, sub, ab, col, dd, k0, k1, k2, k3, k5, FB, hT, hM, hC⟩ := T.cls
  have hcl : PySem.W.clsIn X.K C = some { name := nm, bases := bs, mro := .ref C :: bm, ns := N, qualname := q, hasDict := true, slotNames := sn, subclasses := sub, abstract := ab, collection := col, hasDel := false } := by
    unfold PySem.W.clsIn; rw [hC] <;> rfl
  obtain ⟨t1, ho⟩ := exo_at I.hok e
  obtain ⟨mA, hns, rel⟩ := exd_at I.hok ed
  have hw := within_of rel
  obtain ⟨hp, g, d, t, os⟩ := s
  obtain ⟨oD, _, _, hoD, _, _⟩ := hns.count hw
  refine PySem.W.set_plain I.kIn (ox := { cls := .ref C, dict := some dx, data := .fields #[.ref t1, .none, .none, .none, .bool false, .none] })
    (od := some oD) ⟨ho, rfl, rfl, hoD⟩ T.sa ?_
  refine osaO I.kIn ho hns hw (by rw [List.length_map]; omega) hcl hM rfl hno (fun h' tk' k hn => ?_)
  have hd : ∃ o, h'.get? dx = some o := by
    obtain ⟨o, _, _, e', _⟩ := hn
    exact ⟨o, e'⟩
  exact h _ (I.write (t' := tk') (x := dx) (e := dx) (o := exd dx ((f, y) :: fs)) (by rw [ed]; exact True.intro) (.inl rfl) k hd (exd_ok hn (relO_put ry rel)))
end
/-- self.f = e in an own exception's __init__ -/
def tOsG (K : PySem.W.Frag) (f : Str) (to te : TE) : TS := fun D σ H => te σ H fun y H1 => to σ H1 fun x H2 => ∃ a C : Addr, x = .ref a ∧ ExG K C ∧ PySem.W.findIn K (.ref C) f = some none ∧
  ((H2 a = some (exo a C none) ∧ ∀ dx, H2 dx = none → dx ≠ a → D.nx σ (upd (upd H2 dx (exd dx [(f, y)])) a (exo a C (some dx)))) ∨
    ∃ (dx : Addr) (fs : List (Str × V)), H2 a = some (exo a C (some dx)) ∧ H2 dx = some (exd dx fs) ∧ fs.length ≤ 900 ∧ D.nx σ (upd H2 dx (exd dx ((f, y) :: fs))))
section
variable {X : Cx} {o e : Expr} {es : List Expr} {to te : TE} {ta tk : TA} {f : Str} {p p' p1 p2 pos : Pos} {kws : List Keyword} {ks : List Str} {n : Nat}
theorem ps_osG (ho : PE X o to) (he : PE X e te) (hs : swapsWith e (some (.Attribute o f p')) pos.line X.env = pure false := by rfl) : PS X (.Assign [.Attribute o f p'] e pos) (tOsG X.K f to te) := by
  refine ⟨fun pins s σ H D I h => ?_⟩
  refine plainObj_wpAny_Assign_Attribute (thn (he.run pins s σ H _ I h) fun v s1 ⟨y, H1, I1, r1, q1⟩ => thn (ho.run pins s1 σ H1 _ I1 q1) fun u s2 ⟨x, H2, I2, r2, a, C, ex, T, hno, q⟩ => ?_) hs
  subst ex
  obtain rfl : u = Value.ref a := r2
  rcases q with ⟨ea, q⟩ | ⟨dx, fs, ea, ed, hl, q⟩
  · exact ostN T I2 ea hno r1 fun dx s' n ne J => ⟨σ, _, J, q dx n ne⟩
  · exact ostO T I2 ea ed hl hno r1 fun s' J => ⟨σ, _, J, q⟩
variable {CX : CXT} {x : Str} {C fI : Addr} {k : Nat} {fd : FuncData} {ps : List Str} {sp : Sp} {g : List Value → List Value → List Value} {gV : List V → List V → List V}
theorem run_mkG {pins : List (Addr × Obj)} {σ : St} {H : Hp} {s : Shared} {Q : VK} {us ws : List Value} {vs zs : List V} (T : ExG X.K C) (iC : PySem.W.findIn X.K (.ref C) "__init__" = some (some (.ref fI)))
    (tI : PySem.W.typeIn X.K (.ref fI) = some (.type "function")) (F1 : FnOk X.prog X.w X.K X.mg X.base CX k fI fd ps sp) (hr : Room (k + 1) X.A) (hb : KBn X.K fd ps (n + 1) ks g gV) (hx : Passes CX X (fun _ _ _ => False))
    (I : Inv X pins σ H s) (r : Vals vs us) (rz : Vals zs ws) (l1 : vs.length = n) (l2 : zs.length = ks.length) (l3 : vs.length ≤ 1000)
    (h : ∀ a, H a = none → sp (gV (.ref a :: vs) zs) (upd H a (exo a C none)) (fun v H3 => v = .non ∧ Q (.ref a) H3) (fun _ _ _ => False)) :
    wpAny (model X.prog X.w) X.A (call (.ref C) us (ks.zip ws)) (EP X pins σ Q) X.xe s := by
  obtain ⟨B, nid, iid, b3, nm, q, N, bs, bm, sn, sub, ab, col, dd, k0, k1, k2, k3, k5, FB, hT, hM, hC⟩ := T.cls
  obtain ⟨hp, gn, dr, tkk, os⟩ := s
  have hsz : hp.objs.size ≤ hp.objs.size + 1 := Nat.le_succ _
  have hn : H (hp.objs.size + 1) = none := I.hok.fresh hsz
  have hq := h (hp.objs.size + 1) hn
  have kk : ∀ b o, hp.get? b = some o → ((hp.push (PySem.W.kdv_tup us)).push (PySem.HandSPX.excO C hp.objs.size)).get? b = some o :=
    fun b o e => Heap.get?_push_of_some _ (Heap.get?_push_of_some _ e)
  have hgt : ((hp.push (PySem.W.kdv_tup us)).push (PySem.HandSPX.excO C hp.objs.size)).get? (hp.objs.size + 1) = some (PySem.HandSPX.excO C hp.objs.size) := by
    heap_get
  have I2 : Inv X pins σ (upd H (hp.objs.size + 1) (exo (hp.objs.size + 1) C none)) ⟨(hp.push (PySem.W.kdv_tup us)).push (PySem.HandSPX.excO C hp.objs.size), gn, dr, tkk, os⟩ :=
    I.laid (t' := tkk) (a := hp.objs.size + 1) (o := exo (hp.objs.size + 1) C none)
      (h' := (hp.push (PySem.W.kdv_tup us)).push (PySem.HandSPX.excO C hp.objs.size)) kk hsz (exo_ok hgt)
  have r1 : Vals (V.ref (hp.objs.size + 1) :: vs) (Value.ref (hp.objs.size + 1) :: us) := .cons rfl r
  have r2 := hb.rel r1 rz
  have n1 : (Value.ref (hp.objs.size + 1) :: us).length = n + 1 := by
    rw [List.length_cons, ← r.length, l1]
  have hus : us.length ≤ sizeLine := by
    rw [← Paired.length r, sizeLine_eq]; omega
  refine wpAny_call (callK FB hT (I.kIn _ _ hC) (PySem.W.looks_findIn I.kIn iC) (fun self => PySem.W.bind_fn I.kIn self tI) hus
    (codeAny_mono (F1.run _ X.stack _ _ ⟨Value.ref (hp.objs.size + 1) :: us, ks.zip ws⟩ (g (Value.ref (hp.objs.size + 1) :: us) ws) _ _ (fun _ _ _ => False)
      (hr.make C us (ks.zip ws)) (I2.env0.make C us (ks.zip ws)) (hb.to _ (Value.ref (hp.objs.size + 1) :: us) ws I2.kIn n1 (rz.length.symm.trans l2)) r2 hq) fun r s' hq' => ?_))
  cases r with
  | error er => exact hx pins σ _ _ er s' I2 hq'
  | ok fl =>
    cases fl with
    | ret u =>
      obtain ⟨v, H', I3, rv, ev, q3⟩ := I2.after hq'
      subst ev
      exact ⟨rv, ⟨V.ref (hp.objs.size + 1), H', I3, rfl, q3⟩⟩
    | next => exact False.elim hq'
    | brk => exact False.elim hq'
    | cont => exact False.elim hq'
end
end L2
namespace L2
open PySem PySem.Spec PyProof.Rows PySem.GX
/-- flat things -/
inductive Fl : V → PyData → Prop
  | non : Fl .non .none
  | bl (b : Bool) : Fl (.bl b) (.bool b)
  | int (i : Int) : Fl (.int i) (.int i)
  | str (x : Str) : Fl (.str x) (.str x)
mutual
/-- the data that a value is, dicts of flat things among them -/
inductive Sh (K : PySem.W.Frag) (H : Hp) : V → PyData → Prop
  | fl {v : V} {d : PyData} : Fl v d → Sh K H v d
  | lst {a : Addr} {xs : List V} {ds : List PyData} : SqL K H a xs → ShAll K H xs ds → Sh K H (.ref a) (.list ds)
  | tup {a : Addr} {xs : List V} {ds : List PyData} : SqT K H a xs → ShAll K H xs ds → Sh K H (.ref a) (.tuple ds)
  | dic {a : Addr} {kvs : List (Key × V)} {kds : List (PyData × PyData)} : H a = some (.dK kvs) → Paired Fl (kvs.map fun p => kV p.1) (kds.map (·.1)) → Paired Fl (kvs.map (·.2)) (kds.map (·.2)) →
      Sh K H (.ref a) (.dict kds)
inductive ShAll (K : PySem.W.Frag) (H : Hp) : List V → List PyData → Prop
  | nil : ShAll K H [] []
  | cons {v : V} {vs : List V} {d : PyData} {ds : List PyData} : Sh K H v d → ShAll K H vs ds → ShAll K H (v :: vs) (d :: ds)
end
section
variable {pr : Program} {wd : World} {h0 : Heap}
theorem Fl.reads {v : V} {d : PyData} {u : Value} (f : Fl v d) (r : RelV v u) : Reads h0 u d [] := by
  cases f with
  | non => cases r; exact .none
  | bl b => cases r; exact .bool b
  | int i => obtain ⟨t, rfl⟩ := r; exact .int i t
  | str x => obtain ⟨t, rfl⟩ := r; exact .str x t
theorem Fl.repr {v : V} {d : PyData} {u : Value} (f : Fl v d) (r : RelV v u) (hs : d.showable = true) (hz : d.shown.length ≤ sizeLine) (n : Nat) (bs : List Addr) : ReprK pr wd bs h0 n u d.shown := by
  cases f with
  | non => cases r; simp only [PyData.shown]; exact .of_is ReprIs.none _ _ _
  | bl b => cases r; simp only [PyData.shown]; exact .of_is (ReprIs.bool b) _ _ _
  | int i => obtain ⟨t, rfl⟩ := r; simp only [PyData.shown]; exact .of_is (ReprIs.int t (by simpa [PyData.showable] using hs)) _ _ _
  | str x => obtain ⟨t, rfl⟩ := r; simp only [PyData.shown]; exact .of_is (ReprIs.str x t (by simpa only [PyData.shown] using hz)) _ _ _
theorem flAll_reads : ∀ {vs : List V} {ds : List PyData} {us : List Value}, Paired Fl vs ds → Vals vs us → ReadsAll h0 us ds []
  | _, _, _, .nil, .nil => .nil
  | _, _, _, .cons f t, .cons r q => ReadsAll.cons (as := []) (bs := []) (f.reads r) (flAll_reads t q)
theorem flAll_repr (n : Nat) (bs : List Addr) : ∀ {vs : List V} {ds : List PyData} {us : List Value}, Paired Fl vs ds → Vals vs us → PyData.showableAll ds = true → (∀ t ∈ PyData.shownAll ds, t.length ≤ sizeLine) → ReprAllK pr wd bs h0 n us (PyData.shownAll ds)
  | _, _, _, .nil, .nil, _, _ => by simp only [PyData.shownAll]; exact .nil
  | _, d :: ds, _, .cons f t, .cons r q, hs, hz => by
    have hs' : d.showable = true ∧ PyData.showableAll ds = true := by simpa [PyData.showableAll] using hs
    simp only [PyData.shownAll] at hz ⊢
    exact .cons (f.repr r hs'.1 (hz _ (List.mem_cons_self ..)) n bs) (flAll_repr n bs t q hs'.2 fun t ht => hz t (List.mem_cons_of_mem _ ht))
end
theorem pairs_split {P : Program} {w : World} : ∀ {es : List DictEntry} {kvs : List (Key × V)} {vs : List (Key × Value)}, Pairs (mixKind P w) es vs → KV kvs vs → Vals (kvs.map fun p => kV p.1) (es.map (·.key)) ∧ Vals (kvs.map (·.2)) (es.map (·.val))
  | _, _, _, .nil, .nil => ⟨.nil, .nil⟩
  | e :: es, (k, v) :: kvs, (k', u) :: vs, .cons h1 h2 t, .cons r q => by
    obtain ⟨a, b⟩ := pairs_split t q
    obtain ⟨r1, r2⟩ := r
    have r1' : k = k' := r1
    subst r1'
    have hk : keyIs k e.key = true := h1
    have h2' : e.val = u := h2
    have rk : RelV (kV k) e.key := by
      rcases keyIs_shape hk with ⟨i, t, rfl, q⟩ | ⟨x, t, rfl, q⟩
      · exact ⟨t, q⟩
      · exact ⟨t, q⟩
    exact ⟨.cons rk a, .cons (show RelV v e.val by rw [h2']; exact r2) b⟩
section
variable {X : Cx} {pins : List (Addr × Obj)} {σ : St} {H : Hp} {s : Shared}
mutual
theorem Sh.both (I : Inv X pins σ H s) : ∀ (d : PyData) (v : V) (u : Value), Sh X.K H v d → RelV v u → d.showable = true → d.shown.length ≤ sizeLine →
    (∃ as, Reads s.heap u d as) ∧ ∃ bs, ReadAtMost s.heap d.depth bs ∧ ReprK X.prog X.w bs s.heap d.depth u d.shown
  | .none, _, _, h, r, hs, hz => by
    cases h with
    | fl f => exact ⟨⟨_, f.reads r⟩, [], (fun _ z => nomatch z), f.repr r hs hz _ _⟩
  | .bool b, _, _, h, r, hs, hz => by
    cases h with
    | fl f => exact ⟨⟨_, f.reads r⟩, [], (fun _ z => nomatch z), f.repr r hs hz _ _⟩
  | .int i, _, _, h, r, hs, hz => by
    cases h with
    | fl f => exact ⟨⟨_, f.reads r⟩, [], (fun _ z => nomatch z), f.repr r hs hz _ _⟩
  | .str x, _, _, h, r, hs, hz => by
    cases h with
    | fl f => exact ⟨⟨_, f.reads r⟩, [], (fun _ z => nomatch z), f.repr r hs hz _ _⟩
  | .list ds, _, _, h, r, hs, hz => by
    cases h with
    | fl f => cases f
    | @lst a xs _ hq ha =>
      cases r
      obtain ⟨its, rv, ⟨o, n, ho, hc, _, hd⟩, _⟩ := I.list hq
      have hz' : (listText (PyData.shownAll ds)).length ≤ sizeLine := by simpa only [PyData.shown] using hz
      obtain ⟨⟨as, hr⟩, bs, hb, hk⟩ := Sh.bothAll I ds xs its ha rv (by simpa [PyData.showable] using hs) (fun t ht => Nat.le_trans (listText_mem_le ht) hz')
      have rr : Reads s.heap (.ref a) (.list ds) _ := Reads.list ho hc hd hr
      have hna : a ∉ bs := not_mem_of_deeper rr (by simp only [PyData.depth]; omega) hb
      refine ⟨⟨_, rr⟩, a :: bs, ReadAtMost.cons rr (by simp only [PyData.depth]; omega) hb, ?_⟩
      simp only [PyData.depth, PyData.shown]
      cases its with
      | nil =>
        cases hr
        simp only [PyData.shownAll, listText_nil]
        exact ReprK.listEmpty ho hc hd
      | cons x l => exact ReprK.list ho hc hd hna (by simpa using hk.length_eq) (fun i y e => hk.item i y (by simpa using e))
  | .tuple ds, _, _, h, r, hs, hz => by
    cases h with
    | fl f => cases f
    | @tup a xs _ hq ha =>
      cases r
      obtain ⟨its, rv, ⟨o, ho, hc, n, hd⟩, _⟩ := I.tuple hq
      have hz' : (tupleText (PyData.shownAll ds)).length ≤ sizeLine := by simpa only [PyData.shown] using hz
      obtain ⟨⟨as, hr⟩, bs, hb, hk⟩ := Sh.bothAll I ds xs its ha rv (by simpa [PyData.showable] using hs) (fun t ht => Nat.le_trans (tupleText_mem_le ht) hz')
      have rr : Reads s.heap (.ref a) (.tuple ds) _ := Reads.tuple ho hc hd hr
      have hna : a ∉ bs := not_mem_of_deeper rr (by simp only [PyData.depth]; omega) hb
      refine ⟨⟨_, rr⟩, a :: bs, ReadAtMost.cons rr (by simp only [PyData.depth]; omega) hb, ?_⟩
      simp only [PyData.depth, PyData.shown]
      exact ReprK.tuple ho hc hd hna hk
  | .dict kds, _, _, h, r, hs, hz => by
    cases h with
    | fl f => cases f
    | @dic a kvs _ hq fk fv =>
      cases r
      obtain ⟨_, hsys, vs, rkv, o, es, ep, ho, ⟨hc, _⟩, hd, _, hp, _⟩ := I.hok a _ hq
      obtain ⟨vk, vv⟩ := pairs_split hp rkv
      obtain ⟨hs1, hs2⟩ := PyData.showableKv_split kds (by simpa [PyData.showable] using hs)
      have hz' : (dictText (PyData.shownKv kds)).length ≤ sizeLine := by simpa only [PyData.shown] using hz
      have k1 : ReprAllK X.prog X.w [] s.heap (PyData.depthKv kds) _ _ := flAll_repr (PyData.depthKv kds) [] fk vk hs1 (fun t ht => by
        obtain ⟨p, hp, hl⟩ := PyData.shownKv_key_le kds t ht
        exact Nat.le_trans hl (Nat.le_trans (dictText_mem_le hp) hz'))
      have k2 : ReprAllK X.prog X.w [] s.heap (PyData.depthKv kds) _ _ := flAll_repr (PyData.depthKv kds) [] fv vv hs2 (fun t ht => by
        obtain ⟨p, hp, hl⟩ := PyData.shownKv_val_le kds t ht
        exact Nat.le_trans hl (Nat.le_trans (dictText_mem_le hp) hz'))
      have rr : Reads s.heap (.ref a) (.dict kds) _ := Reads.dict ho hc hd (flAll_reads fk vk) (flAll_reads fv vv)
      refine ⟨⟨_, rr⟩, [a], ReadAtMost.cons rr (n := 0) (Nat.zero_le _) (fun _ z => nomatch z), ?_⟩
      simp only [PyData.depth, PyData.shown, PyData.shownKv_eq]
      exact ReprK.dict ho hc hd hsys (fun z => nomatch z) (ReprEntriesK.of_two es.toList _ _ k1 k2)
theorem Sh.bothAll (I : Inv X pins σ H s) : ∀ (ds : List PyData) (vs : List V) (us : List Value), ShAll X.K H vs ds → Vals vs us → PyData.showableAll ds = true → (∀ t ∈ PyData.shownAll ds, t.length ≤ sizeLine) →
    (∃ as, ReadsAll s.heap us ds as) ∧ ∃ bs, ReadAtMost s.heap (PyData.depthAll ds) bs ∧ ReprAllK X.prog X.w bs s.heap (PyData.depthAll ds) us (PyData.shownAll ds)
  | [], _, _, h, r, _, _ => by
    cases h
    cases r
    refine ⟨⟨_, ReadsAll.nil⟩, [], (fun _ z => nomatch z), ?_⟩
    simp only [PyData.shownAll]
    exact .nil
  | d :: ds, _, _, h, r, hs, hz => by
    cases h with
    | cons h1 h2 =>
      cases r with
      | cons r1 r2 =>
        have hs' : d.showable = true ∧ PyData.showableAll ds = true := by simpa [PyData.showableAll] using hs
        simp only [PyData.shownAll] at hz
        obtain ⟨⟨as, q1⟩, b1, hb1, k1⟩ := Sh.both I d _ _ h1 r1 hs'.1 (hz _ (List.mem_cons_self ..))
        obtain ⟨⟨bs, q2⟩, b2, hb2, k2⟩ := Sh.bothAll I ds _ _ h2 r2 hs'.2 (fun t ht => hz t (List.mem_cons_of_mem _ ht))
        refine ⟨⟨_, ReadsAll.cons q1 q2⟩, b1 ++ b2, ?_, ?_⟩
        · simp only [PyData.depthAll]
          exact (hb1.mono (Nat.le_max_left _ _)).append (hb2.mono (Nat.le_max_right _ _))
        · simp only [PyData.depthAll, PyData.shownAll]
          exact .cons ((k1.more fun b hb => List.mem_append_left _ hb).level_le (Nat.le_max_left _ _)) (k2.more_le (fun b hb => List.mem_append_right _ hb) (Nat.le_max_right _ _))
end
end
/-- repr(x), x a list -/
def rRepr (K : PySem.W.Frag) : List V → Hp → VK → Prop := fun xs H Q => ∃ (a : Addr) (ds : List PyData), xs = [.ref a] ∧ Sh K H (.ref a) (.list ds) ∧ PyData.showableAll ds = true ∧ (PyData.list ds).shown.length ≤ sizeLine ∧ (PyData.list ds).depth ≤ 60 ∧
  Q (.str (PyData.list ds).shown) H
theorem call_reprL {X : Cx} (hg : X.A.guards = some []) (hu : X.A.units + 64 < cLine) : CallR X (.builtin "repr") (rRepr X.K) := by
  intro pins s σ H xs us Q I r h
  obtain ⟨a, ds, rfl, hsh, hs, hz, hdp, q⟩ := h
  cases r with
  | cons r1 r2 =>
    cases r2
    cases r1
    cases hsh with
    | fl f => cases f
    | @lst _ xs _ hq ha =>
      obtain ⟨its, rv, ⟨o, n, ho, hc, _, hd⟩, _⟩ := I.list hq
      have hz' : (listText (PyData.shownAll ds)).length ≤ sizeLine := by simpa only [PyData.shown] using hz
      obtain ⟨⟨as, hr⟩, bs, hb, hk⟩ := Sh.bothAll I ds xs its ha rv hs (fun t ht => Nat.le_trans (listText_mem_le ht) hz')
      have rr : Reads s.heap (.ref a) (.list ds) _ := Reads.list ho hc hd hr
      have hna : a ∉ bs := not_mem_of_deeper rr (by simp only [PyData.depth]; omega) hb
      simp only [PyData.depth] at hdp
      simp only [PyData.shown] at q
      refine call_repr_slot (by omega) ⟨o, ho, hc⟩ F.slot_list_repr.toG ?_
      have fin : ∀ (h' : Heap) (u : Tok) (tk : Nat), (∀ b o, s.heap.get? b = some o → h'.get? b = some o) → EP X pins σ Q (.str (listText (PyData.shownAll ds)) u) { s with heap := h', toks := tk } :=
        fun h' u tk k => ⟨.str (listText (PyData.shownAll ds)), H, I.kept k, ⟨u, rfl⟩, q⟩
      cases its with
      | nil =>
        cases hr
        simp only [PyData.shownAll, listText_nil] at fin
        exact call_list_repr_empty ⟨o, ho, hc⟩ ho hd ⟨_, _, rfl, fin s.heap _ _ fun _ _ e => e⟩
      | cons x l =>
        exact call_list_reprK ho hc hd hna (by simpa using hk.length_eq) (fun i y e => hk.item i y (by simpa using e)) hg (fun b _ => Clear.nil b)
          (by show X.A.units + 1 + _ < cLine; omega) (fun _ _ e => e) (fun h' u tk k => ⟨_, _, rfl, fin h' u tk k⟩) hz'
end L2
namespace L2
open PySem PySem.Spec PyProof.Rows PySem.GX
/-- a def's promise where no repr is under way -/
structure FnG (P : Program) (w : World) (K : PySem.W.Frag) (mg : Str → Option Value) (base : Heap) (CX : CXT) (k : Nat) (f : Addr) (fd : FuncData) (ps : List Str) (sp : Sp) : Prop where
  len : ∀ vs H Q E, sp vs H Q E → vs.length = ps.length
  run : ∀ (A : Around) (outer : List Env) (s : Shared) (H : Hp) (args : Args) (us : List Value) (vs : List V) (Q : VK) (E : XK), A.guards = some [] → Room k A → Env0 P w K mg base A outer s H →
    BindsTo s fd args (ps.zip us) → Vals vs us → sp vs H Q E → codeAny (model P w) A (.call (.ref f) args) (CR CX outer P w H s Q E) s
section
variable {P : Program} {w : World} {K : PySem.W.Frag} {mg : Str → Option Value} {base : Heap} {CX : CXT}
theorem fnG_of {k : Nat} {f : Addr} {name qual : Str} {params : Arguments} {body : List Stmt} {scope : Scope} {dV kV doc pm cdv ct oc : Value} {an od : Option Addr}
    {osl : Array (Option Value)} {N ps : List Str} {sp : Sp} (lk : K.lookup f = some ⟨oc, od, .func (PySem.W.fnOf name qual params body scope dV kV doc pm an cdv ct), osl⟩)
    (hcd : PySem.W.codeIn K cdv qual = true) (S : FnScope N ps scope) (len : ∀ vs H Q E, sp vs H Q E → vs.length = ps.length)
    (hbody : ∀ (A : Around) (outer : List Env) (s : Shared) (H : Hp) (vs : List V) (Q : VK) (E : XK), A.guards = some [] → Room k (A.deeper (envOfC qual scope s.heap.objs.size f cdv)) → sp vs H Q E →
      ∃ t, PSs (cxOf CX P w K mg base N qual scope f cdv A outer s H E) body t ∧ t { nx := fun _ H' => Q .non H', rt := Q } (start N vs) H) :
    FnG P w K mg base CX (k + 1) f (PySem.W.fnOf name qual params body scope dV kV doc pm an cdv ct) ps sp := by
  refine ⟨len, fun A outer s H args us vs Q E hgd hr e0 hb r hsp => ?_⟩
  have hl := len _ _ _ _ hsp
  have KX : K.In s.heap := e0.mod.kin.keeps fun b o e => (e0.bs b o e).1
  have lim : s.heap.NoLimit := e0.mod.nolimit.keeps fun b o e => (e0.bs b o e).1
  have hkind : ∀ y ∈ ps.zip us, scope.names.lookup y.1 = some .local ∨
      (scope.names.lookup y.1 = some .cell ∧ ((cellsFrom (s.heap.objs.size + 1) scope.names []).lookup y.1).isSome = true) := fun ⟨n, v⟩ hy => by
    rcases S.par n (List.of_mem_zip hy).1 with q | q
    · exact .inl q
    · exact .inr ⟨q, PySem.W.cellsFrom_some _ _ _ (.inl q)⟩
  refine codeAny_call_function hr.depth (KX _ _ lk) rfl S.co S.gen rfl (PySem.W.codeRec_of KX hcd) (hb _ _ _ _ ?_)
  refine wpAny_newFunctionEnv_cells S.kind hkind fun env he s1 x => ?_
  subst he
  refine ⟨lim.keeps x.toInCall.keep, codeAny_func ?_⟩
  obtain ⟨t, ht, hq⟩ := hbody A outer s H vs Q E hgd (hr.deeper _) hsp
  have I : Inv (cxOf CX P w K mg base N qual scope f cdv A outer s H E) [] (start N vs) H s1 := inv_start S hr.hd e0 hl r x
  refine wpAny_mono (ht.run [] s1 (start N vs) H _ I hq) (fun fl s' hs => ?_) fun e s' hs => hs
  cases fl with
  | ret u =>
    obtain ⟨v, σ', H', J, rv, q⟩ := hs
    exact ⟨v, H', J.os, J.bare, J.base, J.hok, rv, q⟩
  | next =>
    obtain ⟨σ', H', J, q⟩ := hs
    exact ⟨V.non, H', J.os, J.bare, J.base, J.hok, rfl, q⟩
  | brk =>
    obtain ⟨_, _, _, q⟩ := hs
    exact False.elim q
  | cont =>
    obtain ⟨_, _, _, q⟩ := hs
    exact False.elim q
theorem Fun.okG {x qual : Str} {st : Stmt} {f : Addr} {fd : FuncData} {N ps : List Str} {k : Nat} {sp : Sp} (F : Fun K x qual st f fd) (S : FnScope N ps (defScope st)) (len : ∀ vs H Q E, sp vs H Q E → vs.length = ps.length)
    (hbody : ∀ (cdv : Value) (A : Around) (outer : List Env) (s : Shared) (H : Hp) (vs : List V) (Q : VK) (E : XK), A.guards = some [] → Room k (A.deeper (envOfC qual (defScope st) s.heap.objs.size f cdv)) → sp vs H Q E →
      ∃ t, PSs (cxOf CX0 P w K mg base N qual (defScope st) f cdv A outer s H E).nox (defBody st) t ∧ t { nx := fun _ H' => Q .non H', rt := Q } (start N vs) H) : FnG P w K mg base CX0 (k + 1) f fd ps sp := by
  obtain ⟨oc, od, kV, doc, pm, an, cdv, ct, osl, rfl, lk, hcd⟩ := F.ex
  refine fnG_of lk hcd S len fun A outer s H vs Q E hgd hr hsp => ?_
  obtain ⟨t, h, q⟩ := hbody cdv A outer s H vs Q E hgd hr hsp
  exact ⟨t, h.nox, q⟩
end
section
variable {X : Cx} {CX : CXT} {k : Nat} {f C : Addr} {fd : FuncData} {ps : List Str} {sp : Sp} {E : XK} {x : Str} {p pos : Pos} {e : Expr} {es : List Expr} {t : TA}
theorem pe_callG (F : FnG X.prog X.w X.K X.mg X.base CX k f fd ps sp) (hgd : X.A.guards = some []) (hr : Room k X.A) (hg : Gl X x) (hm : X.mg x = some (.ref f)) (hk : PySem.W.keepIn X.K (.ref f) = true) (hb : Binds X.K fd ps []) (hx : Passes CX X E)
    (ha : PA X (e :: es) t) (hdb : (x == ("__debug__" : Str)) = false := by decide) (he : starEach (e :: es) X.env = (false, eval e X.env) :: starEach es X.env := by rfl) (hpl : (backTo pos (starEach es X.env)).any (·.1) = false := by rfl) :
    PE X (.Call (.Name x p) (e :: es) [] pos) (tCall sp [] E t) := by
  refine ⟨fun pins s σ H Q I h => ?_⟩
  refine wpAny_Call_Name_kw (ld_glob I hg hm ?_ hdb)
  refine PySem.W.callWith_K (h₀ := X.base) I.ok.mod.kin hk (thn (ha.run pos pins s σ H _ I h) fun us s1 ⟨vs, H1, I1, r, q⟩ => ⟨I1.kIn, ?_⟩) he hpl
  have r2 : Vals (vs ++ []) (us ++ []) := r.append .nil
  have hl : (us ++ []).length = ps.length := by rw [← r2.length]; exact F.len _ _ _ _ q
  refine wpAny_call (codeAny_mono (F.run X.A X.stack s1 H1 ⟨us, []⟩ (us ++ []) (vs ++ []) Q E hgd hr I1.env0 (hb s1 us I1.kIn hl) r2 q) fun r s' hq => ?_)
  cases r with
  | error e => exact hx pins σ H1 s1 e s' I1 hq
  | ok fl =>
    cases fl with
    | ret u => exact I1.after hq
    | next => exact False.elim hq
    | brk => exact False.elim hq
    | cont => exact False.elim hq
end
end L2
namespace L2
open PySem PySem.Spec PyProof.Rows PySem.GX
/-! sets of texts that can be walked: ys are the members, none twice -/
def keyS (e : Int × Value) : Str := match e.2 with | .str k _ => k | _ => Str.empty
def GoodS (w : World) (e : Int × Value) : Prop := ∃ k tk, e.2 = Value.str k tk ∧ e.1 = hashStr w k
def SetT (w : World) (h : Heap) (a : Addr) (ys : List Str) : Prop :=
  ∃ o es ep t, h.get? a = some o ∧ o.ExactSet ∧ o.data = .set es ep t ∧ (∀ e ∈ es.toList, GoodS w e) ∧ (es.toList.map keyS).Perm ys ∧ ys.Nodup ∧
    es.size < scanBound ∧ t.fits es.size = true ∧ Ris t.place.toList ∧ (w.params.followText "set-order" = true ∨ t.led = true)
/-- one more member -/
def ins (ys : List Str) (k : Str) : List Str := if k ∈ ys then ys else k :: ys
theorem ins_nodup {ys : List Str} {k : Str} (h : ys.Nodup) : (ins ys k).Nodup := by
  unfold ins
  split
  · exact h
  · exact List.nodup_cons.mpr ⟨‹_›, h⟩
theorem ins_len (ys : List Str) (k : Str) : (ins ys k).length ≤ ys.length + 1 := by
  unfold ins
  split
  · omega
  · rw [List.length_cons]; omega
section
variable {P : Program} {w : World} {h h' : Heap} {a : Addr} {ys : List Str}
theorem SetT.at (R : SetT w h a ys) (k : ∀ o, h.get? a = some o → h'.get? a = some o) : SetT w h' a ys := by
  obtain ⟨o, es, ep, t, ho, r⟩ := R
  exact ⟨o, es, ep, t, k o ho, r⟩
theorem goodS_elems {l : List (Int × Value)} (g : ∀ e ∈ l, GoodS w e) : ElemsOf (strKind P w) l := fun e he => by
  obtain ⟨k, tk, h1, h2⟩ := g e he
  exact ⟨⟨k, by rw [h1]; exact strKind_is P w k tk, h2⟩, by rw [h1] <;> rfl⟩
theorem goodS_is {e : Int × Value} (g : GoodS w e) (k : Str) : (strKind P w).is k e.2 = true ↔ keyS e = k := by
  obtain ⟨k0, tk, h1, _⟩ := g
  unfold keyS
  rw [h1]
  constructor
  · intro z
    obtain ⟨t, e2⟩ := Value.isStrOf_shape (x := k) (v := .str k0 tk) z
    cases e2
    rfl
  · intro z
    have z' : k0 = k := z
    rw [z']
    exact strKind_is P w k tk
theorem goodS_mem {l : List (Int × Value)} (g : ∀ e ∈ l, GoodS w e) (k : Str) : k ∈ l.map keyS ↔ ∃ e ∈ l, (strKind P w).is k e.2 = true := by
  rw [List.mem_map]
  constructor
  · rintro ⟨e, he, q⟩
    exact ⟨e, he, (goodS_is (g e he) k).2 q⟩
  · rintro ⟨e, he, q⟩
    exact ⟨e, he, (goodS_is (g e he) k).1 q⟩
end
section
variable {P : Program} {w : World} {A : Around} {E : Value → Shared → Prop} {s : Shared} {a : Addr} {ys : List Str}
theorem setT_tail {g : Bool → Sem Unit} (hg : ∀ (b : Bool) (s₁ : Shared) (Q' : Unit → Shared → Prop), Q' () s₁ → wpAny (model P w) A (g b) Q' E s₁)
    {o : Obj} {es : Array (Int × Value)} {ep : Nat} {t : SetTable} (ho : s.heap.get? a = some o) (hex : o.ExactSet) (hd : o.data = .set es ep t)
    {es1 : Array (Int × Value)} {t2 : SetTable} {zs : List Str} (g1 : ∀ e ∈ es1.toList, GoodS w e) (p1 : (es1.toList.map keyS).Perm zs) (nd1 : zs.Nodup)
    (hb1 : es1.size < scanBound) (hf2 : t2.fits es1.size = true) (hr : Ris t2.place.toList) (hl : w.params.followText "set-order" = true ∨ t2.led = true) {wd : Bool} {R : Option Bool → Shared → Prop}
    (hR : ∀ h', Heap.SameBut a s.heap h' → SetT w h' a zs → R (some true) { s with heap := h' }) :
    wpAny (model P w) A (do
        storeSet a es1 t2
        if (!wd && t2.tooFull) = true then do
            g (relayAll t2 es1 (SetTable.grown es1.size)).2.2
            storeSet a (relayAll t2 es1 (SetTable.grown es1.size)).1 (relayAll t2 es1 (SetTable.grown es1.size)).2.1
            pure (some true)
          else pure (some true)) R E s := by
  refine wpAny_bind (wpAny_storeSet_of ho hd ?_ (fits_of_scanBound hb1))
  have ho1 := store_at (es' := es1) (t' := t2) ho hd
  have sb1 := Heap.SameBut.update s.heap a (Obj.putSet es1 t2)
  split
  · have c1 := relayAll_perm t2 es1 (SetTable.grown es1.size)
    have c2 := relayAll_fits t2 es1 (SetTable.grown es1.size)
    have c3 := relayAll_ris t2 es1 (SetTable.grown es1.size)
    have c4 := relayAll_led t2 es1 (SetTable.grown es1.size)
    generalize relayAll t2 es1 (SetTable.grown es1.size) = Z at c1 c2 c3 c4 ⊢
    obtain ⟨es2, t3, gv⟩ := Z
    dsimp only at c1 c2 c3 c4 ⊢
    have hsz : es2.size = es1.size := by
      rw [← Array.length_toList, c1.length_eq, Array.length_toList]
    have hb2 : es2.size < scanBound := by rw [hsz]; exact hb1
    refine wpAny_bind (hg _ _ _ ?_)
    refine wpAny_bind (wpAny_storeSet_of ho1 rfl ?_ (fits_of_scanBound hb2))
    have ho2 := store_at (es' := es2) (t' := t3) ho1 rfl
    refine wpAny_pure (hR _ (sb1.trans (Heap.SameBut.update _ a _)) ?_)
    exact ⟨_, es2, _, t3, ho2, hex, rfl, fun e he => g1 e (c1.mem_iff.mp he), (c1.map keyS).trans p1, nd1, hb2, c2, c3, hl.imp id fun z => by rw [c4]; exact z⟩
  · exact wpAny_pure (hR _ sb1 ⟨_, es1, _, t2, ho1, hex, rfl, g1, p1, nd1, hb1, hf2, hr, hl⟩)
theorem setT_add {k : Str} {tk : Tok} {Q : Bool → Shared → Prop} (R : SetT w s.heap a ys) (room : ys.length + 1 < scanBound)
    (hQ : ∀ (b : Bool) h', Heap.SameBut a s.heap h' → SetT w h' a (ins ys k) → Q b { s with heap := h' }) :
    wpAny (model P w) A (setAddHashed a (.str k tk) ((strKind P w).hash k)) Q E s := by
  obtain ⟨o, es, ep, t, ho, hex, hd, g, pm0, nd, hb, hf, hr, hl⟩ := R
  have hkey : (strKind P w).is k (.str k tk) = true := strKind_is P w k tk
  have hsc : (Value.str k tk).scannable = true := rfl
  have hel : ElemsOf (strKind P w) es.toList := goodS_elems g
  unfold setAddHashed setAddHashedIn
  refine wpAny_holding (wpAny_bind (wpAny_setState_of ho hd hf ?_))
  dsimp only
  rw [byScan_of hsc hb hel]
  simp only [↓reduceIte]
  unfold setAddByScan
  refine wpAny_bind ?_
  refine wpAny_bind (wpAny_rule ?_)
  refine wpAny_bind (wpAny_setScan_of hkey ho hd hf hel ?_)
  cases hfi : List.findIdx? (fun e => (strKind P w).is k e.2) es.toList with
  | some j =>
    dsimp only
    obtain ⟨hj, pj, _⟩ := List.findIdx?_eq_some_iff_getElem.mp hfi
    have hk : k ∈ ys := pm0.mem_iff.mp ((goodS_mem (P := P) (w := w) g k).2 ⟨es.toList[j], List.getElem_mem hj, pj⟩)
    refine wpAny_pure (wpAny_pure ?_)
    exact hQ _ s.heap (Heap.SameBut.refl a s.heap) ⟨o, es, ep, t, ho, hex, hd, g, by unfold ins; rw [if_pos hk]; exact pm0, ins_nodup nd, hb, hf, hr, hl⟩
  | none =>
    dsimp only
    have hnk : k ∉ ys := fun z => by
      obtain ⟨e, he, q⟩ := (goodS_mem (P := P) (w := w) g k).1 (pm0.mem_iff.mpr z)
      have c := List.findIdx?_eq_none_iff.mp hfi e he
      rw [q] at c
      cases c
    have hgw : ∀ (b : Bool) {s₁ : Shared} {Q' : Unit → Shared → Prop}, Q' () s₁ → wpAny (model P w) A (match b with | true => rule "set.scan.the-table-gave-way" | false => pure ()) Q' E s₁ :=
      fun b s₁ Q' q => by cases b <;> first | exact wpAny_pure q | exact wpAny_rule q
    have c1 := layNew_perm t es ((strKind P w).hash k) (.str k tk)
    have c2 := layNew_fits t es ((strKind P w).hash k) (.str k tk)
    have c3 := layNew_ris t es ((strKind P w).hash k) (.str k tk) hr
    have c4 := layNew_led t es ((strKind P w).hash k) (.str k tk)
    generalize layNew t es ((strKind P w).hash k) (.str k tk) = Z at c1 c2 c3 c4 ⊢
    obtain ⟨es1, t1, wasDummy, gave⟩ := Z
    dsimp only at c1 c2 c3 c4 ⊢
    rw [Array.toList_push] at c1
    have pc : es1.toList.Perm (((strKind P w).hash k, Value.str k tk) :: es.toList) := c1.trans (List.perm_append_singleton _ _)
    have pk : (es1.toList.map keyS).Perm (ins ys k) := by
      unfold ins
      rw [if_neg hnk]
      exact (pc.map keyS).trans (List.Perm.cons k pm0)
    have g1 : ∀ e ∈ es1.toList, GoodS w e := fun e he => by
      rcases List.mem_cons.mp (pc.mem_iff.mp he) with z | z
      · rw [z]; exact ⟨k, tk, rfl, rfl⟩
      · exact g e z
    have hsz : es1.size = ys.length + 1 := by
      rw [← Array.length_toList, pc.length_eq, List.length_cons, ← pm0.length_eq, List.length_map]
    have hb1 : es1.size < scanBound := by rw [hsz]; exact room
    have hled : w.params.followText "set-order" = true ∨ t1.led = true := hl.imp id fun z => by rw [c4]; exact z
    refine wpAny_bind (hgw _ ?_)
    split
    · refine wpAny_bind ?_
      rw [hashByValue_scannable 8 hsc]
      refine wpAny_pure ?_
      refine setT_tail ?_ ho hex hd g1 pk (ins_nodup nd) hb1 ?_ ?_ ?_ ?_
      · intro b s₁ Q' q; cases b <;> first | exact wpAny_pure q | exact wpAny_rule q
      · first | (split <;> first | exact c2 | exact SetTable.fits_plain_off c2) | exact c2
      · first | (split <;> exact c3) | exact c3
      · first | (split <;> exact hled) | exact hled
      · intro h' sb r; dsimp only; exact wpAny_pure (hQ _ h' sb r)
    · refine wpAny_bind (wpAny_pure ?_)
      simp only [↓reduceIte]
      refine setT_tail ?_ ho hex hd g1 pk (ins_nodup nd) hb1 c2 c3 hled ?_
      · intro b s₁ Q' q; cases b <;> first | exact wpAny_pure q | exact wpAny_rule q
      · intro h' sb r; dsimp only; exact wpAny_pure (hQ _ h' sb r)
end
end L2
namespace L2
open PySem PySem.Spec PyProof.Rows PySem.GX
def setFold (xs : List Str) : List Str := xs.foldl ins []
theorem setFold_snoc (xs : List Str) (x : Str) : setFold (xs ++ [x]) = ins (setFold xs) x := by
  unfold setFold
  rw [List.foldl_append]
  rfl
theorem setFold_len : ∀ (n : Nat) (xs : List Str), xs.length = n → (setFold xs).length ≤ n
  | 0, xs, h => by
    have := List.length_eq_zero_iff.mp h
    subst this
    exact Nat.le_refl 0
  | n + 1, xs, h => by
    obtain ⟨ys, y, rfl⟩ : ∃ ys y, xs = ys ++ [y] := ⟨xs.dropLast, xs.getLast (by intro z; rw [z] at h; cases h), (List.dropLast_concat_getLast _).symm⟩
    rw [List.length_append, List.length_singleton] at h
    have h1 := setFold_len n ys (by omega)
    have h2 := ins_len (setFold ys) y
    rw [setFold_snoc]
    omega
section
variable {prog : Program} {w : World} {A : Around} {R : Result → Shared → Prop} {I : Addr} {fp wr : List Addr} {G : Array GenState → Array GenState → Prop} {n : Nat} {Pv : Nat → Value → Prop} {St : Nat → Shared → Prop}
theorem loopT (W : WalksS prog w A.in1 I fp wr G n Pv St) (S : Addr) (hSf : S ∉ fp) (xs : List Str) (hsz : xs.length = n) (hn : n + 1 < scanBound)
    (hval : ∀ i v, Pv i v → ∃ x t, xs[i]? = some x ∧ v = .str x t) :
    ∀ (k i : Nat) (s : Shared), n - i = k → i ≤ n → St i s → SetT w s.heap S (setFold (xs.take i)) →
      (∀ s', Moved (S :: wr) G s s' → SetT w s'.heap S (setFold xs) → R (.ok (.ret .none)) s') →
      codeAny (model prog w) A (.builtin "set.update.loop" ⟨[.ref S, .ref I], []⟩) R s := by
  have hSw : S ∉ wr := fun h => hSf (W.sub _ h)
  have up : ∀ b ∈ wr, b ∈ S :: wr := fun b hb => List.mem_cons_of_mem _ hb
  intro k
  induction k with
  | zero =>
    intro i s hk hi hst hS hR
    have hin : i = n := by omega
    subst hin
    refine codeAny_builtin PyProof.Rows.F.entry_set_update_loop ?_
    rw [Around.under_plainId PyProof.Rows.F.plain_set_update_loop _]
    show wpAny _ A.in1 (pyNext (.ref I) >>= _) _ _ s
    refine wpAny_bind (W.done s _ _ hst fun s' hm => ?_)
    show wpAny _ A.in1 (ret Value.none) _ _ s'
    rw [List.take_of_length_le (by omega)] at hS
    exact wpAny_pure (hR s' (hm.mono up) (hS.at fun o e => hm.heap S _ hSw e))
  | succ k ih =>
    intro i s hk hi hst hS hR
    have hlt : i < n := by omega
    refine codeAny_builtin PyProof.Rows.F.entry_set_update_loop ?_
    rw [Around.under_plainId PyProof.Rows.F.plain_set_update_loop _]
    show wpAny _ A.in1 (pyNext (.ref I) >>= _) _ _ s
    refine wpAny_bind (W.item i s _ _ hlt hst fun v s' hP hst' hm => ?_)
    obtain ⟨x, t, hx, rfl⟩ := hval i v hP
    have hS1 : SetT w s'.heap S (setFold (xs.take i)) := hS.at fun o e => hm.heap S _ hSw e
    show wpAny _ A.in1 (holding [Value.str x t] (setAdd S (.str x t)) >>= _) _ _ s'
    refine wpAny_bind (wpAny_holding ?_)
    unfold setAdd
    refine wpAny_holding ?_
    refine wpAny_bind ((PySem.strKind prog w).pyHash (k := x) (strKind_is _ _ _ _) ?_)
    have lf := setFold_len i (xs.take i) (by rw [List.length_take]; omega)
    refine setT_add (s := { s' with toks := s'.toks + 1 }) hS1 (by omega) fun b h' hsb hS2 => ?_
    have e1 : xs.take (i + 1) = xs.take i ++ [x] := by
      rw [List.take_succ, hx]
      rfl
    have hS3 : SetT w h' S (setFold (xs.take (i + 1))) := by
      rw [e1, setFold_snoc]
      exact hS2
    refine wpAny_pure ⟨plainId_quiet PyProof.Rows.F.plain_set_update_loop _, ih (i + 1) _ (by omega) hlt (W.frame _ s' _ _ hst' (Nat.le_succ _) fun b hb o e => ?_) hS3 fun s'' hm'' hS'' => ?_⟩
    · rw [hsb.2 b (fun h : b = S => hSf (by rw [← h]; exact hb))]
      exact e
    · refine hR s'' (Moved.trans W.gtrans ((hm.mono up).then_heap (Nat.le_succ _) fun b o hb e => ?_) hm'') hS''
      rw [hsb.2 b (fun h : b = S => hb (by rw [h]; exact List.mem_cons_self))]
      exact e
end
section
variable {prog : Program} {w : World} {A : Around} {E : Value → Shared → Prop} {s : Shared}
abbrev newSet (w : World) : Obj := { cls := .type "set", dict := none, data := .set #[] 0 (.fresh 0 0 (!w.params.followText "set-order")) }
theorem setT_fresh {h : Heap} (w : World) : SetT w (h.push (newSet w)) h.objs.size [] :=
  ⟨_, #[], 0, _, Heap.get?_push_size _ rfl, ⟨rfl, rfl, rfl⟩, rfl, (fun e he => by simp at he), List.Perm.refl _, List.nodup_nil, (by decide), (by rfl), List.Pairwise.nil, by
    show _ ∨ (!w.params.followText "set-order") = true
    cases w.params.followText "set-order"
    · exact .inr rfl
    · exact .inl rfl⟩
theorem code_setNew (a : Value) {Q1 : Value → Shared → Prop} (h : Q1 (.ref s.heap.objs.size) { s with heap := s.heap.push (newSet w) }) :
    codeAny (model prog w) A (.call (.builtin "set.__new__") ⟨[.type "set", a], []⟩) (wants Q1 E) s := by
  refine codeAny_of_tree ?_
  show wpAny _ A.in1 (do checkBuiltinCall "set.__new__" ⟨[.type "set", a], []⟩; again (.builtin "set.__new__" ⟨[.type "set", a], []⟩)) _ _ s
  refine wpAny_bind (wpAny_of_eq (F.newCall_set_1 a) (wpAny_pure ⟨plainId_quiet F.plain_set_new _, codeAny_builtin F.entry_set_new ?_⟩))
  rw [Around.under_plainId F.plain_set_new _]
  unfold Builtin.«set.__new__» Builtin.Frozenset.newClass
  have hsub := sub_set_self
  obtain ⟨hp, g, d, tk, os⟩ := s
  dsimp only
  wp_walk
  refine wpAny_askSetting (wpAny_pure ?_)
  dsimp only
  simp only [newObj]
  refine wpAny_bind (wpAny_alloc (wpAny_pure ?_))
  exact wpAny_pure h
theorem sub_str_set : isSubtype (.type "str") (.type "set") = pure false := by
  rw [isSubtype_type]; kernel_rfl
theorem sub_str_frozenset : isSubtype (.type "str") (.type "frozenset") = pure false := by
  rw [isSubtype_type]; kernel_rfl
/-- set(x): the new set, then the iterable's items (hinit: what set.__init__ does) -/
theorem call_set1 {v : Value} {ys : List Str} {Q : Value → Shared → Prop}
    (hinit : ∀ (R : Result → Shared → Prop), (∀ h' tk, SetT w h' s.heap.objs.size ys → (∀ b o, b < s.heap.objs.size → s.heap.get? b = some o → h'.get? b = some o) → R (.ok (.ret .none)) { s with heap := h', toks := tk }) →
      wpAny (model prog w) A.in1.in1 (Builtin.«set.__init__» ⟨[.ref s.heap.objs.size, v], []⟩) (fun fin s' => match fin with | .done f => R (.ok f) s' | .again c => c.quiet = true ∧ codeAny (model prog w) A.in1 c R s')
        (fun e s' => R (.error e) s') { s with heap := s.heap.push (newSet w) })
    (h : ∀ (h' : Heap) (tk : Nat), SetT w h' s.heap.objs.size ys → (∀ b o, b < s.heap.objs.size → s.heap.get? b = some o → h'.get? b = some o) → Q (.ref s.heap.objs.size) { s with heap := h', toks := tk }) :
    wpAny (model prog w) A (call (.type "set") [v]) Q E s := by
  obtain ⟨c, tl, hmro⟩ := PySem.F.called_set.mro
  have z1 := PySem.F.called_set.made
  have z2 := PySem.F.called_set.sub
  refine wpAny_call (codeAny_of_tree ?_)
  show wpAny _ _ (callAny (.type "set") _) _ _ _
  refine wpAny_pure ⟨Code.quiet_builtin _ (by decide +kernel), codeAny_builtin PySem.F.entry_type_call ?_⟩
  rw [Around.under_plain (weight_type_call_type "set" [v] []) rfl]
  have z3 := PySem.F.called_set.notType
  have z4 := PySem.F.called_set.canCreate
  have z5 := F.typeCall_set_1 v
  repeat (any_goals (first | assumption | wp_step))
  refine codeAny_mono (code_setNew v (E := E) (Q1 := fun obj s₁ => obj = .ref s.heap.objs.size ∧ s₁ = { s with heap := s.heap.push (newSet w) }) ⟨rfl, rfl⟩) fun r s₁ hr => ?_
  cases r with
  | error e => exact hr
  | ok fl =>
    cases fl with
    | ret obj =>
      obtain ⟨rfl, rfl⟩ := hr
      have hS : (s.heap.push (newSet w)).get? s.heap.objs.size = some (newSet w) := Heap.get?_push_size _ rfl
      have hT : Shared.TypeIs { s with heap := s.heap.push (newSet w) } (.ref s.heap.objs.size) "set" := ⟨_, hS, rfl⟩
      have z6 := PySem.F.called_set.init.lookup
      have z7 := PySem.F.called_set.init.bind (.ref s.heap.objs.size)
      repeat (any_goals (first | assumption | wp_step))
      refine codeAny_mono (codeAny_call_builtin (R := wants (fun r s₂ => r = .none ∧ ∃ h' tk, s₂ = { s with heap := h', toks := tk } ∧ SetT w h' s.heap.objs.size ys ∧ (∀ b o, b < s.heap.objs.size → s.heap.get? b = some o → h'.get? b = some o)) E)
        PySem.F.called_set.init.plain PySem.F.entry_set_init (check_set_init_1 hT ?_)) fun r₂ s₂ hr₂ => ?_
      · refine hinit (wants (fun r s₂ => r = .none ∧ ∃ h' tk, s₂ = { s with heap := h', toks := tk } ∧ SetT w h' s.heap.objs.size ys ∧ (∀ b o, b < s.heap.objs.size → s.heap.get? b = some o → h'.get? b = some o)) E) ?_
        exact fun h' tk a1 a2 => ⟨rfl, h', tk, rfl, a1, a2⟩
      · cases r₂ with
        | error e => exact hr₂
        | ok fl₂ =>
          cases fl₂ with
          | ret r =>
            obtain ⟨rfl, h', tk, rfl, b1, b2⟩ := hr₂
            repeat (any_goals (first | assumption | wp_step))
            exact h _ _ b1 b2
          | _ => exact hr₂.elim
    | _ => exact hr.elim
end
end L2
namespace L2
open PySem PySem.Spec PyProof.Rows PySem.GX
section
variable {prog : Program} {w : World} {A : Around} {E : Value → Shared → Prop} {s : Shared}
theorem init_str {x : Str} {t : Tok} (hh : A.handled = none) (hz : x.length + 1 < scanBound) (R : Result → Shared → Prop)
    (hR : ∀ h' tk, SetT w h' s.heap.objs.size (setFold (x.cps.toList.map fun c => ⟨#[c]⟩)) → (∀ b o, b < s.heap.objs.size → s.heap.get? b = some o → h'.get? b = some o) → R (.ok (.ret .none)) { s with heap := h', toks := tk }) :
    wpAny (model prog w) A.in1.in1 (Builtin.«set.__init__» ⟨[.ref s.heap.objs.size, .str x t], []⟩) (fun fin s' => match fin with | .done f => R (.ok f) s' | .again c => c.quiet = true ∧ codeAny (model prog w) A.in1 c R s')
      (fun e s' => R (.error e) s') { s with heap := s.heap.push (newSet w) } := by
  have hS : (s.heap.push (newSet w)).get? s.heap.objs.size = some (newSet w) := Heap.get?_push_size _ rfl
  have y1 := sub_str_set
  have y2 := sub_str_frozenset
  have y3 : (Value.type "str" == Value.type "dict") = false := by decide
  have hT0 : Shared.TypeIs { s with heap := s.heap.push (newSet w) } (.str x t) "str" := typeIs_str _ _ _
  unfold Builtin.«set.__init__» noKeywords Builtin.Frozenset.updateFrom
  generalize hPI : pyIter = PI
  wp_walk
  subst hPI
  refine wpAny_pyIter_str (s := { s with heap := s.heap.push (newSet w) }) (fun o St W hst => ?_)
  refine wpAny_bind (wpAny_runValue ?_)
  have z1 : (s.heap.push (newSet w)).objs.size = s.heap.objs.size + 1 := Heap.size_push _ _
  have hSf : s.heap.objs.size ∉ [(s.heap.push (newSet w)).objs.size] := by
    rw [z1]
    simp only [List.mem_singleton]
    omega
  have hsz : (x.cps.toList.map fun c => (⟨#[c]⟩ : Str)).length = x.cps.size := by
    rw [List.length_map, Array.length_toList]
  refine loopT ((W A.in1.in1.in1 (by simp [hh])).toS) s.heap.objs.size hSf (x.cps.toList.map fun c => ⟨#[c]⟩) hsz hz (fun i v hv => ?_) (x.cps.size - 0) 0 _ (by omega) (Nat.zero_le _) hst ?_ ?_
  · obtain ⟨c, u, hc, rfl⟩ := hv
    exact ⟨_, u, by rw [List.getElem?_map, Array.getElem?_toList, hc]; rfl, rfl⟩
  · exact (setT_fresh w).at fun u e => Heap.get?_push_of_some _ e
  · intro s' hm hS'
    obtain ⟨h', g', d', tk', os'⟩ := s'
    have eg : g' = s.gens := hm.gens
    have ed : d' = s.drawn := hm.drawn
    have eo : os' = s.os := hm.os
    subst eg; subst ed; subst eo
    show wpAny _ _ _ _ _ _
    refine wpAny_pure ?_
    show wpAny _ _ (ret Value.none) _ _ _
    refine wpAny_pure (hR h' tk' hS' fun b u hb e => ?_)
    refine hm.heap b u (fun hmem => ?_) (Heap.get?_push_of_some _ (Heap.get?_push_of_some _ e))
    rcases List.mem_cons.mp hmem with q | q
    · exact absurd (q ▸ hb) (Nat.lt_irrefl _)
    · have q2 := List.mem_singleton.mp q
      rw [z1] at q2
      exact absurd (Nat.lt_succ_of_lt (q2 ▸ hb)) (Nat.lt_irrefl _)
theorem init_list {l : Addr} {items : Array Value} {xs : List Str} (hh : A.handled = none) (hl : s.heap.IsList l items) (hi : PyProof.Rows.StrsAre items.toList xs) (hz : xs.length + 1 < scanBound) (R : Result → Shared → Prop)
    (hR : ∀ h' tk, SetT w h' s.heap.objs.size (setFold xs) → (∀ b o, b < s.heap.objs.size → s.heap.get? b = some o → h'.get? b = some o) → R (.ok (.ret .none)) { s with heap := h', toks := tk }) :
    wpAny (model prog w) A.in1.in1 (Builtin.«set.__init__» ⟨[.ref s.heap.objs.size, .ref l], []⟩) (fun fin s' => match fin with | .done f => R (.ok f) s' | .again c => c.quiet = true ∧ codeAny (model prog w) A.in1 c R s')
      (fun e s' => R (.error e) s') { s with heap := s.heap.push (newSet w) } := by
  have hS : (s.heap.push (newSet w)).get? s.heap.objs.size = some (newSet w) := Heap.get?_push_size _ rfl
  obtain ⟨ol, hol, hcl, nl, hdl⟩ := hl
  obtain ⟨ocls, odict, odata, oslots⟩ := ol
  simp only at hcl hdl
  subst hcl; subst hdl
  have hol1 : (s.heap.push (newSet w)).get? l = some { cls := .type "list", dict := odict, data := .seq items nl, slots := oslots } := Heap.get?_push_of_some _ hol
  have y1 := F.sub_list_set
  have y2 := F.sub_list_frozenset
  have y3 : (Value.type "list" == Value.type "dict") = false := by decide
  have hl1 : (s.heap.push (newSet w)).IsList l items := ⟨_, hol1, rfl, nl, rfl⟩
  unfold Builtin.«set.__init__» noKeywords Builtin.Frozenset.updateFrom
  generalize hPI : pyIter = PI
  wp_walk
  subst hPI
  refine wpAny_pyIter_list hl1 ?_
  refine wpAny_bind (wpAny_runValue ?_)
  have z1 : (s.heap.push (newSet w)).objs.size = s.heap.objs.size + 1 := Heap.size_push _ _
  have hlS : l < s.heap.objs.size := Heap.lt_size hol
  have hneI : l ≠ (s.heap.push (newSet w)).objs.size := by
    rw [z1]; exact Nat.ne_of_lt (Nat.lt_succ_of_lt hlS)
  have hSf : s.heap.objs.size ∉ [(s.heap.push (newSet w)).objs.size, l] := by
    rw [z1]
    simp only [List.mem_cons, List.mem_singleton, List.not_mem_nil, or_false, not_or]
    exact ⟨Nat.ne_of_lt (Nat.lt_succ_self _), Nat.ne_of_gt hlS⟩
  have hsz : xs.length = items.size := by
    rw [← StrsAre.len_eq hi, Array.length_toList]
  have hval : ∀ (i : Nat) (v : Value), items[i]? = some v → ∃ x t, xs[i]? = some x ∧ v = .str x t := fun i v hv => by
    have hlt : i < items.size := (Array.getElem?_eq_some_iff.mp hv).1
    obtain ⟨t, e⟩ := SS.strs_at hi i v (by rw [Array.getElem?_toList]; exact hv)
    have hx : xs[i]? = some (xs.getD i Str.empty) := by
      rw [List.getD_eq_getElem?_getD, List.getElem?_eq_getElem (by omega)]
      rfl
    exact ⟨_, t, hx, e⟩
  refine loopT ((Walks.list (A := A.in1.in1.in1) (by simp [hh]) _ l hneI items).toS) s.heap.objs.size hSf xs hsz (by omega) hval (items.size - 0) 0 _ (by omega) (Nat.zero_le _) ⟨⟨_, Heap.get?_push_size _ rfl, rfl, rfl⟩, (hl1.push _)⟩ ?_ ?_
  · exact (setT_fresh w).at fun u e => Heap.get?_push_of_some _ e
  · intro s' hm hS'
    obtain ⟨h', g', d', tk', os'⟩ := s'
    have eg : g' = s.gens := hm.gens
    have ed : d' = s.drawn := hm.drawn
    have eo : os' = s.os := hm.os
    subst eg; subst ed; subst eo
    show wpAny _ _ _ _ _ _
    refine wpAny_pure ?_
    show wpAny _ _ (ret Value.none) _ _ _
    refine wpAny_pure (hR h' tk' hS' fun b u hb e => ?_)
    refine hm.heap b u (fun hmem => ?_) (Heap.get?_push_of_some _ (Heap.get?_push_of_some _ e))
    rcases List.mem_cons.mp hmem with q | q
    · exact absurd (q ▸ hb) (Nat.lt_irrefl _)
    · have q2 := List.mem_singleton.mp q
      rw [z1] at q2
      exact absurd (Nat.lt_succ_of_lt (q2 ▸ hb)) (Nat.lt_irrefl _)
end
end L2
namespace L2
open PySem PySem.Spec PyProof.Rows PySem.GX
/-- the signs of a text, each as a text -/
def signsOf (x : Str) : List Str := x.cps.toList.map fun c => ⟨#[c]⟩
/-- the set of texts at a, its members ys -/
def SetTx (w : World) (a : Addr) (ys : List Str) : HO := .ext fun h => SetT w h a ys
theorem setTx_new {w : World} {P : Program} {H : Hp} {h : Heap} {a : Addr} {ys : List Str} (R : SetT w h a ys) : ObjOk P w H h a (SetTx w a ys) := by
  have ⟨o, _, _, _, ho, _⟩ := R
  exact ⟨R, ⟨o, ho⟩, fun h1 h2 p k => p.at k⟩
theorem strs_list : ∀ {l : List Value}, (∀ v ∈ l, ∃ k tk, v = Value.str k tk) → ∃ ss, StrsAre l ss ∧ ss = l.map (fun v => keyS (0, v))
  | [], _ => ⟨[], .nil, rfl⟩
  | v :: l, h => by
    obtain ⟨k, tk, rfl⟩ := h v List.mem_cons_self
    obtain ⟨ss, a, b⟩ := strs_list (l := l) fun u hu => h u (List.mem_cons_of_mem _ hu)
    exact ⟨k :: ss, .cons k tk a, by rw [b]; rfl⟩
section
variable {P : Program} {w : World} {A : Around} {E : Value → Shared → Prop} {s : Shared} {a : Addr} {ys : List Str}
theorem sorted_setT {Q : Value → Shared → Prop} (R : SetT w s.heap a ys) (hh : A.handled = none)
    (hQ : ∀ s' p (out : Array Value) (c : Nat) (zs : List Str), (∀ b o, s.heap.get? b = some o → s'.heap.get? b = some o) → s'.gens = s.gens → s'.os = s.os → s.heap.objs.size ≤ p →
      s'.heap.get? p = some (seqObj "list" out c) → StrsAre out.toList zs → zs.Perm ys → sortedS zs = true → Q (.ref p) s') :
    wpAny (model P w) A (call (.builtin "sorted") [.ref a]) Q E s := by
  obtain ⟨o, es, ep, t, ho, hex, hd, g, pm0, nd, hb, hf, hr, hl⟩ := R
  refine Calls.call_function_entry kind_sorted plain_sorted entry_sorted (args_sorted1 _) ?_
  unfold Builtin.«sorted»
  refine wpAny_bind (m := checkCount "sorted" 1 1 _) (wpAny_pure ?_)
  refine wpAny_bind (collect_set (A := A.in1) hh ⟨o, ho, hex.1, hd⟩ hf hb hr hl fun s1 vs k1 hz g1 o1 pm => ?_)
  have hvl : vs.length = es.size := by
    rw [pm.length_eq, List.length_map, Array.length_toList]
  obtain ⟨ss, hS, hss⟩ := strs_list (l := vs) fun v hv => by
    obtain ⟨e, he, q⟩ := List.mem_map.mp (pm.mem_iff.mp hv)
    obtain ⟨k, tk, h1, _⟩ := g e he
    exact ⟨k, tk, by rw [← q]; exact h1⟩
  have ps : ss.Perm ys := by
    have q := pm.map (fun v => keyS (0, v))
    rw [List.map_map, ← hss] at q
    exact q.trans pm0
  have small : vs.length ≤ sizeLine := by
    rw [hvl]
    exact fits_of_scanBound hb
  refine wpAny_bind (wpAny_newList ?_ small)
  have hoL : (s1.heap.push (seqObj "list" vs.toArray 0)).get? s1.heap.objs.size = some (seqObj "list" vs.toArray 0) := Heap.get?_push_size _ rfl
  refine wpAny_bind (wpAny_holding (wpAny_call_entry slot_list_sort ⟨_, hoL, rfl⟩ entry_list_sort
    (list_sort_treeKAny PyProof.Rows.strKind_oneLt hoL hS.keysOf (fun v₁ v₂ rest e => keyKind_strs (by rw [← e]; exact hS)) small fun st' a1 a2 => ⟨_, rfl, ?_⟩) (args_list_sort _)))
  obtain ⟨zs, h1, h2, h3⟩ := sorted_out_str hS a1 a2
  obtain ⟨c, hc⟩ := sortedHeap_at (vs := vs) (out := (arrOf st').map (·.2)) hoL
  refine wpAny_pure ⟨_, rfl, hQ _ s1.heap.objs.size _ c zs (fun b u e => ?_) g1 o1 hz hc h1 (h2.trans ps) h3⟩
  have q := k1 b u e
  have hlt := Heap.lt_size q
  show (sortedHeap (s1.heap.push (seqObj "list" vs.toArray 0)) s1.heap.objs.size vs _).get? b = some u
  rw [sortedHeap_old (Nat.ne_of_lt hlt) (by rw [size_push']; exact Nat.lt_succ_of_lt hlt)]
  exact Heap.get?_push_of_some _ q
end
section
variable {X : Cx}
/-- set(text) -/
def rSetS (w : World) : List V → Hp → VK → Prop := fun xs H Q => ∃ x : Str, xs = [.str x] ∧ x.length < 4000 ∧ ∀ p, H p = none → Q (.ref p) (upd H p (SetTx w p (setFold (signsOf x))))
theorem cr_setS (hc : X.calm = true) : CallR X (.type "set") (rSetS X.w) := by
  intro pins s σ H xs us Q I r h
  obtain ⟨x, rfl, hz, q⟩ := h
  obtain ⟨u, rfl, t, rfl⟩ := vals1 r
  refine call_set1 (ys := setFold (signsOf x)) (fun R hR => init_str (I.ok.hd hc) (by unfold scanBound; omega) R hR) fun h' tk hS k => ?_
  exact ⟨.ref _, upd H s.heap.objs.size (SetTx X.w s.heap.objs.size (setFold (signsOf x))), I.laid (t' := tk) (fun b u e => k b u (Heap.lt_size e) e) (Nat.le_refl _) (setTx_new hS), rfl, q _ (I.hok.fresh (Nat.le_refl _))⟩
/-- set(list of texts) -/
def rSetTxL (K : PySem.W.Frag) (w : World) : List V → Hp → VK → Prop := fun vs H Q => ∃ (l : Addr) (xs : List Str), vs = [.ref l] ∧ SqL K H l (xs.map V.str) ∧ xs.length < 4000 ∧ ∀ p, H p = none → Q (.ref p) (upd H p (SetTx w p (setFold xs)))
theorem cr_setL (hc : X.calm = true) : CallR X (.type "set") (rSetTxL X.K X.w) := by
  intro pins s σ H vs us Q I r h
  obtain ⟨l, xs, rfl, hq, hz, q⟩ := h
  obtain ⟨its, rv, pl, _⟩ := I.list hq
  rw [Vals.ref1 r]
  refine call_set1 (ys := setFold xs) (fun R hR => init_list (I.ok.hd hc) pl.isList (by simpa using strsAre_of rv) (by unfold scanBound; omega) R hR) fun h' tk hS k => ?_
  exact ⟨.ref _, upd H s.heap.objs.size (SetTx X.w s.heap.objs.size (setFold xs)), I.laid (t' := tk) (fun b u e => k b u (Heap.lt_size e) e) (Nat.le_refl _) (setTx_new hS), rfl, q _ (I.hok.fresh (Nat.le_refl _))⟩
/-- len(set of texts) -/
def rLenSet (w : World) : List V → Hp → VK → Prop := fun vs H Q => ∃ (a : Addr) (ys : List Str), vs = [.ref a] ∧ H a = some (SetTx w a ys) ∧ Q (.int ys.length) H
theorem cr_lenSet : CallR X (.builtin "len") (rLenSet X.w) := by
  intro pins s σ H vs us Q I r h
  obtain ⟨a, ys, rfl, ha, q⟩ := h
  rw [Vals.ref1 r]
  obtain ⟨o, es, ep, t, ho, hex, hd, g, pm0, nd, hb, hf, hr, hl⟩ := (I.hok a _ ha).1
  have hn : es.size = ys.length := by
    rw [← pm0.length_eq, List.length_map, Array.length_toList]
  refine call_len_set ho hex hd hf (by unfold scanBound at hb; omega) ⟨.int ys.length, H, I.tok _, ⟨_, by rw [hn]⟩, q⟩
/-- sorted(set of texts) -/
def rSortedTx (w : World) : List V → Hp → VK → Prop := fun vs H Q => ∃ (a : Addr) (ys : List Str), vs = [.ref a] ∧ H a = some (SetTx w a ys) ∧
  ∀ (zs : List Str) (p : Addr), zs.Perm ys → sortedS zs = true → H p = none → Q (.ref p) (upd H p (.lst (zs.map V.str)))
theorem cr_sortedTx (hc : X.calm = true) : CallR X (.builtin "sorted") (rSortedTx X.w) := by
  intro pins s σ H vs us Q I r h
  obtain ⟨a, ys, rfl, ha, q⟩ := h
  rw [Vals.ref1 r]
  have R : SetT X.w s.heap a ys := (I.hok a _ ha).1
  have small : ys.length ≤ sizeLine := by
    obtain ⟨o, es, ep, t, ho, hex, hd, g, pm0, nd, hb, _⟩ := R
    rw [← pm0.length_eq, List.length_map, Array.length_toList]
    exact fits_of_scanBound hb
  refine sorted_setT R (I.ok.hd hc) fun s' p out c zs k g1 o1 hp he hS pm so => ?_
  obtain ⟨h', g', d', tk', os'⟩ := s'
  have hlen : (zs.map V.str).length ≤ sizeLine := by
    rw [List.length_map, pm.length_eq]; exact small
  have J : Inv X pins σ (upd H p (.lst (zs.map V.str))) ⟨h', g', d', tk', os'⟩ := by
    have hn := I.hok.fresh hp
    have u : Un (frs X.stack) [] H (upd H p (.lst (zs.map V.str))) s.heap h' := Un.laid k hp hn
    refine I.call' (ch := []) o1 u ?_ ?_ (fun b z => absurd z (by simp))
    · exact I.hok.laid k hp ⟨hlen, out.toList, c, vals_of_strs hS, he⟩
    · have e : g' = s.gens := g1
      rw [e]; exact I.bare
  exact ⟨.ref p, _, J, rfl, q zs p pm so (I.hok.fresh hp)⟩
end
end L2
namespace L2
open PySem PySem.Spec PyProof.Rows PySem.GX
/-! a dict comprehension whose keys are tuples of ints and texts -/
section
variable {X : Cx} {pl : List (Addr × Obj)} {σ : St} {H : Hp} {s : Shared} {D t : Addr} {kvs : List (List Key × V)} {k : List Key} {v : V}
/-- the store of one turn -/
theorem dictSet_tup {Er : Value → Shared → Prop} {kv vv : Value} {Q : Unit → Shared → Prop} (room : X.A.units < cLine) (I : Inv X pl σ H s) (eD : H D = some (.dT kvs)) (et : H t = some (.tup (k.map kV))) (few : kvs.length < sizeLine)
    (rk : RelV (.ref t) kv) (rv : RelV v vv) (go : ∀ s', Inv X pl σ (upd H D (.dT (putK kvs k v))) s' → Q () s') : wpAny (model X.prog X.w) X.A (dictSet D kv vv) Q Er s := by
  have ekv : kv = Value.ref t := rk
  subst ekv
  obtain ⟨len0, nosys, xs, rel, dict⟩ := dt_of I.hok eD
  have len1 : xs.length ≤ sizeLine := by
    rw [← Paired.length rel]
    exact len0
  have len2 : (putK kvs k v).length ≤ sizeLine := by
    have grows := length_putK kvs k v
    omega
  have hroom : (tupleKind (mixKind X.prog X.w)).room X.A := room
  refine wpAny_dictSet_heap (hsz := len1) hroom (key_of I.hok et) dict fun h' dict' same => go _ ?_
  obtain ⟨o, es, ep, ho, c1, c2, c3, _, c4⟩ := dict'
  refine d_write I (by rw [eD]; trivial) same ⟨o, ho⟩ ⟨len2, nosys, _, (rel.put k et rv).keeps fun c ys ec => ?_, o, es, ep, ho, c1, c2, c3, c4⟩
  rw [upd_ne (ne_of ec eD (fun z => nomatch z))]
  exact ec
end
/-- {(..): v for target in iter if ..}: D is the new dict -/
def tDcT (wi : TI) (g : TG) (tt : TT) (tk tv : TE) (vs : List Nat) : TE := fun σ H Q => wi σ H fun J H1 => ∀ D, H1 D = none → ∃ W : Nat → Nat → Hp → Prop, (∃ m, W 0 m (upd H1 D (.dT []))) ∧ ∀ i m H, W i m H →
  (J.stop i H ∧ Q (.ref D) H) ∨ (J.go i H ∧ ∃ On : Hp → Prop, (∀ H', On H' → ∃ m', m' < m ∧ W (i + 1) m' H') ∧ ∀ x H', J.yld i H x H' → g x (wipe σ vs) H' fun σ2 H2 => wipe σ2 vs = wipe σ vs ∧ tt σ2 H2 fun b H3 =>
    if b = true then tk σ2 H3 fun y H4 => tv σ2 H4 fun z H5 => ∃ kvs k t, y = .ref t ∧ H5 t = some (.tup (k.map kV)) ∧ H5 D = some (.dT kvs) ∧ kvs.length < sizeLine ∧ On (upd H5 D (.dT (putK kvs k z))) else On H3)
section
variable {X : Cx} {kx vx tg iter : Expr} {ifs : List Expr} {scope : Scope} {own : List (Str × Nat)} {pos : Pos} {wi : TI} {g : TG} {tt : TT} {tk tv : TE}
theorem pe_dcT (hr : X.A.units + 64 < cLine) (calm : X.calm = true) (hN : X.N.Nodup) (hi : PI X tg iter wi) (ok : BlkOk X.N X.env.scope scope own)
    (hg : ∀ (s : Shared) (H : Hp) (C : Addr) (cl : List (Str × Addr)) (fp : List Addr), PG (X.blk s H scope (compEnvC scope cl C X.env) fp) tg g)
    (ht : ∀ (s : Shared) (H : Hp) (C : Addr) (cl : List (Str × Addr)) (fp : List Addr), PTs (X.blk s H scope (compEnvC scope cl C X.env) fp) ifs tt)
    (hk : ∀ (s : Shared) (H : Hp) (C : Addr) (cl : List (Str × Addr)) (fp : List Addr), PE (X.blk s H scope (compEnvC scope cl C X.env) fp) kx tk)
    (hv : ∀ (s : Shared) (H : Hp) (C : Addr) (cl : List (Str × Addr)) (fp : List Addr), PE (X.blk s H scope (compEnvC scope cl C X.env) fp) vx tv)
    (hs : ∀ x, foldedSetIterable iter X.env x = pure x := by intro _; rfl) :
    PE X (.DictComp kx vx [⟨tg, iter, ifs, 0⟩] scope pos) (tDcT wi g tt tk tv (own.map (·.2))) := by
  refine ⟨fun pl s σ H Q I h => ?_⟩
  rw [arm_eval_DictComp]
  have frees : ∀ y ∈ scope.names, y.2 = .free → ∃ c, X.env.cells.lookup y.1 = some c := fun y hy e => by
    rcases ok.free y hy e with k | k
    · exact I.ok.has _ (.inl k)
    · exact I.ok.has _ (.inr k)
  refine wpAny_comprehension_free rfl hs (closure_ok frees) ok.kind (fun y hy e => by rw [ok.uniq y hy, e]) (thn (hi.run pl s σ H _ I h) fun _ sa ha => thn ha fun _ sb hb => ?_)
  obtain ⟨it, fp, tn, J, Hb, rfl, Ib, T, tb, okb, want⟩ := hb
  refine wpAny_newObj_type (newEnv_comp ?_)
  -- the new dict
  generalize eD : sb.heap.objs.size = D
  have freeD : Hb D = none := Ib.hok.fresh (Nat.le_of_eq eD)
  obtain ⟨W, ⟨m0, begins⟩, turn⟩ := want D freeD
  generalize esc : ({ sb with heap := sb.heap.push { cls := .type "dict", data := .dict #[] } } : Shared) = sc
  have hsc : sc.heap = sb.heap.push { cls := .type "dict", data := .dict #[] } := by rw [← esc]
  have Ic : Inv X pl σ (upd Hb D (.dT [])) sc := by
    rw [← esc]
    refine Ib.laid (t' := sb.toks) (fun b o e => Heap.get?_push_of_some _ e) (Nat.le_of_eq eD) ?_
    rw [← eD]
    exact dt_empty sb.heap Ib.big
  have old : ∀ b ∈ fp, b < sb.heap.objs.size := fun b hb => by
    obtain ⟨o, e, _⟩ := T.obj _ _ tb b hb
    exact Heap.lt_size e
  have okc : ∀ b ∈ fp, FpOk X pl (upd Hb D (.dT [])) b ∧ b < sc.heap.objs.size := fun b hb => by
    have lt := old b hb
    refine ⟨⟨?_, (okb b hb).2⟩, ?_⟩
    · rw [upd_ne (by rw [← eD]; exact Nat.ne_of_lt lt)]
      exact (okb b hb).1
    · rw [hsc, Heap.size_push]
      exact Nat.lt_succ_of_lt lt
  have tc : tn 0 sc.heap := T.keep _ _ _ tb fun b _ o e => by
    rw [hsc]
    exact Heap.get?_push_of_some _ e
  -- the block
  have Id := block_start Ic ok hN okc
  have g1 := hg sc (upd Hb D (.dT [])) sc.heap.objs.size (cellsFrom (sc.heap.objs.size + 1) scope.names (cloFrom X.env.cells scope.names [])) fp
  have g2 := ht sc (upd Hb D (.dT [])) sc.heap.objs.size (cellsFrom (sc.heap.objs.size + 1) scope.names (cloFrom X.env.cells scope.names [])) fp
  have g3 := hk sc (upd Hb D (.dT [])) sc.heap.objs.size (cellsFrom (sc.heap.objs.size + 1) scope.names (cloFrom X.env.cells scope.names [])) fp
  have g4 := hv sc (upd Hb D (.dT [])) sc.heap.objs.size (cellsFrom (sc.heap.objs.size + 1) scope.names (cloFrom X.env.cells scope.names [])) fp
  show codeAny _ _ (.compStart (.DictComp kx vx [⟨tg, iter, ifs, 0⟩] scope pos) 0 (.ref it) (.ref D) (compEnvC scope (cellsFrom (sc.heap.objs.size + 1) scope.names (cloFrom X.env.cells scope.names [])) sc.heap.objs.size X.env)) _
    { sc with heap := pushCells (sc.heap.push { cls := .type "dict", data := .dict #[] }) scope.names }
  have hid : ∀ b ∈ fp, (upd Hb D (.dT [])) b = none := fun b hb => (okc b hb).1.1
  generalize eenv : compEnvC scope (cellsFrom (sc.heap.objs.size + 1) scope.names (cloFrom X.env.cells scope.names [])) sc.heap.objs.size X.env = env at Id g1 g2 g3 g4 ⊢
  have eloc : env.locals = sc.heap.objs.size := by subst eenv; rfl
  generalize eHc : upd Hb D (.dT []) = Hc at Ic Id g1 g2 g3 g4 begins hid okc
  generalize esd : ({ sc with heap := pushCells (sc.heap.push { cls := .type "dict", data := .dict #[] }) scope.names } : Shared) = sd at Id ⊢
  have td : tn 0 sd.heap := T.keep _ _ _ tc fun b _ o e => by
    rw [← esd]
    exact pushCells_keeps _ _ _ _ (Heap.get?_push_of_some _ e)
  have fpOk : ∀ {σ' : St} {H' : Hp} {s' : Shared}, Inv (X.blk sc Hc scope env fp) [] σ' H' s' → (∀ b ∈ fp, H' b = none) → ∀ b ∈ fp, FpOk (X.blk sc Hc scope env fp) [] H' b := fun {σ' H' s'} I' free b hb => by
    refine ⟨free b hb, (I'.ok.exf b hb).1, I'.ok.exfs b hb, .inl hb, fun x c e => (I'.ok.exf b hb).2 x c e, fun p hp => ?_⟩
    exact absurd (show p ∈ ([] : List (Addr × Obj)) ++ [] from hp) (by simp)
  refine codeAny_compStart_dict ?lp (T.self X.A 0 _ _ _ td ?lp)
  refine compLoop_anyD (fun n s' => ∃ i H', Inv (X.blk sc Hc scope env fp) [] (wipe σ (own.map (·.2))) H' s' ∧ tn i s'.heap ∧ (∀ b ∈ fp, H' b = none) ∧ W i n H') ?_ m0 ⟨0, Hc, Id, td, hid, begins⟩
  rintro n se ⟨i, He, Ie, te, free, at_⟩
  rcases turn i n He at_ with ⟨stop, wish⟩ | ⟨goes, On, next, step⟩
  · refine thnF (T.done (X.blk sc Hc scope env fp) rfl rfl rfl calm i [] se _ He (fun _ _ => False) Ie (fpOk Ie free) te stop) fun r sf ⟨hr, If⟩ => ?_
    subst hr
    have back : Inv X pl σ He sf := Ic.call' (ch := fp) If.os If.base If.hok If.bare fun b hb => ⟨(okc b hb).1.2.2.2.1, (okc b hb).1.2.1, (okc b hb).1.2.2.2.2.1, (okc b hb).1.2.2.2.2.2⟩
    have noC : He sc.heap.objs.size = none := by
      have z : He env.locals = none := If.free
      rw [eloc] at z
      exact z
    obtain ⟨m, hn, _⟩ := If.loc
    have hn' : sf.heap.Ns env.locals m := hn
    rw [eloc] at hn'
    obtain ⟨f0, f1, f2, f3, f4, f5⟩ := Ic.fpOk (Nat.le_refl _) noC
    exact ⟨m, hn', fun h'' sb' => ⟨.ref D, He, back.turned (t' := sf.toks) (fun b o hb e => (sb'.2 b hb).trans e) f0 f1 f3 f4 f5, rfl, wish⟩⟩
  · refine thnF (T.item (X.blk sc Hc scope env fp) rfl rfl rfl calm i [] se _ He (fun _ _ => False) Ie (fpOk Ie free) te goes) fun r sf ⟨u, hr, hf⟩ => ?_
    subst hr
    refine thnF hf fun _ sg ⟨x, Hg, Ig, rg, yg, tg', freeg⟩ => ?_
    have pinned := Ig.pinned (fpOk Ig freeg) (T.obj _ _ tg')
    refine thnF (g1.run _ sg _ Hg x u _ pinned rg (step x Hg yg)) fun _ sh ⟨σh, Hh, Ih, wh, qh⟩ => ?_
    refine thnF (g2.run _ sh σh Hh _ Ih qh) fun b si ⟨Hi, Ii, qi⟩ => ?_
    have ends : ∀ {s' : Shared} {H' : Hp}, Inv (X.blk sc Hc scope env fp) ([] ++ pinsAt fp sg.heap) σh H' s' → On H' →
        ∃ m, m < n ∧ ∃ i H', Inv (X.blk sc Hc scope env fp) [] (wipe σ (own.map (·.2))) H' s' ∧ tn i s'.heap ∧ (∀ b ∈ fp, H' b = none) ∧ W i m H' := fun {s' H'} I' on => by
      obtain ⟨m', lt, at'⟩ := next H' on
      have kept : ∀ b ∈ fp, ∀ o, sg.heap.get? b = some o → s'.heap.get? b = some o ∧ H' b = none := fun b hb o e => by
        have z := I'.pin (b, o) (List.mem_append_right _ (List.mem_append_right _ (mem_pinsAt hb e)))
        exact ⟨z.1, z.2.1⟩
      have len : (wipe σ (own.map (·.2))).length = σh.length := by
        rw [← wh, wipe_length]
      refine ⟨m', lt, i + 1, H', (I'.unpinned (pins := [])).weak len (fun j y e => ?_), T.keep _ _ _ tg' fun b hb o e => (kept b hb o e).1, fun b hb => ?_, at'⟩
      · rw [← wh] at e
        exact (wipe_some e).1
      · obtain ⟨o, e, _⟩ := T.obj _ _ tg' b hb
        exact (kept b hb o e).2
    cases b with
    | false =>
      simp only [Bool.false_eq_true, if_false] at qi ⊢
      exact ends Ii qi
    | true =>
      simp only [if_true] at qi ⊢
      refine thnF (g3.run _ si σh Hi _ Ii qi) fun _ sj ⟨yk, Hj, Ij, rj, qj⟩ => ?_
      refine thnF (g4.run _ sj σh Hj _ Ij qj) fun _ sk ⟨yv, Hk, Ik, rk, kvs, k, t, ek, et, eDk, few, on⟩ => ?_
      subst ek
      exact dictSet_tup (X := X.blk sc Hc scope env fp) (by show X.A.units < cLine; omega) Ik eDk et few rj rk fun _ Il => ends Il on
end
end L2
namespace L2
open PySem PySem.Spec PyProof.Rows PySem.GX
theorem same_new {H : Hp} {p : Addr} {o : HO} (h : H p = none) : Same H (upd H p o) := fun b u e => by
  rw [upd_ne (ne_of_none e h)]
  exact e
theorem keep1 {H : Hp} {q t : Addr} {o u : HO} (e : H t = some u) (h : H q = none) : upd H q o t = some u := by
  rw [upd_ne (ne_of_none e h)]
  exact e
section
variable {J : It} {n : Nat} {G : Hp → Prop} {Y : Nat → Hp → V → Hp → Prop} {g : TG} {tt : TT} {te : TE} {vs : List Nat} {σ : St} {H1 : Hp} {D : Addr} {Qd : Hp → Prop}
theorem same_del {H H' : Hp} {p : Addr} (s : Same H H') : Same (del H p) (del H' p) := fun b o e => by
  by_cases hb : b = p
  · rw [hb, del_same] at e; cases e
  · rw [del_ne hb] at e ⊢
    exact s b o e
theorem del_upd (H : Hp) (p : Addr) (o : HO) : del (upd H p o) p = del H p := by
  funext b
  by_cases hb : b = p
  · rw [hb, del_same, del_same]
  · rw [del_ne hb, del_ne hb, upd_ne hb]
theorem del_none {H : Hp} {p : Addr} (h : H p = none) : del H p = H := by
  funext b
  by_cases hb : b = p
  · rw [hb, del_same, h]
  · rw [del_ne hb]
/-- what the turn asks of the new list -/
def lcK (I : List V → Hp → Prop) (H1 : Hp) (D : Addr) (Nx : Hp → Prop) (ys : List V) : Option V → Hp → Prop
  | some y, H4 => ∃ acc, H4 D = some (.lst acc) ∧ acc.length < sizeLine ∧ Nx (upd H4 D (.lst (acc ++ [y])))
  | none, H4 => Nx H4
/-- [e for x in .. if t]: I says of the items so far and of the other objects what stays true -/
theorem lcR (w : Walk J n G Y) (I : Nat → List V → Hp → Prop) (st : ∀ i ys H H', Same H H' → I i ys H → I i ys H') (i0 : I 0 [] H1) (hz : n ≤ 16000000) (hD : H1 D = none) (hY : ∀ i H x H', Y i H x H' → Same H H') (hG : ∀ H', Same H1 H' → G H')
    (turn : ∀ (i : Nat) (x : V) (ys : List V) (H' H'' : Hp) (k : Option V → Hp → Prop), i < n → Same H1 H' → H' D = some (.lst ys) → I i ys (del H' D) → Y i H' x H'' → (∀ y H4, Same H'' H4 → I (i + 1) (ys ++ [y]) (del H4 D) → k (some y) H4) →
      (∀ H4, Same H'' H4 → I (i + 1) ys (del H4 D) → k none H4) → g x (wipe σ vs) H'' fun σ2 H2 => wipe σ2 vs = wipe σ vs ∧ tt σ2 H2 fun b H3 => if b = true then te σ2 H3 fun y H4 => k (some y) H4 else k none H3)
    (hd : ∀ ys H', ys.length ≤ n → Same H1 H' → H' D = some (.lst ys) → I n ys (del H' D) → Qd H') :
    ∃ W : Nat → Nat → Hp → Prop, (∃ m, W 0 m (upd H1 D (.lst []))) ∧ ∀ i m H, W i m H →
      (J.stop i H ∧ Qd H) ∨ (J.go i H ∧ ∃ Nx : Hp → Prop, (∀ H', Nx H' → ∃ m', m' < m ∧ W (i + 1) m' H') ∧ ∀ x H', J.yld i H x H' → g x (wipe σ vs) H' fun σ2 H2 => wipe σ2 vs = wipe σ vs ∧ tt σ2 H2 fun b H3 =>
        if b = true then te σ2 H3 fun y H4 => ∃ acc, H4 D = some (.lst acc) ∧ acc.length < sizeLine ∧ Nx (upd H4 D (.lst (acc ++ [y]))) else Nx H3) := by
  refine lc_it w (fun i H' => ∃ ys : List V, ys.length ≤ i ∧ Same H1 H' ∧ H' D = some (.lst ys) ∧ I i ys (del H' D)) ⟨[], Nat.le_refl _, same_new hD, upd_same, by rw [del_upd, del_none hD]; exact i0⟩ (fun i H' _ ⟨_, _, s, _⟩ => hG H' s) (fun i x H' H'' hi h hy => ?_) (fun H' ⟨ys, l, s, e, h⟩ => hd ys H' l s e h)
  obtain ⟨ys, l, s, e, h⟩ := h
  have sy := hY _ _ _ _ hy
  refine turn i x ys H' H'' (lcK (I i) H1 D _ ys) hi s e h hy (fun y H4 s4 h4 => ?_) (fun H4 s4 h4 => ?_)
  · have e4 := s4 _ _ (sy _ _ e)
    refine ⟨_, e4, by rw [sizeLine_eq]; omega, _, ?_, fun b o z => ?_, upd_same, by rw [del_upd]; exact h4⟩
    · rw [List.length_append]; simp; omega
    · rw [upd_ne (ne_of_none z hD)]
      exact s4 _ _ (sy _ _ (s b o z))
  · exact ⟨ys, by omega, (s.trans sy).trans s4, s4 _ _ (sy _ _ e), h4⟩
/-- [e for x in .. if t]: the i-th item is taken (as f i says) or not; what was tracked stays -/
theorem lcS (w : Walk J n G Y) (f : Nat → Option V) (hz : n ≤ 16000000) (hD : H1 D = none) (hY : ∀ i H x H', Y i H x H' → Same H H') (hG : ∀ H', Same H1 H' → G H')
    (turn : ∀ (i : Nat) (x : V) (H' H'' : Hp) (k : Option V → Hp → Prop), i < n → Same H1 H' → Y i H' x H'' → (∀ H4, Same H'' H4 → k (f i) H4) →
      g x (wipe σ vs) H'' fun σ2 H2 => wipe σ2 vs = wipe σ vs ∧ tt σ2 H2 fun b H3 => if b = true then te σ2 H3 fun y H4 => k (some y) H4 else k none H3)
    (hd : ∀ H', Same H1 H' → H' D = some (.lst ((List.range n).filterMap f)) → Qd H') :
    ∃ W : Nat → Nat → Hp → Prop, (∃ m, W 0 m (upd H1 D (.lst []))) ∧ ∀ i m H, W i m H →
      (J.stop i H ∧ Qd H) ∨ (J.go i H ∧ ∃ Nx : Hp → Prop, (∀ H', Nx H' → ∃ m', m' < m ∧ W (i + 1) m' H') ∧ ∀ x H', J.yld i H x H' → g x (wipe σ vs) H' fun σ2 H2 => wipe σ2 vs = wipe σ vs ∧ tt σ2 H2 fun b H3 =>
        if b = true then te σ2 H3 fun y H4 => ∃ acc, H4 D = some (.lst acc) ∧ acc.length < sizeLine ∧ Nx (upd H4 D (.lst (acc ++ [y]))) else Nx H3) := by
  refine lcR w (fun i ys _ => ys = (List.range i).filterMap f) (fun _ _ _ _ _ h => h) rfl hz hD hY hG (fun i x ys H' H'' k hi s e h hy k1 k2 => ?_) (fun ys H' _ s e h => hd H' s (by rw [e, h]))
  refine turn i x H' H'' k hi s hy fun H4 s4 => ?_
  cases ef : f i with
  | some y =>
    refine k1 y H4 s4 ?_
    rw [h, List.range_succ, List.filterMap_append]
    simp [ef]
  | none =>
    refine k2 H4 s4 ?_
    rw [h, List.range_succ, List.filterMap_append]
    simp [ef]
end
section
variable {X : Cx} {o : Expr} {to : TE} {f : Str} {pos : Pos}
/-- the target o.f of an own instance -/
def gFld (K : PySem.W.Frag) (to : TE) (f : Str) : TG := fun v σ H Q => to σ H fun x H1 => ∃ (p C dx : Addr) (fs : List (Str × V)), x = .ref p ∧ H1 p = some (.ins C dx fs) ∧ Cls K C ∧ NoAttr K C f ∧ fs.length < 1000 ∧ Q σ (upd H1 p (.ins C dx (putF f v fs)))
theorem pg_fld (ho : PE X o to) : PG X (.Attribute o f pos) (gFld X.K to f) := by
  refine ⟨fun pl s σ H v u Q I r h => ?_⟩
  rw [arm_assign_Attribute]
  refine wpAny_bind (wpAny_holding (thn (ho.run pl s σ H _ I h) fun ov s1 ⟨x, H1, I1, r1, p, C, dx, fs, ex, ep, c, n, l, q⟩ => ?_))
  subst ex
  obtain rfl : ov = Value.ref p := r1
  refine wpAny_bind (wpAny_standAt (wpAny_bind (wpAny_holding (setattr_ok I1 ep c n l r fun s3 I3 => ?_))))
  exact wpAny_release ⟨σ, _, I3, q⟩
end
end L2
namespace L2
open PySem PySem.Spec PyProof.Rows PySem.GX
theorem range_fm {α β : Type} (g : α → Option β) : ∀ xs : List α, (List.range xs.length).filterMap (fun i => xs[i]?.bind g) = xs.filterMap g := by
  intro xs
  have e : (List.range xs.length).filterMap (fun i => xs[i]?) = xs := by
    induction xs with
    | nil => rfl
    | cons a t ih =>
      rw [List.length_cons, List.range_succ_eq_map, List.filterMap_cons, List.filterMap_map]
      simp only [List.getElem?_cons_zero]
      congr 1
  conv => rhs; rw [← e, List.filterMap_filterMap]
section
variable {α : Type} {J : It} {G : Hp → Prop} {Y : Nat → Hp → V → Hp → Prop} {g : TG} {tt : TT} {te tk tv : TE} {vs : List Nat} {σ : St} {H1 : Hp} {D : Addr} {Qd : Hp → Prop}
/-- [e for x in .. if t] over things that stand for the items of xs -/
theorem lcG (xs : List α) (f : α → Option V) (w : Walk J xs.length G Y) (hz : xs.length ≤ 16000000) (hD : H1 D = none) (hY : ∀ i H x H', Y i H x H' → Same H H') (hG : ∀ H', Same H1 H' → G H')
    (turn : ∀ (i : Nat) (a : α) (x : V) (H' H'' : Hp) (k : Option V → Hp → Prop), xs[i]? = some a → Same H1 H' → Y i H' x H'' → (∀ H4, Same H'' H4 → k (f a) H4) →
      g x (wipe σ vs) H'' fun σ2 H2 => wipe σ2 vs = wipe σ vs ∧ tt σ2 H2 fun b H3 => if b = true then te σ2 H3 fun y H4 => k (some y) H4 else k none H3)
    (hd : ∀ H', Same H1 H' → H' D = some (.lst (xs.filterMap f)) → Qd H') :
    ∃ W : Nat → Nat → Hp → Prop, (∃ m, W 0 m (upd H1 D (.lst []))) ∧ ∀ i m H, W i m H →
      (J.stop i H ∧ Qd H) ∨ (J.go i H ∧ ∃ Nx : Hp → Prop, (∀ H', Nx H' → ∃ m', m' < m ∧ W (i + 1) m' H') ∧ ∀ x H', J.yld i H x H' → g x (wipe σ vs) H' fun σ2 H2 => wipe σ2 vs = wipe σ vs ∧ tt σ2 H2 fun b H3 =>
        if b = true then te σ2 H3 fun y H4 => ∃ acc, H4 D = some (.lst acc) ∧ acc.length < sizeLine ∧ Nx (upd H4 D (.lst (acc ++ [y]))) else Nx H3) := by
  refine lcS w (fun i => xs[i]?.bind f) hz hD hY hG (fun i x H' H'' k hi s hy k1 => ?_) (fun H' s e => hd H' s (by rw [e, range_fm]))
  have ei : xs[i]? = some xs[i] := List.getElem?_eq_getElem hi
  refine turn i xs[i] x H' H'' k ei s hy fun H4 s4 => ?_
  have := k1 H4 s4
  rw [ei] at this
  exact this
/-- the generic walk of a dict comprehension, of either sort -/
theorem dc_it {n : Nat} (w : Walk J n G Y) {nx : Nat → Hp → Prop} {body : Nat → V → Hp → (Hp → Prop) → Prop} (h0 : nx 0 H1) (hG : ∀ i H, i ≤ n → nx i H → G H)
    (hs : ∀ i x H H', i < n → nx i H → Y i H x H' → body i x H' (nx (i + 1))) (hd : ∀ H, nx n H → Qd H) :
    ∃ W : Nat → Nat → Hp → Prop, (∃ m, W 0 m H1) ∧ ∀ i m H, W i m H →
      (J.stop i H ∧ Qd H) ∨ (J.go i H ∧ ∃ Nx : Hp → Prop, (∀ H', Nx H' → ∃ m', m' < m ∧ W (i + 1) m' H') ∧ ∀ x H', J.yld i H x H' → body i x H' Nx) := by
  refine ⟨fun i m H => m = n - i ∧ i ≤ n ∧ nx i H, ⟨n, by simp, Nat.zero_le _, h0⟩, ?_⟩
  rintro i m H ⟨rfl, hi, p⟩
  have q := hG i H hi p
  by_cases hlt : i < n
  · exact .inr ⟨w.goes i H hlt q, nx (i + 1), fun H' p' => ⟨n - (i + 1), by omega, rfl, hlt, p'⟩, fun x H' y => hs i x H H' hlt p (w.yields i H x H' hlt q y)⟩
  · have e : i = n := by omega
    subst e
    exact .inl ⟨w.stops H q, hd H p⟩
end
section
variable {α κ : Type} [DecidableEq κ]
/-- the entries of {key a: val a for a in xs} -/
def dOf (key : α → κ) (val : α → V) (xs : List α) : List (κ × V) := xs.foldl (fun kvs a => putK kvs (key a) (val a)) []
theorem dOf_snoc (key : α → κ) (val : α → V) (xs : List α) (a : α) : dOf key val (xs ++ [a]) = putK (dOf key val xs) (key a) (val a) := by
  unfold dOf
  rw [List.foldl_append]
  rfl
theorem dOf_take {key : α → κ} {val : α → V} {xs : List α} {i : Nat} {a : α} (h : xs[i]? = some a) : dOf key val (xs.take (i + 1)) = putK (dOf key val (xs.take i)) (key a) (val a) := by
  rw [List.take_add_one, h]
  exact dOf_snoc _ _ _ _
theorem dOf_len (key : α → κ) (val : α → V) (xs : List α) : (dOf key val xs).length ≤ xs.length := by
  suffices h : ∀ (ys : List α) (kvs : List (κ × V)), (ys.foldl (fun kvs a => putK kvs (key a) (val a)) kvs).length ≤ kvs.length + ys.length by
    have := h xs []
    simpa [dOf] using this
  intro ys
  induction ys with
  | nil => intro kvs; simp
  | cons a t ih =>
    intro kvs
    have h1 := ih (putK kvs (key a) (val a))
    have h2 := length_putK kvs (key a) (val a)
    rw [List.foldl_cons, List.length_cons]
    omega
theorem dOf_val (key : α → κ) (val : α → V) : ∀ (xs : List α) (k : κ), (valV (dOf key val xs) k).isSome = decide (k ∈ xs.map key) := by
  suffices h : ∀ (n : Nat) (xs : List α) (k : κ), xs.length = n → (valV (dOf key val xs) k).isSome = decide (k ∈ xs.map key) from fun xs k => h _ xs k rfl
  intro n
  induction n with
  | zero =>
    intro xs k h
    have : xs = [] := List.eq_nil_of_length_eq_zero h
    subst this
    rfl
  | succ n ih =>
    intro xs k h
    have hne : xs ≠ [] := by intro z; subst z; cases h
    obtain ⟨ys, a, rfl⟩ : ∃ ys a, xs = ys ++ [a] := ⟨xs.dropLast, xs.getLast hne, (List.dropLast_concat_getLast hne).symm⟩
    have hl : ys.length = n := by rw [List.length_append] at h; simpa using h
    rw [dOf_snoc, valV_put]
    by_cases e : k = key a
    · rw [if_pos e, e]; simp
    · rw [if_neg e, ih ys k hl, List.map_append]
      simp [e]
/-- keys that differ: the entries stand as they come -/
theorem dOf_nodup (key : α → κ) (val : α → V) : ∀ (xs : List α), (xs.map key).Nodup → dOf key val xs = xs.map fun a => (key a, val a) := by
  suffices h : ∀ (n : Nat) (xs : List α), xs.length = n → (xs.map key).Nodup → dOf key val xs = xs.map fun a => (key a, val a) from fun xs => h _ xs rfl
  intro n
  induction n with
  | zero =>
    intro xs h _
    have : xs = [] := List.eq_nil_of_length_eq_zero h
    subst this
    rfl
  | succ n ih =>
    intro xs h nd
    have hne : xs ≠ [] := by intro z; subst z; cases h
    obtain ⟨ys, a, rfl⟩ : ∃ ys a, xs = ys ++ [a] := ⟨xs.dropLast, xs.getLast hne, (List.dropLast_concat_getLast hne).symm⟩
    have hl : ys.length = n := by rw [List.length_append] at h; simpa using h
    rw [List.map_append, List.nodup_append] at nd
    have hn : valV (dOf key val ys) (key a) = none := by
      have := dOf_val key val ys (key a)
      rw [decide_eq_false (fun z => nd.2.2 _ z (key a) (by simp) rfl)] at this
      exact Option.isNone_iff_eq_none.mp (by simpa using this)
    rw [dOf_snoc, putK_new _ hn, ih ys hl nd.1, List.map_append]
    rfl
end
section
variable {α : Type} {J : It} {G : Hp → Prop} {Y : Nat → Hp → V → Hp → Prop} {g : TG} {tt : TT} {tk tv : TE} {vs : List Nat} {σ : St} {H1 : Hp} {D : Addr} {Qd : Hp → Prop}
/-- {k: v for x in ..}, keys ints or texts -/
theorem dcG (xs : List α) (key : α → Key) (val : α → V) (w : Walk J xs.length G Y) (hz : xs.length ≤ 16000000) (hD : H1 D = none) (hY : ∀ i H x H', Y i H x H' → Same H H') (hG : ∀ H', Same H1 H' → G H')
    (turn : ∀ (i : Nat) (a : α) (x : V) (H' H'' : Hp) (k : V → V → Hp → Prop) (k0 : Hp → Prop), xs[i]? = some a → Same H1 H' → Y i H' x H'' → (∀ H4, Same H'' H4 → k (kV (key a)) (val a) H4) →
      g x (wipe σ vs) H'' fun σ2 H2 => wipe σ2 vs = wipe σ vs ∧ tt σ2 H2 fun b H3 => if b = true then tk σ2 H3 fun y H4 => tv σ2 H4 fun z H5 => k y z H5 else k0 H3)
    (hd : ∀ H', Same H1 H' → H' D = some (.dK (dOf key val xs)) → Qd H') :
    ∃ W : Nat → Nat → Hp → Prop, (∃ m, W 0 m (upd H1 D (.dK []))) ∧ ∀ i m H, W i m H →
      (J.stop i H ∧ Qd H) ∨ (J.go i H ∧ ∃ Nx : Hp → Prop, (∀ H', Nx H' → ∃ m', m' < m ∧ W (i + 1) m' H') ∧ ∀ x H', J.yld i H x H' → g x (wipe σ vs) H' fun σ2 H2 => wipe σ2 vs = wipe σ vs ∧ tt σ2 H2 fun b H3 =>
        if b = true then tk σ2 H3 fun y H4 => tv σ2 H4 fun z H5 => ∃ kvs k, y = kV k ∧ H5 D = some (.dK kvs) ∧ kvs.length < sizeLine ∧ Nx (upd H5 D (.dK (putK kvs k z))) else Nx H3) := by
  refine dc_it w (nx := fun i H' => Same H1 H' ∧ H' D = some (.dK (dOf key val (xs.take i)))) (body := fun i x H' Nx => g x (wipe σ vs) H' fun σ2 H2 => wipe σ2 vs = wipe σ vs ∧ tt σ2 H2 fun b H3 =>
        if b = true then tk σ2 H3 fun y H4 => tv σ2 H4 fun z H5 => ∃ kvs k, y = kV k ∧ H5 D = some (.dK kvs) ∧ kvs.length < sizeLine ∧ Nx (upd H5 D (.dK (putK kvs k z))) else Nx H3)
    ⟨same_new hD, upd_same⟩ (fun i H _ h => hG H h.1) (fun i x H H' hi h hy => ?_) (fun H h => hd H h.1 (by rw [h.2, List.take_length]))
  have ei : xs[i]? = some xs[i] := List.getElem?_eq_getElem hi
  have sy := hY _ _ _ _ hy
  refine turn i xs[i] x H H' (fun y z H5 => ∃ kvs k, y = kV k ∧ H5 D = some (.dK kvs) ∧ kvs.length < sizeLine ∧ _) _ ei h.1 hy fun H4 s4 => ⟨_, _, rfl, s4 _ _ (sy _ _ h.2), ?_, fun b o z => ?_, ?_⟩
  · have := dOf_len key val (xs.take i)
    rw [List.length_take] at this
    rw [sizeLine_eq]
    omega
  · rw [upd_ne (ne_of_none z hD)]
    exact s4 _ _ (sy _ _ (h.1 b o z))
  · rw [upd_same, dOf_take ei]
/-- {(..): v for x in ..}, keys tuples -/
theorem dcGT (xs : List α) (key : α → List Key) (val : α → V) (w : Walk J xs.length G Y) (hz : xs.length ≤ 16000000) (hD : H1 D = none) (hY : ∀ i H x H', Y i H x H' → Same H H') (hG : ∀ H', Same H1 H' → G H')
    (turn : ∀ (i : Nat) (a : α) (x : V) (H' H'' : Hp) (k : V → V → Hp → Prop) (k0 : Hp → Prop), xs[i]? = some a → Same H1 H' → Y i H' x H'' → (∀ t H4, Same H'' H4 → H4 t = some (.tup ((key a).map kV)) → k (.ref t) (val a) H4) →
      g x (wipe σ vs) H'' fun σ2 H2 => wipe σ2 vs = wipe σ vs ∧ tt σ2 H2 fun b H3 => if b = true then tk σ2 H3 fun y H4 => tv σ2 H4 fun z H5 => k y z H5 else k0 H3)
    (hd : ∀ H', Same H1 H' → H' D = some (.dT (dOf key val xs)) → Qd H') :
    ∃ W : Nat → Nat → Hp → Prop, (∃ m, W 0 m (upd H1 D (.dT []))) ∧ ∀ i m H, W i m H →
      (J.stop i H ∧ Qd H) ∨ (J.go i H ∧ ∃ Nx : Hp → Prop, (∀ H', Nx H' → ∃ m', m' < m ∧ W (i + 1) m' H') ∧ ∀ x H', J.yld i H x H' → g x (wipe σ vs) H' fun σ2 H2 => wipe σ2 vs = wipe σ vs ∧ tt σ2 H2 fun b H3 =>
        if b = true then tk σ2 H3 fun y H4 => tv σ2 H4 fun z H5 => ∃ kvs k t, y = .ref t ∧ H5 t = some (.tup (k.map kV)) ∧ H5 D = some (.dT kvs) ∧ kvs.length < sizeLine ∧ Nx (upd H5 D (.dT (putK kvs k z))) else Nx H3) := by
  refine dc_it w (nx := fun i H' => Same H1 H' ∧ H' D = some (.dT (dOf key val (xs.take i)))) (body := fun i x H' Nx => g x (wipe σ vs) H' fun σ2 H2 => wipe σ2 vs = wipe σ vs ∧ tt σ2 H2 fun b H3 =>
        if b = true then tk σ2 H3 fun y H4 => tv σ2 H4 fun z H5 => ∃ kvs k t, y = .ref t ∧ H5 t = some (.tup (k.map kV)) ∧ H5 D = some (.dT kvs) ∧ kvs.length < sizeLine ∧ Nx (upd H5 D (.dT (putK kvs k z))) else Nx H3)
    ⟨same_new hD, upd_same⟩ (fun i H _ h => hG H h.1) (fun i x H H' hi h hy => ?_) (fun H h => hd H h.1 (by rw [h.2, List.take_length]))
  have ei : xs[i]? = some xs[i] := List.getElem?_eq_getElem hi
  have sy := hY _ _ _ _ hy
  refine turn i xs[i] x H H' (fun y z H5 => ∃ (kvs : List (List Key × V)) (k : List Key) (t : Addr), y = .ref t ∧ H5 t = some (.tup (k.map kV)) ∧ H5 D = some (.dT kvs) ∧ kvs.length < sizeLine ∧ _) _ ei h.1 hy fun t H4 s4 et => ⟨_, _, t, rfl, et, s4 _ _ (sy _ _ h.2), ?_, fun b o z => ?_, ?_⟩
  · have := dOf_len key val (xs.take i)
    rw [List.length_take] at this
    rw [sizeLine_eq]
    omega
  · rw [upd_ne (ne_of_none z hD)]
    exact s4 _ _ (sy _ _ (h.1 b o z))
  · rw [upd_same, dOf_take ei]
end
/-! lists of texts, lists of lists of texts, as data -/
abbrev dTx (ws : List Str) : PyData := .list (ws.map .str)
abbrev dTab (rs : List (List Str)) : PyData := .list (rs.map dTx)
theorem eqv_strs : ∀ a b : List Str, PyData.eqvAll (a.map .str) (b.map .str) = decide (a = b)
  | [], [] => rfl
  | [], _ :: _ => rfl
  | _ :: _, [] => rfl
  | x :: xs, y :: ys => by
    show (PyData.eqv (.str x) (.str y) && PyData.eqvAll (xs.map .str) (ys.map .str)) = _
    rw [eqv_strs xs ys]
    show ((x == y) && _) = _
    by_cases h : x = y
    · subst h; simp
    · simp [h]
theorem eqv_dTx (a b : List Str) : PyData.eqv (dTx a) (dTx b) = decide (a = b) := eqv_strs a b
theorem eqv_tabs : ∀ a b : List (List Str), PyData.eqvAll (a.map dTx) (b.map dTx) = decide (a = b)
  | [], [] => rfl
  | [], _ :: _ => rfl
  | _ :: _, [] => rfl
  | x :: xs, y :: ys => by
    show (PyData.eqv (dTx x) (dTx y) && PyData.eqvAll (xs.map dTx) (ys.map dTx)) = _
    rw [eqv_tabs xs ys, eqv_dTx]
    by_cases h : x = y
    · subst h; simp
    · simp [h]
theorem eqv_dTab (a b : List (List Str)) : PyData.eqv (dTab a) (dTab b) = decide (a = b) := eqv_tabs a b
theorem lay_strs : ∀ {a : List Str}, (∀ x ∈ a, PyData.strOk x = true) → PyData.canLayAll0 (a.map .str) = true ∧ PyData.depthAll (a.map .str) = 0
  | [], _ => ⟨rfl, rfl⟩
  | x :: xs, h => by
    have ih := lay_strs (a := xs) fun y hy => h y (List.mem_cons_of_mem _ hy)
    refine ⟨?_, ?_⟩
    · show (PyData.strOk x && PyData.canLayAll0 (xs.map .str)) = true
      rw [h x (List.mem_cons_self ..), ih.1]
      rfl
    · show max 0 (PyData.depthAll (xs.map .str)) = 0
      rw [ih.2]
      rfl
theorem shaped_dTx {a : List Str} (h : ∀ x ∈ a, PyData.strOk x = true) : SeqAt.shaped (dTx a) = true := by
  have l := lay_strs h
  have d1 : (dTx a).canLay0 = true := l.1
  have d2 : (dTx a).depth = 1 := by
    show PyData.depthAll _ + 1 = 1
    rw [l.2]
  unfold SeqAt.shaped
  rw [d1, d2]
  rfl
theorem lay_tabs : ∀ {a : List (List Str)}, (∀ r ∈ a, ∀ x ∈ r, PyData.strOk x = true) → PyData.canLayAll0 (a.map dTx) = true ∧ PyData.depthAll (a.map dTx) ≤ 1
  | [], _ => ⟨rfl, Nat.zero_le _⟩
  | r :: rs, h => by
    have ih := lay_tabs (a := rs) fun y hy => h y (List.mem_cons_of_mem _ hy)
    have l := lay_strs (h r (List.mem_cons_self ..))
    refine ⟨?_, ?_⟩
    · show (PyData.canLayAll0 (r.map .str) && PyData.canLayAll0 (rs.map dTx)) = true
      rw [l.1, ih.1]
      rfl
    · show max (PyData.depthAll (r.map .str) + 1) (PyData.depthAll (rs.map dTx)) ≤ 1
      rw [l.2]
      have := ih.2
      omega
theorem shaped_dTab {a : List (List Str)} (h : ∀ r ∈ a, ∀ x ∈ r, PyData.strOk x = true) : SeqAt.shaped (dTab a) = true := by
  have l := lay_tabs h
  have d1 : (dTab a).canLay0 = true := l.1
  have d2 : (dTab a).depth ≤ 2 := by
    show PyData.depthAll _ + 1 ≤ 2
    have := l.2
    omega
  unfold SeqAt.shaped
  rw [d1]
  simp
  omega
theorem dpStrs {K : PySem.W.Frag} {H : Hp} : ∀ ws : List Str, DpAll K H (ws.map V.str) (ws.map PyData.str)
  | [] => .nil
  | x :: xs => .cons (.str x) (dpStrs xs)
theorem dp_dTx {K : PySem.W.Frag} {H : Hp} {p : Addr} {ws : List Str} (h : H p = some (.lst (ws.map V.str))) : Dp K H (.ref p) (dTx ws) := .lst (SqL.of h) (dpStrs ws)
/-- the lists at as hold the rows -/
inductive Rw (H : Hp) : List Addr → List (List Str) → Prop
  | nil : Rw H [] []
  | cons {a : Addr} {r : List Str} {as : List Addr} {rs : List (List Str)} : H a = some (.lst (r.map V.str)) → Rw H as rs → Rw H (a :: as) (r :: rs)
theorem Rw.same {H H' : Hp} (s : Same H H') : ∀ {as : List Addr} {rs : List (List Str)}, Rw H as rs → Rw H' as rs
  | _, _, .nil => .nil
  | _, _, .cons e t => .cons (s _ _ e) (Rw.same s t)
theorem Rw.len {H : Hp} : ∀ {as : List Addr} {rs : List (List Str)}, Rw H as rs → as.length = rs.length
  | _, _, .nil => rfl
  | _, _, .cons _ t => by simp [Rw.len t]
theorem Rw.snoc {H : Hp} {a : Addr} {r : List Str} (e : H a = some (.lst (r.map V.str))) : ∀ {as : List Addr} {rs : List (List Str)}, Rw H as rs → Rw H (as ++ [a]) (rs ++ [r])
  | _, _, .nil => .cons e .nil
  | _, _, .cons e1 t => .cons e1 (Rw.snoc e t)
theorem Rw.get {H : Hp} : ∀ {as : List Addr} {rs : List (List Str)} {i : Nat} {a : Addr} {r : List Str}, Rw H as rs → as[i]? = some a → rs[i]? = some r → H a = some (.lst (r.map V.str))
  | _, _, _, _, _, .nil, e, _ => by simp at e
  | _, _, 0, _, _, .cons e _, e1, e2 => by simp at e1 e2; subst e1; subst e2; exact e
  | _, _, i + 1, a, r, .cons _ t, e1, e2 => Rw.get (i := i) t (by simpa using e1) (by simpa using e2)
theorem Rw.drop {H : Hp} : ∀ {as : List Addr} {rs : List (List Str)} (n : Nat), Rw H as rs → Rw H (as.drop n) (rs.drop n)
  | _, _, 0, t => t
  | _, _, _ + 1, .nil => .nil
  | _, _, n + 1, .cons _ t => Rw.drop n t
theorem Rw.take {H : Hp} : ∀ {as : List Addr} {rs : List (List Str)} (n : Nat), Rw H as rs → Rw H (as.take n) (rs.take n)
  | _, _, 0, _ => .nil
  | _, _, _ + 1, .nil => .nil
  | _, _, n + 1, .cons e t => .cons e (Rw.take n t)
theorem dpTabs {K : PySem.W.Frag} {H : Hp} : ∀ {as : List Addr} {rs : List (List Str)}, Rw H as rs → DpAll K H (as.map V.ref) (rs.map dTx)
  | _, _, .nil => .nil
  | _, _, .cons e t => .cons (dp_dTx e) (dpTabs t)
theorem dp_dTab {K : PySem.W.Frag} {H : Hp} {p : Addr} {as : List Addr} {rs : List (List Str)} (h : H p = some (.lst (as.map V.ref))) (t : Rw H as rs) : Dp K H (.ref p) (dTab rs) := .lst (SqL.of h) (dpTabs t)
end L2
namespace My
/-! first rows, and how a search in breadth finds them -/
abbrev Row := List Nat
def slt (r r' : Row) : Prop := r.length < r'.length ∨ (r.length = r'.length ∧ r < r')
def sle (r r' : Row) : Prop := r = r' ∨ slt r r'
theorem lt_snoc : ∀ {r r' : Row} {s s' : Nat}, r.length = r'.length → r < r' → r ++ [s] < r' ++ [s']
  | [], [], s, s', _, h => absurd h (List.lt_irrefl _)
  | [], _ :: _, _, _, e, _ => by simp at e
  | _ :: _, [], _, _, e, _ => by simp at e
  | a :: r, b :: r', s, s', e, h => by
    rw [List.cons_append, List.cons_append, List.cons_lt_cons_iff]
    rcases List.cons_lt_cons_iff.mp h with h1 | ⟨e1, h1⟩
    · exact .inl h1
    · exact .inr ⟨e1, lt_snoc (by simpa using e) h1⟩
theorem lt_snoc2 : ∀ {r : Row} {s s' : Nat}, s < s' → r ++ [s] < r ++ [s']
  | [], s, s', h => List.cons_lt_cons_iff.mpr (.inl h)
  | a :: r, s, s', h => by
    rw [List.cons_append, List.cons_append, List.cons_lt_cons_iff]
    exact .inr ⟨rfl, lt_snoc2 h⟩
theorem lt_three : ∀ {r r' : Row}, r.length = r'.length → r < r' ∨ r = r' ∨ r' < r
  | [], [], _ => .inr (.inl rfl)
  | [], _ :: _, e => by simp at e
  | _ :: _, [], e => by simp at e
  | a :: r, b :: r', e => by
    rw [List.cons_lt_cons_iff, List.cons_lt_cons_iff]
    rcases Nat.lt_trichotomy a b with h | rfl | h
    · exact .inl (.inl h)
    · rcases lt_three (r := r) (r' := r') (by simpa using e) with h | rfl | h
      · exact .inl (.inr ⟨rfl, h⟩)
      · exact .inr (.inl rfl)
      · exact .inr (.inr (.inr ⟨rfl, h⟩))
    · exact .inr (.inr (.inl h))
theorem slt_irrefl {r : Row} (h : slt r r) : False := by
  rcases h with h | ⟨_, h⟩
  · exact Nat.lt_irrefl _ h
  · exact List.lt_irrefl _ h
theorem slt_trans {a b c : Row} (h : slt a b) (g : slt b c) : slt a c := by
  rcases h with h | ⟨e, h⟩
  · rcases g with g | ⟨e, g⟩
    · exact .inl (Nat.lt_trans h g)
    · exact .inl (by omega)
  · rcases g with g | ⟨e', g⟩
    · exact .inl (by omega)
    · exact .inr ⟨e.trans e', List.lt_trans h g⟩
theorem slt_three (a b : Row) : slt a b ∨ a = b ∨ slt b a := by
  rcases Nat.lt_trichotomy a.length b.length with h | h | h
  · exact .inl (.inl h)
  · rcases lt_three h with g | g | g
    · exact .inl (.inr ⟨h, g⟩)
    · exact .inr (.inl g)
    · exact .inr (.inr (.inr ⟨h.symm, g⟩))
  · exact .inr (.inr (.inl h))
theorem slt_sle {a b c : Row} (h : slt a b) (g : sle b c) : slt a c := by
  rcases g with rfl | g
  · exact h
  · exact slt_trans h g
theorem sle_slt {a b c : Row} (h : sle a b) (g : slt b c) : slt a c := by
  rcases h with rfl | h
  · exact g
  · exact slt_trans h g
theorem sle_trans {a b c : Row} (h : sle a b) (g : sle b c) : sle a c := by
  rcases h with rfl | h
  · exact g
  · exact .inr (slt_sle h g)
theorem slt_snoc {r r' : Row} {s s' : Nat} (h : slt r r') : slt (r ++ [s]) (r' ++ [s']) := by
  rcases h with h | ⟨e, h⟩
  · exact .inl (by rw [List.length_append, List.length_append]; simpa using h)
  · exact .inr ⟨by rw [List.length_append, List.length_append, e]; rfl, lt_snoc e h⟩
theorem sle_snoc {r r' : Row} {s : Nat} (h : sle r r') : sle (r ++ [s]) (r' ++ [s]) := by
  rcases h with rfl | h
  · exact .inl rfl
  · exact .inr (slt_snoc h)
theorem slt_snoc2 {r : Row} {s s' : Nat} (h : s < s') : slt (r ++ [s]) (r ++ [s']) := .inr ⟨by simp, lt_snoc2 h⟩
theorem slt_more {r : Row} {s : Nat} : slt r (r ++ [s]) := .inl (by simp)
theorem slt_nil {r : Row} {s : Nat} : slt [] (r ++ [s]) := .inl (by simp)
theorem slt_low {a b : Row} (h : ¬ sle a b) : slt b a := by
  rcases slt_three a b with g | g | g
  · exact absurd (.inr g) h
  · exact absurd (.inl g) h
  · exact g
structure First (sg : Row) (W : Row → Prop) (r : Row) : Prop where
  inn : ∀ c ∈ r, c ∈ sg
  is : W r
  least : ∀ r', (∀ c ∈ r', c ∈ sg) → W r' → sle r r'
theorem First.uniq {sg : Row} {W : Row → Prop} {r r' : Row} (h : First sg W r) (g : First sg W r') : r = r' := by
  rcases h.least r' g.inn g.is with e | e
  · exact e
  · rcases g.least r h.inn h.is with e' | e'
    · exact e'.symm
    · exact (slt_irrefl (slt_trans e e')).elim
/-- the first row, or none -/
def IsFirst (sg : Row) (W : Row → Prop) : Option Row → Prop
  | some r => First sg W r
  | none => ∀ r, (∀ c ∈ r, c ∈ sg) → ¬ W r
theorem IsFirst.uniq {sg : Row} {W : Row → Prop} : ∀ {o o' : Option Row}, IsFirst sg W o → IsFirst sg W o' → o = o'
  | some r, some r', h, g => by rw [First.uniq h g]
  | some r, none, h, g => (g r h.inn h.is).elim
  | none, some r, h, g => (h r g.inn g.is).elim
  | none, none, _, _ => rfl
theorem IsFirst.imp {sg : Row} {W W' : Row → Prop} {o : Option Row} (e : ∀ r, (∀ c ∈ r, c ∈ sg) → (W r ↔ W' r)) (h : IsFirst sg W o) : IsFirst sg W' o := by
  cases o with
  | some r => exact ⟨h.inn, (e r h.inn).mp h.is, fun r' i w => h.least r' i ((e r' i).mpr w)⟩
  | none => exact fun r i w => h r i ((e r i).mpr w)
section
variable {α : Type} {sg : Row} {step : α → Nat → α} {a0 : α} {L : List (α × Row)} {n : Nat} {dn : Row} {y : α × Row} {s : Nat}
def runL (step : α → Nat → α) (a : α) (r : Row) : α := r.foldl step a
theorem run_snoc (a : α) (r : Row) : runL step a (r ++ [s]) = step (runL step a r) s := by
  unfold runL
  rw [List.foldl_append]
  rfl
structure Bfs (sg : Row) (step : α → Nat → α) (a0 : α) (L : List (α × Row)) (n : Nat) (dn : Row) : Prop where
  h0 : L[0]? = some (a0, [])
  ok : ∀ x ∈ L, x.1 = runL step a0 x.2 ∧ ∀ c ∈ x.2, c ∈ sg
  inc : ∀ (i j : Nat) (x y : α × Row), L[i]? = some x → L[j]? = some y → i < j → slt x.2 y.2
  src : ∀ x ∈ L, x.2 = [] ∨ ∃ (i : Nat) (y : α × Row) (s : Nat), L[i]? = some y ∧ x.2 = y.2 ++ [s] ∧ (i < n ∨ (i = n ∧ s ∈ dn))
  cl : ∀ (i : Nat) (y : α × Row) (s : Nat), L[i]? = some y → s ∈ sg → (i < n ∨ (i = n ∧ s ∈ dn)) → ∃ z ∈ L, z.1 = step y.1 s ∧ sle z.2 (y.2 ++ [s])
theorem bfs_start : Bfs sg step a0 [(a0, [])] 0 [] := by
  refine ⟨rfl, fun x hx => ?_, fun i j x y hi hj h => ?_, fun x hx => ?_, fun i y s _ _ h => ?_⟩
  · rw [List.mem_singleton.mp hx]
    exact ⟨rfl, fun c hc => by cases hc⟩
  · have := (List.getElem?_eq_some_iff.mp hj).1
    simp at this
    omega
  · rw [List.mem_singleton.mp hx]
    exact .inl rfl
  · rcases h with h | ⟨_, h⟩
    · exact absurd h (Nat.not_lt_zero _)
    · cases h
theorem Bfs.below (h : Bfs sg step a0 L n dn) (e : L[n]? = some y) (hs : ∀ c ∈ dn, c < s) : ∀ z ∈ L, slt z.2 (y.2 ++ [s]) := fun z hz => by
  rcases h.src z hz with q | ⟨i, x, c, ei, ex, hi⟩
  · rw [q]
    exact slt_nil
  · rw [ex]
    rcases hi with hi | ⟨rfl, hc⟩
    · exact slt_snoc (h.inc i n x y ei e hi)
    · have : x = y := Option.some.inj (ei.symm.trans e)
      subst this
      exact slt_snoc2 (hs c hc)
theorem Bfs.old (h : Bfs sg step a0 L n dn) (e : L[n]? = some y) (hs : ∀ c ∈ dn, c < s) {z : α × Row} (hz : z ∈ L) (ez : z.1 = step y.1 s) : Bfs sg step a0 L n (dn ++ [s]) := by
  refine ⟨h.h0, h.ok, h.inc, fun x hx => ?_, fun i x c ei hc hi => ?_⟩
  · rcases h.src x hx with q | ⟨i, x', c, ei, ex, hi⟩
    · exact .inl q
    · exact .inr ⟨i, x', c, ei, ex, hi.imp id fun q => ⟨q.1, List.mem_append_left _ q.2⟩⟩
  · rcases hi with hi | ⟨rfl, hm⟩
    · exact h.cl i x c ei hc (.inl hi)
    · rcases List.mem_append.mp hm with hm | hm
      · exact h.cl i x c ei hc (.inr ⟨rfl, hm⟩)
      · rw [List.mem_singleton] at hm
        subst hm
        have : x = y := Option.some.inj (ei.symm.trans e)
        subst this
        exact ⟨z, hz, ez, .inr (h.below e hs z hz)⟩
theorem Bfs.new (h : Bfs sg step a0 L n dn) (e : L[n]? = some y) (hs : ∀ c ∈ dn, c < s) (hc : s ∈ sg) : Bfs sg step a0 (L ++ [(step y.1 s, y.2 ++ [s])]) n (dn ++ [s]) := by
  have lt : n < L.length := (List.getElem?_eq_some_iff.mp e).1
  have lift : ∀ {i : Nat} {x : α × Row}, L[i]? = some x → (L ++ [(step y.1 s, y.2 ++ [s])])[i]? = some x := fun {i x} ei => by
    rw [List.getElem?_append_left (List.getElem?_eq_some_iff.mp ei).1]
    exact ei
  have back : ∀ {i : Nat} {x : α × Row}, (L ++ [(step y.1 s, y.2 ++ [s])])[i]? = some x → (L[i]? = some x) ∨ (i = L.length ∧ x = (step y.1 s, y.2 ++ [s])) := fun {i x} ei => by
    rw [List.getElem?_append] at ei
    split at ei
    · exact .inl ei
    · rename_i hi
      cases hz : i - L.length with
      | zero => rw [hz] at ei; exact .inr ⟨by omega, (Option.some.inj ei).symm⟩
      | succ m => rw [hz] at ei; cases ei
  have ym : y ∈ L := List.mem_of_getElem? e
  refine ⟨lift h.h0, fun x hx => ?_, fun i j x z ei ej hij => ?_, fun x hx => ?_, fun i x c ei hcs hi => ?_⟩
  · rcases List.mem_append.mp hx with hx | hx
    · exact h.ok x hx
    · rw [List.mem_singleton.mp hx]
      refine ⟨?_, fun c hc' => ?_⟩
      · rw [run_snoc, ← (h.ok y ym).1]
      · rcases List.mem_append.mp hc' with m | m
        · exact (h.ok y ym).2 c m
        · rw [List.mem_singleton.mp m]; exact hc
  · rcases back ei with ei | ⟨e1, rfl⟩
    · rcases back ej with ej | ⟨e2, rfl⟩
      · exact h.inc i j x z ei ej hij
      · exact h.below e hs x (List.mem_of_getElem? ei)
    · rcases back ej with ej | ⟨e2, rfl⟩
      · have := (List.getElem?_eq_some_iff.mp ej).1
        omega
      · omega
  · rcases List.mem_append.mp hx with hx | hx
    · rcases h.src x hx with q | ⟨i, x', c, ei, ex, hi⟩
      · exact .inl q
      · exact .inr ⟨i, x', c, lift ei, ex, hi.imp id fun q => ⟨q.1, List.mem_append_left _ q.2⟩⟩
    · rw [List.mem_singleton.mp hx]
      exact .inr ⟨n, y, s, lift e, rfl, .inr ⟨rfl, by simp⟩⟩
  · have il : i < L.length := by
      rcases hi with hi | hi
      · omega
      · omega
    have ei2 : L[i]? = some x := by
      rw [List.getElem?_append_left il] at ei
      exact ei
    have more : (∃ z ∈ L, z.1 = step x.1 c ∧ sle z.2 (x.2 ++ [c])) → ∃ z ∈ L ++ [(step y.1 s, y.2 ++ [s])], z.1 = step x.1 c ∧ sle z.2 (x.2 ++ [c]) := fun ⟨z, hz, q⟩ => ⟨z, List.mem_append_left _ hz, q⟩
    rcases hi with hi | ⟨rfl, hm⟩
    · exact more (h.cl i x c ei2 hcs (.inl hi))
    · rcases List.mem_append.mp hm with hm | hm
      · exact more (h.cl i x c ei2 hcs (.inr ⟨rfl, hm⟩))
      · rw [List.mem_singleton] at hm
        subst hm
        have : x = y := Option.some.inj (ei2.symm.trans e)
        subst this
        exact ⟨_, List.mem_append_right _ (List.mem_singleton.mpr rfl), rfl, .inl rfl⟩
theorem Bfs.next (h : Bfs sg step a0 L n dn) (hd : ∀ c ∈ sg, c ∈ dn) : Bfs sg step a0 L (n + 1) [] := by
  refine ⟨h.h0, h.ok, h.inc, fun x hx => ?_, fun i y s ei hs hi => ?_⟩
  · rcases h.src x hx with q | ⟨i, x', c, ei, ex, hi⟩
    · exact .inl q
    · refine .inr ⟨i, x', c, ei, ex, .inl ?_⟩
      rcases hi with hi | hi <;> omega
  · refine h.cl i y s ei hs ?_
    rcases hi with hi | ⟨_, hi⟩
    · by_cases e : i = n
      · exact .inr ⟨e, hd s hs⟩
      · exact .inl (by omega)
    · cases hi
theorem snoc_ind {P : Row → Prop} (h0 : P []) (hs : ∀ r s, P r → P (r ++ [s])) : ∀ r, P r := fun r => by
  have : ∀ k (r : Row), r.length = k → P r := by
    intro k
    induction k with
    | zero => intro r e; rw [List.length_eq_zero_iff.mp e]; exact h0
    | succ k ih =>
      intro r e
      have ne : r ≠ [] := fun z => by rw [z] at e; cases e
      rw [← List.dropLast_concat_getLast ne]
      exact hs _ _ (ih _ (by rw [List.length_dropLast]; omega))
  exact this _ r rfl
theorem Bfs.found (h : Bfs sg step a0 L n []) (e : L[n]? = some y) {W : α → Prop} (hw : W y.1) (no : ∀ i x, i < n → L[i]? = some x → ¬ W x.1) : First sg (fun r => W (runL step a0 r)) y.2 := by
  have ym := List.mem_of_getElem? e
  refine ⟨(h.ok y ym).2, by rw [← (h.ok y ym).1]; exact hw, fun r' hr hw' => ?_⟩
  refine Classical.byContradiction fun z => ?_
  have low := slt_low z
  have key : ∀ r : Row, (∀ c ∈ r, c ∈ sg) → slt r y.2 → ∃ (j : Nat) (x : α × Row), j < n ∧ L[j]? = some x ∧ x.1 = runL step a0 r ∧ sle x.2 r := by
    refine snoc_ind (fun _ hl => ?_) fun r s ih hr hl => ?_
    · refine ⟨0, _, ?_, h.h0, rfl, .inl rfl⟩
      cases n with
      | zero =>
        have : y = (a0, []) := Option.some.inj (e.symm.trans h.h0)
        rw [this] at hl
        exact (slt_irrefl hl).elim
      | succ n => exact Nat.succ_pos _
    · obtain ⟨i, x, hi, ei, ex, lx⟩ := ih (fun c hc => hr c (List.mem_append_left _ hc)) (slt_trans slt_more hl)
      obtain ⟨z, hz, ez, lz⟩ := h.cl i x s ei (hr s (by simp)) (.inl hi)
      obtain ⟨j, ej⟩ := List.mem_iff_getElem?.mp hz
      have lz2 : sle z.2 (r ++ [s]) := sle_trans lz (sle_snoc lx)
      have lzy := sle_slt lz2 hl
      refine ⟨j, z, Classical.byContradiction fun q => ?_, ej, ?_, lz2⟩
      · rcases Nat.lt_or_eq_of_le (Nat.le_of_not_lt q) with q | q
        · exact slt_irrefl (slt_trans lzy (h.inc n j y z e ej q))
        · subst q
          have : z = y := Option.some.inj (ej.symm.trans e)
          rw [this] at lzy
          exact slt_irrefl lzy
      · rw [run_snoc, ← ex]
        exact ez
  obtain ⟨j, x, hj, ej, ex, _⟩ := key r' hr low
  exact no j x hj ej (by rw [ex]; exact hw')
theorem Bfs.all (h : Bfs sg step a0 L n []) (e : L.length ≤ n) : ∀ r : Row, (∀ c ∈ r, c ∈ sg) → ∃ x ∈ L, x.1 = runL step a0 r ∧ sle x.2 r := by
  refine snoc_ind (fun _ => ⟨_, List.mem_of_getElem? h.h0, rfl, .inl rfl⟩) fun r s ih hr => ?_
  obtain ⟨x, hx, ex, lx⟩ := ih fun c hc => hr c (List.mem_append_left _ hc)
  obtain ⟨i, ei⟩ := List.mem_iff_getElem?.mp hx
  have := (List.getElem?_eq_some_iff.mp ei).1
  obtain ⟨z, hz, ez, lz⟩ := h.cl i x s ei (hr s (by simp)) (.inl (by omega))
  exact ⟨z, hz, by rw [run_snoc, ← ex]; exact ez, sle_trans lz (sle_snoc lx)⟩
theorem Bfs.none (h : Bfs sg step a0 L n []) (e : L.length ≤ n) {W : α → Prop} (no : ∀ x ∈ L, ¬ W x.1) : ∀ r : Row, (∀ c ∈ r, c ∈ sg) → ¬ W (runL step a0 r) := fun r hr hw => by
  obtain ⟨x, hx, ex, _⟩ := h.all e r hr
  exact no x hx (by rw [ex]; exact hw)
end
end My
namespace L2
open PySem PySem.Spec PyProof.Rows PySem.GX PySem.W
end L2
/-! sep.join(reversed(list of texts)) -/
namespace PySem
open Builtin Builtin.Str Builtin.Int PyProof.Rows
namespace SC
section
variable {prog : Program} {w : World} {A : Around} {E : Value → Shared → Prop} {s : Shared} {x : Str} {t : Tok} {Q : Value → Shared → Prop}
theorem join_rev {it l : Addr} {items : Array Value} {ys : List Str} (hh : A.handled = none) (hit : s.heap.IsRevIter it l ((items.size : Int) - 1)) (hl : s.heap.IsList l items) (hne : l ≠ it) (hn : items.size ≤ sizeLine)
    (hP : ∀ acc : Array Value, ItemsOf (fun i v => items[items.size - 1 - i]? = some v) acc items.size → StrsAre acc.toList ys) (hok : (ys.map (·.length)).sum + ys.length * x.length ≤ 16777216)
    (hq : ∀ (h' : Heap) (t' : Tok) (k : Nat), (∀ b o, b ≠ it → s.heap.get? b = some o → h'.get? b = some o) → Q (.str (Txt.join x ys) t') { s with heap := h', toks := k }) :
    wpAny (model prog w) A (call (.builtin "str.join") [.str x t, .ref it]) Q E s := by
  refine wpAny_call (codeAny_call_builtin F.slot_str_join.plain F.entry_str_join (F.slot_str_join.check _ _ _ _ _ _ _ _ (typeIs_str _ _ _) (F.args_str_join_2 _ _) ?_))
  rw [join_tree_other]
  refine wpAny_bind (wpAny_typeOf hit.typeIs ?_)
  show wpAny _ A.in1 ((pyIter (.ref it)).tryCatch _ >>= fun it => collect it >>= fun items => joinTail x items) _ _ s
  refine wpAny_bind (wpAny_tryCatch (wpAny_pyIter_revIter hit ?_))
  refine wpAny_bind (RT.collect_rev (A := A.in1) hh hit hl hne hn fun h' tk acc hk hacc => ?_)
  obtain ⟨ls, hl', ht⟩ := strsAre_values (hP acc hacc)
  subst ht
  rw [hl']
  have hok' := PyProof.Rows.joinOk_of hok
  unfold JoinOk at hok'
  rw [Bool.not_eq_true'] at hok'
  have g : Gives (joinTail x (strValues ls)) (joinMade x ls) := by
    have g0 := gives_joinTail x ls hok'
    cases ls with
    | nil => exact g0
    | cons p r => cases r with
      | nil => exact g0
      | cons q r' => exact g0
  exact g prog w A (wants Q E) _ (post_join ls ⟨joinFit_length hok', fun t' k => hq h' t' k hk⟩)
end
end SC
end PySem
namespace L2
open PySem PySem.Spec PyProof.Rows
/-- to.join(reversed(te)), a list of texts -/
def tJoinRev (K : PySem.W.Frag) (to te : TE) : TE := fun σ H Q => to σ H fun x H1 => (∃ a, x = .str a) ∧ te σ H1 fun v H2 => ∃ (a : Str) (q : Addr) (ys : List Str),
  x = .str a ∧ v = .ref q ∧ SqL K H2 q (ys.map V.str) ∧ (ys.map (·.length)).sum + ys.length * a.length ≤ 16777216 ∧ Q (.str (Txt.join a ys.reverse)) H2
theorem vals_strR : ∀ {ys : List Str} {us : List Value}, Vals (ys.map V.str) us → StrsAre us ys
  | [], us, h => by cases h; exact .nil
  | y :: ys, us, h => by
    rw [List.map_cons] at h
    cases h with
    | cons h t =>
      obtain ⟨t', rfl⟩ := h
      exact .cons _ _ (vals_strR t)
section
variable {X : Cx}
theorem pe_joinRev {o e : Expr} {to te : TE} {p2 apos pos pos2 : Pos} (hc : X.calm = true) (ho : PE X o to) (hg2 : Gl X "reversed") (hm2 : X.mg "reversed" = none) (he : PE X e te)
    (hs1 : starEach [.Call (.Name "reversed" p2) [e] [] pos2] X.env = [(false, eval (.Call (.Name "reversed" p2) [e] [] pos2) X.env)] := by rfl)
    (hs : starEach [e] X.env = (false, eval e X.env) :: starEach [] X.env := by rfl)
    (hbase : attributeBase o "join" X.env (eval o X.env) = eval o X.env := by rfl) (hline : (apos.endLine == pos.line) = true := by rfl) :
    PE X (.Call (.Attribute o "join" apos) [.Call (.Name "reversed" p2) [e] [] pos2] [] pos) (tJoinRev X.K to te) := by
  refine ⟨fun pins s σ H Q I h => ?_⟩
  refine PySem.Call_method1 hbase hs1 hline (thn (ho.run pins s σ H _ I h) fun v s1 ⟨x, H1, I1, r1, q1⟩ => ?_)
  obtain ⟨⟨a, rfl⟩, q1⟩ := q1
  obtain ⟨t, rfl⟩ := _root_.id r1
  refine ⟨"str", _, F.plainAttrs_str, F.slot_str_join, F.type_str_join, typeIs_str _ _ _, (fun _ e => nomatch e), Calls.callWith_builtin rfl (Calls.evalArgs_plain (Calls.spliced_cons ?_))⟩
  refine Call_ (ld_blt I1 hg2 hm2 PyProof.Rows.boot_reversed (PyProof.Rows.callWith_type1 (args_cons (thn (he.run pins s1 σ H1 _ I1 q1) fun u s2 ⟨v, H2, I2, r2, q2⟩ => args_nil ?_) hs) hs rfl))
  obtain ⟨a', q, ys, ea, ev, hq, hz, q3⟩ := q2
  cases ea
  subst ev
  obtain rfl : u = Value.ref q := r2
  obtain ⟨its, rv, pl, hsz⟩ := I2.list hq
  refine call_reversed_list pl.isList ?_
  have k0 : ∀ b o, s2.heap.get? b = some o → (s2.heap.push (revObj q ((its.toArray.size : Int) - 1))).get? b = some o := fun b o e => Heap.get?_push_of_some _ e
  have I3 : Inv X pins σ H2 { s2 with heap := s2.heap.push (revObj q ((its.toArray.size : Int) - 1)) } := I2.kept (t' := s2.toks) k0
  obtain ⟨f0, f1, f2, f3, f4, f5⟩ := I2.fpOk (H' := H2) (b := s2.heap.objs.size) (Nat.le_refl _) (I2.hok.fresh (Nat.le_refl _))
  have hl := pl.isList
  obtain ⟨ol, hol, _⟩ := _root_.id hl
  have hne : q ≠ s2.heap.objs.size := Nat.ne_of_lt (Heap.lt_size hol)
  have hn : its.toArray.size ≤ sizeLine := by rw [List.size_toArray, ← rv.length]; exact hsz
  refine Calls.spliced_nil ?_
  refine PySem.SC.join_rev (s := { s2 with heap := s2.heap.push (revObj q ((its.toArray.size : Int) - 1)) }) (ys := ys.reverse) (I2.ok.hd hc) ⟨_, Heap.get?_push_size _ rfl, rfl, rfl⟩ (hl.push _) hne hn (fun acc hi => ?_) ?_ fun h' t' k hk => ?_
  · have := RT.vals_rev rv hi
    rw [← List.map_reverse] at this
    exact vals_strR this
  · rw [List.map_reverse, List.sum_reverse, List.length_reverse]
    exact hz
  · exact ⟨.str _, H2, I3.turned (t' := k) (fun b o hb e => hk b o hb e) f0 f1 f3 f4 f5, ⟨t', rfl⟩, q3⟩
end
end L2
namespace My
open PySem PySem.Spec PyProof.Rows L2
/-- the def x is there, and keeps the promise -/
structure Hv (P : Program) (w : World) (K : PySem.W.Frag) (mg : Str → Option Value) (base : Heap) (k : Nat) (x : Str) (ps : List Str) (sp : Sp) : Prop where
  ex : ∃ (f : Addr) (fd : FuncData), FnOk P w K mg base CX0 k f fd ps sp ∧ Binds K fd ps [] ∧ mg x = some (.ref f) ∧ PySem.W.keepIn K (.ref f) = true
theorem pe_cl {X : Cx} {k : Nat} {x : Str} {ps : List Str} {sp : Sp} {p pos : Pos} {e : Expr} {es : List Expr} {t : TA} {E : XK} (h : Hv X.prog X.w X.K X.mg X.base k x ps sp) (hr : Room k X.A) (hg : Gl X x) (hx : Passes CX0 X E) (ha : PA X (e :: es) t)
    (hdb : (x == ("__debug__" : Str)) = false := by decide) (he : starEach (e :: es) X.env = (false, eval e X.env) :: starEach es X.env := by rfl) (hpl : (backTo pos (starEach es X.env)).any (·.1) = false := by rfl) :
    PE X (.Call (.Name x p) (e :: es) [] pos) (tCall sp [] E t) := by
  obtain ⟨f, fd, F, b, g, kp⟩ := h.ex
  exact pe_call F hr hg g kp b .nil hx ha hdb he hpl
abbrev abc : Str := "abcdefghijklmnopqrstuvwxyz"
def madeL (x y : Str) : Bool := (x.cps.toList.map fun c => decide (c ∈ y.cps.toList)).all id
def spMade : Sp := fun vs H Q _ => ∃ x y : Str, vs = [.str x, .str y] ∧ x.length ≤ 16000000 ∧ ∀ H', Same H H' → Q (.bl (madeL x y)) H'
section
variable {P : Program} {w : World} {K : PySem.W.Frag} {mg : Str → Option Value} {base : Heap}
theorem scMade : FnScope ["text", "letters", "letter"] ["text", "letters"] (defScope sMade) := ⟨rfl, rfl, rfl, by decide +kernel, rfl, by decide +kernel, by decide +kernel⟩
theorem ok_made {f : Addr} {fd : FuncData} (F : Fun K "made_of" "made_of" sMade f fd) (hA : mg "all" = none) : FnOk P w K mg base CX0 1 f fd ["text", "letters"] spMade := by
  refine F.ok scMade (fun vs H Q E h => ?_) (fun cdv A outer s H vs Q E hr h => ?_)
  · obtain ⟨x, y, rfl, _⟩ := h
    rfl
  · obtain ⟨x, y, rfl, hx, k⟩ := h
    refine ⟨_, pss_one (ps_ret (pe_callB (cr_all rfl) (by rfl) hA (by decide +kernel) (pa_cons (pe_lc (own := [("letter", 2)]) (g := gName 2) (tt := tYes) rfl scMade.nd (pi_str (pv 0))
      (blkOk_by (N := ["text", "letters", "letter"]) (sc := defScope sMade) (by decide +kernel)) (fun _ _ _ _ _ => pg_name (i := 2) scMade.nd rfl (Or.inl rfl)) (fun _ _ _ _ _ => pts_nil) (fun _ _ _ _ _ => pe_cmpR op_in_sign (pv 2) (pv 1) (by rfl))) pa_nil))), ?_⟩
    refine ⟨_, rfl, x, rfl, fun D hD => ?_⟩
    refine lcG (x.cps.toList) (fun c => some (.bl (decide (c ∈ y.cps.toList)))) (by rw [Array.length_toList]; exact walk_str) (by rw [Array.length_toList]; exact hx) hD (fun i H x H' h => by rw [h.1]; exact Same.refl _) (fun _ _ => trivial) (fun i c z H' H'' k1 hc _ hy k2 => ?_) (fun H' s' e => ?_)
    · obtain ⟨rfl, c', hc', rfl⟩ := hy
      rw [← Array.getElem?_toList, hc] at hc'
      cases hc'
      exact ⟨rfl, _, rfl, _, rfl, c, _, rfl, rfl, k2 _ (Same.refl _)⟩
    · refine ⟨D, x.cps.toList.map fun c => decide (c ∈ y.cps.toList), rfl, SqL.of ?_, k _ s'⟩
      rw [e, List.filterMap_eq_map', List.map_map]
      rfl
end
end My
namespace My
open PySem PySem.Spec PyProof.Rows L2
/-! what the program says of texts, as plain functions -/
def isWordL (x : Str) : Bool := decide (1 ≤ x.length) && decide (x.length ≤ 8) && madeL x abc
def spWord : Sp := fun vs H Q _ => ∃ x : Str, vs = [.str x] ∧ x.length ≤ 16000000 ∧ ∀ H', Same H H' → Q (.bl (isWordL x)) H'
section
variable {P : Program} {w : World} {K : PySem.W.Frag} {mg : Str → Option Value} {base : Heap}
theorem scWord : FnScope ["text"] ["text"] (defScope sWord) := ⟨rfl, rfl, rfl, by decide +kernel, rfl, by decide +kernel, by decide +kernel⟩
theorem ok_word {f : Addr} {fd : FuncData} {tA tB : Tok} (F : Fun K "is_word" "is_word" sWord f fd) (hO : Hv P w K mg base 1 "made_of" ["text", "letters"] spMade) (hL : mg "len" = none) (gL : mg "LONGEST_WORD" = some (.int 8 tA)) (gA : mg "LETTERS" = some (.str abc tB)) : FnOk P w K mg base CX0 2 f fd ["text"] spWord := by
  refine F.ok scWord (fun vs H Q E h => ?_) (fun cdv A outer s H vs Q E hr h => ?_)
  · obtain ⟨x, rfl, _⟩ := h
    rfl
  · obtain ⟨x, rfl, hx, k⟩ := h
    refine ⟨_, pss_one (ps_ret (pe_and (pe_chain op_le op_le pe_int (pe_callB call_len_str (by rfl) hL PySem.boot_len (pa_cons (pv 0) pa_nil)) (pe_glob (v := .int 8) rfl gL ⟨_, rfl⟩)) (pe_one (pe_cl hO hr rfl pass0 (pa_cons (pv 0) (pa_cons (pe_glob (v := .str abc) rfl gA ⟨_, rfl⟩) pa_nil)))))), ?_⟩
    refine ⟨_, rfl, x, rfl, (by rw [sizeLine_eq]; omega), _, _, rfl, rfl, _, rfl, ?_⟩
    refine ite2 (fun c1 => ?_) (fun c1 => ?_)
    · refine ⟨_, _, rfl, rfl, _, rfl, ite2 (fun c2 => ⟨_, rfl, x, abc, rfl, hx, fun H' s => ?_⟩) (fun c2 => ?_)⟩
      · have e : isWordL x = madeL x abc := by
          have h1 := of_decide_eq_true c1
          have h2 := of_decide_eq_true c2
          unfold isWordL
          rw [decide_eq_true (by omega), decide_eq_true (by omega)]
          simp
        rw [← e]
        exact k _ s
      · have e : isWordL x = false := by
          have h2 := of_decide_eq_false (Bool.eq_false_iff.mpr c2)
          unfold isWordL
          rw [decide_eq_false (by omega : ¬ x.length ≤ 8)]
          simp
        rw [e] at k
        exact k _ (Same.refl _)
    · have e : isWordL x = false := by
        have h2 := of_decide_eq_false (Bool.eq_false_iff.mpr c1)
        unfold isWordL
        rw [decide_eq_false (by omega : ¬ 1 ≤ x.length)]
        simp
      rw [e] at k
      exact ⟨_, rfl, iteF (k _ (Same.refl _))⟩
end
end My
namespace My
open PySem PySem.Spec PyProof.Rows L2 PySem.GX
theorem mem_ins {ys : List Str} {k z : Str} : z ∈ ins ys k ↔ z = k ∨ z ∈ ys := by
  unfold ins
  by_cases h : k ∈ ys
  · rw [if_pos h]
    constructor
    · intro m; exact .inr m
    · rintro (rfl | m)
      · exact h
      · exact m
  · rw [if_neg h, List.mem_cons]
theorem setFold_all : ∀ (n : Nat) (xs : List Str), xs.length = n → (setFold xs).Nodup ∧ (∀ z, z ∈ setFold xs ↔ z ∈ xs) ∧ (xs.Nodup → (setFold xs).Perm xs) ∧ (¬ xs.Nodup → (setFold xs).length < xs.length) := by
  intro n
  induction n with
  | zero =>
    intro xs h
    have : xs = [] := List.eq_nil_of_length_eq_zero h
    subst this
    exact ⟨List.nodup_nil, fun _ => Iff.rfl, fun _ => List.Perm.refl _, fun h => absurd List.nodup_nil h⟩
  | succ n ih =>
    intro xs h
    have hne : xs ≠ [] := by intro z; subst z; cases h
    obtain ⟨ys, a, rfl⟩ : ∃ ys a, xs = ys ++ [a] := ⟨xs.dropLast, xs.getLast hne, (List.dropLast_concat_getLast hne).symm⟩
    have hl : ys.length = n := by rw [List.length_append] at h; simpa using h
    obtain ⟨i1, i2, i3, i4⟩ := ih ys hl
    have len := setFold_len n ys hl
    rw [setFold_snoc]
    refine ⟨ins_nodup i1, fun z => ?_, fun nd => ?_, fun nd => ?_⟩
    · rw [mem_ins, i2, List.mem_append]
      simp
      constructor
      · rintro (h | h) <;> simp [h]
      · rintro (h | h) <;> simp [h]
    · rw [List.nodup_append] at nd
      have ha : a ∉ setFold ys := fun z => nd.2.2 a ((i2 a).mp z) a (by simp) rfl
      unfold ins
      rw [if_neg ha]
      exact ((i3 nd.1).cons a).trans (List.perm_append_singleton a ys).symm
    · unfold ins
      by_cases ha : a ∈ setFold ys
      · rw [if_pos ha, List.length_append]
        simp; omega
      · rw [if_neg ha, List.length_append]
        have : ¬ ys.Nodup := fun z => nd (by
          rw [List.nodup_append]
          refine ⟨z, by simp, fun b hb c hc e => ?_⟩
          simp at hc
          subst hc; subst e
          exact ha ((i2 b).mpr hb))
        have := i4 this
        simp; omega
theorem setFold_eqlen (xs : List Str) : decide ((setFold xs).length = xs.length) = decide xs.Nodup := by
  obtain ⟨_, _, i3, i4⟩ := setFold_all _ xs rfl
  by_cases h : xs.Nodup
  · rw [decide_eq_true h, decide_eq_true (i3 h).length_eq]
  · rw [decide_eq_false h, decide_eq_false (Nat.ne_of_lt (i4 h))]
/-- the sign c as a text -/
abbrev sg (c : Nat) : Str := ⟨#[c]⟩
theorem sg_inj {a b : Nat} (h : sg a = sg b) : a = b := by
  have := congrArg (fun s : Str => s.cps.toList) h
  simpa using this
theorem str_ext {x y : Str} (h : x.cps.toList = y.cps.toList) : x = y := by
  cases x; cases y
  simp at h
  rw [h]
theorem asc_eq : ∀ {a b : List Nat}, a.Pairwise (· < ·) → b.Pairwise (· < ·) → (∀ z, z ∈ a ↔ z ∈ b) → a = b
  | [], [], _, _, _ => rfl
  | [], y :: _, _, _, h => by have := (h y).mpr (by simp); simp at this
  | x :: _, [], _, _, h => by have := (h x).mp (by simp); simp at this
  | x :: xs, y :: ys, h1, h2, h => by
    rw [List.pairwise_cons] at h1 h2
    have e : x = y := by
      have m1 := (h x).mp (by simp)
      have m2 := (h y).mpr (by simp)
      simp at m1 m2
      rcases m1 with m1 | m1
      · exact m1
      · rcases m2 with m2 | m2
        · exact m2.symm
        · have a1 := h1.1 _ m2
          have a2 := h2.1 _ m1
          omega
    subst e
    congr 1
    refine asc_eq h1.2 h2.2 fun z => ?_
    constructor
    · intro m
      have := (h z).mp (by simp [m])
      simp at this
      rcases this with rfl | t
      · exact absurd (h1.1 _ m) (Nat.lt_irrefl _)
      · exact t
    · intro m
      have := (h z).mpr (by simp [m])
      simp at this
      rcases this with rfl | t
      · exact absurd (h2.1 _ m) (Nat.lt_irrefl _)
      · exact t
theorem rising_asc : ∀ (cs : List Nat) (p : Nat), risingS (sg p) (cs.map sg) = true → (p :: cs).Nodup → (p :: cs).Pairwise (· < ·)
  | [], p, _, _ => by simp
  | c :: cs, p, h, nd => by
    unfold risingS at h
    rw [List.map_cons] at h
    simp only [Bool.and_eq_true] at h
    have nd' := (List.nodup_cons.mp nd)
    have ih := rising_asc cs c h.2 nd'.2
    have h1 : ¬ c < p := by
      have := h.1
      simp [ltCps] at this
      omega
    have h2 : p ≠ c := fun z => nd'.1 (by simp [z])
    rw [List.pairwise_cons] at ih ⊢
    refine ⟨fun z hz => ?_, List.pairwise_cons.mpr ih⟩
    simp at hz
    rcases hz with rfl | hz
    · omega
    · have := ih.1 z hz
      omega
theorem join_signs : ∀ cs : List Nat, (Str.join Str.empty (cs.map sg)).cps.toList = cs
  | [] => rfl
  | [c] => rfl
  | c :: d :: cs => by
    have ih := join_signs (d :: cs)
    show ((sg c ++ Str.empty ++ Str.join Str.empty ((d :: cs).map sg)).cps).toList = _
    show (((#[c] ++ #[]) ++ (Str.join Str.empty ((d :: cs).map sg)).cps)).toList = _
    rw [Array.toList_append, ih]
    rfl
/-- the text is its own signs in their order, each once -/
theorem asc_join {x : Str} {zs : List Str} (hp : zs.Perm (setFold (signsOf x))) (hs : sortedS zs = true) : decide (V.str x = V.str (Txt.join Str.empty zs)) = decide (x.cps.toList.Pairwise (· < ·)) := by
  obtain ⟨i1, i2, i3, i4⟩ := setFold_all _ (signsOf x) rfl
  have nd : zs.Nodup := hp.nodup_iff.mpr i1
  have hm : ∀ z, z ∈ zs ↔ z ∈ signsOf x := fun z => (hp.mem_iff).trans (i2 z)
  obtain ⟨cs, rfl⟩ : ∃ cs : List Nat, zs = cs.map sg := by
    have all : ∀ z ∈ zs, ∃ c, z = sg c := fun z hz => by
      have := (hm z).mp hz
      unfold signsOf at this
      obtain ⟨c, _, rfl⟩ := List.mem_map.mp this
      exact ⟨c, rfl⟩
    clear hp hs nd hm i1 i2 i3 i4
    induction zs with
    | nil => exact ⟨[], rfl⟩
    | cons z t ih =>
      obtain ⟨c, rfl⟩ := all z (by simp)
      obtain ⟨cs, e⟩ := ih fun y hy => all y (by simp [hy])
      exact ⟨c :: cs, by rw [e]; rfl⟩
  have ndc : cs.Nodup := by
    unfold List.Nodup at nd
    rw [List.pairwise_map] at nd
    exact nd.imp fun h z => h (congrArg sg z)
  have asc : cs.Pairwise (· < ·) := by
    cases cs with
    | nil => simp
    | cons c t => exact rising_asc t c hs ndc
  have mem : ∀ c, c ∈ cs ↔ c ∈ x.cps.toList := fun c => by
    have := hm (sg c)
    unfold signsOf at this
    constructor
    · intro h
      obtain ⟨d, hd, e⟩ := List.mem_map.mp (this.mp (List.mem_map.mpr ⟨c, h, rfl⟩))
      rw [← sg_inj e]; exact hd
    · intro h
      obtain ⟨d, hd, e⟩ := List.mem_map.mp (this.mpr (List.mem_map.mpr ⟨c, h, rfl⟩))
      rw [← sg_inj e]; exact hd
  have ej : (Txt.join Str.empty (cs.map sg)).cps.toList = cs := by rw [TL.join_eq, join_signs]
  by_cases h : x.cps.toList.Pairwise (· < ·)
  · rw [decide_eq_true h, decide_eq_true]
    congr 1
    exact str_ext (by rw [ej]; exact asc_eq h asc fun z => (mem z).symm)
  · rw [decide_eq_false h, decide_eq_false]
    intro e
    have e' : x = _ := V.str.inj e
    apply h
    rw [e', ej]
    exact asc
end My
namespace My
open PySem PySem.Spec PyProof.Rows L2 PySem.GX
def areSignsL : List Str → Bool
  | [x] => decide (1 ≤ x.length) && decide (x.length ≤ 3) && madeL x abc && decide (x.cps.toList.Pairwise (· < ·))
  | _ => false
def areMoodsL (ws : List Str) : Bool := decide (1 ≤ ws.length) && decide (ws.length ≤ 300) && ws.all isWordL && decide ws.Nodup
def areGoodL (ws ms : List Str) : Bool := decide (ws = ms.filter fun m => decide (m ∈ ws))
end My
namespace My
open PySem PySem.Spec PyProof.Rows L2 PySem.GX
theorem areS1 (x : Str) : areSignsL [x] = (decide (1 ≤ x.length) && decide (x.length ≤ 3) && madeL x abc && decide (x.cps.toList.Pairwise (· < ·))) := rfl
def spSigns (K : PySem.W.Frag) : Sp := fun vs H Q _ => ∃ (l : Addr) (ws : List Str), vs = [.ref l] ∧ H l = some (.lst (ws.map V.str)) ∧ (∀ x ∈ ws, x.length ≤ 16000000) ∧ ∀ H', Same H H' → Q (.bl (areSignsL ws)) H'
def spMoods (K : PySem.W.Frag) : Sp := fun vs H Q _ => ∃ (l : Addr) (ws : List Str), vs = [.ref l] ∧ H l = some (.lst (ws.map V.str)) ∧ (∀ x ∈ ws, x.length ≤ 16000000) ∧ ∀ H', Same H H' → Q (.bl (areMoodsL ws)) H'
section
variable {P : Program} {w : World} {K : PySem.W.Frag} {mg : Str → Option Value} {base : Heap}
theorem scSigns : FnScope ["words"] ["words"] (defScope sSigns) := ⟨rfl, rfl, rfl, by decide +kernel, rfl, by decide +kernel, by decide +kernel⟩
theorem ok_signs {f : Addr} {fd : FuncData} {tA tB : Tok} (F : Fun K "are_signs" "are_signs" sSigns f fd) (hO : Hv P w K mg base 1 "made_of" ["text", "letters"] spMade) (gA : mg "LETTERS" = some (.str abc tB)) (hL : mg "len" = none) (hS : mg "set" = none) (hT : mg "sorted" = none) (gM : mg "MOST_SIGNS" = some (.int 3 tA)) :
    FnOk P w K mg base CX0 2 f fd ["words"] (spSigns K) := by
  refine F.ok scSigns (fun vs H Q E h => ?_) (fun cdv A outer s H vs Q E hr h => ?_)
  · obtain ⟨l, ws, rfl, _⟩ := h
    rfl
  · obtain ⟨l, ws, rfl, hl, hx, k⟩ := h
    refine ⟨_, pss_cons (ps_if (PW.pt (pw_or (pt_cmpR op_ne (pe_callB call_len_seq (by rfl) hL PySem.boot_len (pa_cons (pv 0) pa_nil)) pe_int (nomark _))
        (pw_or1 (pt_not (pt_chain op_le op_le pe_int (pe_callB call_len_str (by rfl) hL PySem.boot_len (pa_cons (pe_ix ix_list (pv 0) pe_int (fun _ _ => rfl)) pa_nil)) (pe_glob (v := .int 3) rfl gM ⟨_, rfl⟩))))))
        (pss_one (ps_ret pe_bl)) pss_nil)
      (pss_one (ps_ret (pe_and (pe_cl hO hr rfl pass0 (pa_cons (pe_ix ix_list (pv 0) pe_int (fun _ _ => rfl)) (pa_cons (pe_glob (v := .str abc) rfl gA ⟨_, rfl⟩) pa_nil)))
        (pe_one (pe_cmpR op_eq (pe_ix ix_list (pv 0) pe_int (fun _ _ => rfl)) (pe_join pe_str (pe_callB (cr_sortedTx rfl) (by rfl) hT (by decide +kernel) (pa_cons (pe_callTy (cr_setS rfl) (by rfl) hS (by decide +kernel) (pa_cons (pe_ix ix_list (pv 0) pe_int (fun _ _ => rfl)) pa_nil)) pa_nil))) (nomark _)))))), ?_⟩
    refine ⟨_, rfl, l, _, rfl, .inl (SqL.of hl), rfl, _, rfl, ?_⟩
    rw [List.length_map]
    match ws, hl, hx, k with
    | [], hl, hx, k => exact iteT (iteT (k _ (Same.refl _)))
    | _ :: _ :: _, hl, hx, k =>
      refine ite2 (fun c => iteT (k _ (Same.refl _))) (fun c => ?_)
      exfalso
      apply c
      simp
      omega
    | [x], hl, hx, k =>
      refine iteF ?_
      have hz := hx x (by simp)
      refine ⟨_, rfl, l, _, _, _, rfl, rfl, SqL.of hl, atI_nat (j := 0) rfl, x, rfl, (by rw [sizeLine_eq]; omega), _, _, rfl, rfl, _, rfl, ?_⟩
      refine ite2 (fun c1 => ?_) (fun c1 => ?_)
      · refine ⟨_, _, rfl, rfl, _, rfl, ?_⟩
        have h1 := of_decide_eq_true c1
        refine ite2 (fun c2 => ?_) (fun c2 => ?_)
        · have e : areSignsL [x] = false := by
            have h2 : (3 : Int) < (x.length : Int) := by simpa using c2
            rw [areS1]
            rw [decide_eq_false (by omega : ¬ x.length ≤ 3)]
            simp
          rw [e] at k
          exact k _ (Same.refl _)
        · have h2 : (x.length : Int) ≤ 3 := by simpa using c2
          have e : areSignsL [x] = (madeL x abc && decide (x.cps.toList.Pairwise (· < ·))) := by
            rw [areS1, decide_eq_true (show 1 ≤ x.length by omega), decide_eq_true (show x.length ≤ 3 by omega)]
            simp
          rw [e] at k
          refine ⟨_, rfl, l, _, _, _, rfl, rfl, SqL.of hl, atI_nat (j := 0) rfl, x, abc, rfl, hz, fun H1 s1 => ⟨_, rfl, ite2 (fun c3 => ?_) (fun c3 => ?_)⟩⟩
          · have hl1 := s1 _ _ hl
            refine ⟨_, rfl, l, _, _, _, rfl, rfl, SqL.of hl1, atI_nat (j := 0) rfl, ⟨_, rfl⟩, _, rfl, l, _, _, _, rfl, rfl, SqL.of hl1, atI_nat (j := 0) rfl, x, rfl, (by omega), fun p hp => ⟨p, _, rfl, upd_same, fun zs q pz sz hq => ?_⟩⟩
            have hlen : zs.length ≤ 3 := by
              rw [pz.length_eq]
              have := setFold_len _ (signsOf x) rfl
              have e2 : (signsOf x).length = x.length := by unfold signsOf; rw [List.length_map, Array.length_toList]; rfl
              omega
            have hone : ∀ z ∈ zs, z.length = 1 := fun z hz => by
              have := (setFold_all _ (signsOf x) rfl).2.1 z |>.mp (pz.mem_iff.mp hz)
              unfold signsOf at this
              obtain ⟨c, _, rfl⟩ := List.mem_map.mp this
              rfl
            refine ⟨_, q, zs, rfl, rfl, .inl (SqL.of upd_same), ?_, rfl, ?_⟩
            · have : (zs.map (·.length)).sum = zs.length := by
                clear pz sz hq hlen
                induction zs with
                | nil => rfl
                | cons z t ih => 
                  rw [List.map_cons, List.sum_cons, ih (fun y hy => hone y (by simp [hy])), hone z (by simp), List.length_cons]
                  omega
              rw [this]
              have e0 : (Str.ofString "").length = 0 := rfl
              rw [e0]
              omega
            · have := asc_join pz sz
              rw [c3, Bool.true_and] at k
              rw [← this] at k
              exact k _ ((s1.trans (same_new hp)).trans (same_new hq))
          · rw [Bool.eq_false_iff.mpr c3] at k
            exact k _ s1
      · refine ⟨_, rfl, iteT ?_⟩
        have e : areSignsL [x] = false := by
          have h2 := of_decide_eq_false (Bool.eq_false_iff.mpr c1)
          rw [areS1]
          rw [decide_eq_false (by omega : ¬ 1 ≤ x.length)]
          simp
        rw [e] at k
        exact k _ (Same.refl _)
end
end My
namespace My
open PySem PySem.Spec PyProof.Rows L2
theorem len_app (a b : Str) : (a ++ b).length = a.length + b.length := Str.length_append a b
theorem cps_app (a b : Str) : (a ++ b).cps.toList = a.cps.toList ++ b.cps.toList := by
  show (a.cps ++ b.cps).toList = _
  exact Array.toList_append
theorem ok_low {y : Str} (h : ∀ c ∈ y.cps.toList, c < 256) : PyData.strOk y = true := by
  unfold PyData.strOk
  rw [Array.all_eq_true_iff_forall_mem]
  intro c hc
  have := h c (by simpa using hc)
  simp
  omega
theorem yat_same (xs : List V) : ∀ i H x H', YAt xs i H x H' → Same H H' := fun i H x H' h => by rw [h.1]; exact Same.refl _
theorem map_get {α : Type} {xs : List α} {f : α → V} {i : Nat} {a : α} {x : V} (ha : xs[i]? = some a) (h : (xs.map f)[i]? = some x) : x = f a := by
  rw [List.getElem?_map, ha] at h
  exact (Option.some.inj h).symm
theorem walk_listL {K : PySem.W.Frag} {a : Addr} {α : Type} (xs : List α) (f : α → V) : Walk (Itl K a) xs.length (fun H => SqL K H a (xs.map f)) (YAt (xs.map f)) := by
  have := walk_list (K := K) (a := a) (xs := xs.map f)
  rw [List.length_map] at this
  exact this
theorem in_strs (x : Str) : ∀ ys : List Str, inV (.str x) (ys.map V.str) = decide (x ∈ ys)
  | [] => rfl
  | y :: t => by
    have ih := in_strs x t
    unfold inV at ih ⊢
    rw [List.map_cons, List.any_cons, ih]
    have e : eqV (.str y) (.str x) = decide (y = x) := by
      show (y == x) = _
      by_cases h : y = x
      · subst h; simp
      · simp [h]
    rw [e]
    by_cases h : y = x
    · subst h; simp
    · simp [h, Ne.symm h]
theorem flat_strs (ys : List Str) : (ys.map V.str).all flatV = true := by
  rw [List.all_map]
  exact List.all_eq_true.mpr fun _ _ => rfl
end My
namespace My
open PySem PySem.Spec PyProof.Rows L2 PySem.GX
section
variable {P : Program} {w : World} {K : PySem.W.Frag} {mg : Str → Option Value} {base : Heap}
theorem scMoods : FnScope ["words", "word"] ["words"] (defScope sMoods) := ⟨rfl, rfl, rfl, by decide +kernel, rfl, by decide +kernel, by decide +kernel⟩
theorem ok_moods {f : Addr} {fd : FuncData} {tA : Tok} (F : Fun K "are_moods" "are_moods" sMoods f fd) (hW : Hv P w K mg base 2 "is_word" ["text"] spWord) (hL : mg "len" = none) (hS : mg "set" = none) (hA : mg "all" = none) (gM : mg "MOST_MOODS" = some (.int 300 tA)) :
    FnOk P w K mg base CX0 3 f fd ["words"] (spMoods K) := by
  refine F.ok scMoods (fun vs H Q E h => ?_) (fun cdv A outer s H vs Q E hr h => ?_)
  · obtain ⟨l, ws, rfl, _⟩ := h
    rfl
  · obtain ⟨l, ws, rfl, hl, hx, k⟩ := h
    refine ⟨_, pss_cons (ps_if (pt_not (pt_chain op_le op_le pe_int (pe_callB call_len_seq (by rfl) hL PySem.boot_len (pa_cons (pv 0) pa_nil)) (pe_glob (v := .int 300) rfl gM ⟨_, rfl⟩)))
        (pss_one (ps_ret pe_bl)) pss_nil)
      (pss_one (ps_ret (pe_and (pe_callB (cr_all rfl) (by rfl) hA (by decide +kernel) (pa_cons (pe_lc (own := [("word", 1)]) (g := gName 1) (tt := tYes) rfl scMoods.nd (pi_list (pv 0))
          (blkOk_by (N := ["words", "word"]) (sc := defScope sMoods) (by decide +kernel)) (fun _ _ _ _ _ => pg_name (i := 1) scMoods.nd rfl (Or.inl rfl)) (fun _ _ _ _ _ => pts_nil) (fun _ _ _ _ _ => pe_cl hW hr rfl pass0 (pa_cons (pv 1) pa_nil))) pa_nil))
        (pe_one (pe_cmpR op_eq (pe_callB cr_lenSet (by rfl) hL PySem.boot_len (pa_cons (pe_callTy (cr_setL rfl) (by rfl) hS (by decide +kernel) (pa_cons (pv 0) pa_nil)) pa_nil)) (pe_callB call_len_seq (by rfl) hL PySem.boot_len (pa_cons (pv 0) pa_nil)) (nomark _)))))), ?_⟩
    refine ⟨_, rfl, l, _, rfl, .inl (SqL.of hl), _, _, rfl, rfl, _, rfl, ?_⟩
    rw [List.length_map]
    refine ite2 (fun c1 => ?_) (fun c1 => ?_)
    · refine ⟨_, _, rfl, rfl, _, rfl, ?_⟩
      have h1 := of_decide_eq_true c1
      refine ite2 (fun c2 => ?_) (fun c2 => ?_)
      · have e : areMoodsL ws = false := by
          have h2 : (300 : Int) < (ws.length : Int) := by simpa using c2
          unfold areMoodsL
          rw [decide_eq_false (by omega : ¬ ws.length ≤ 300)]
          simp
        rw [e] at k
        exact k _ (Same.refl _)
      · have h2 : (ws.length : Int) ≤ 300 := by simpa using c2
        have e : areMoodsL ws = (ws.all isWordL && decide ws.Nodup) := by
          unfold areMoodsL
          rw [decide_eq_true (show 1 ≤ ws.length by omega), decide_eq_true (show ws.length ≤ 300 by omega)]
          simp
        rw [e] at k
        refine ⟨_, rfl, l, rfl, ⟨_, SqL.of hl⟩, fun D hD => ?_⟩
        refine lcG ws (fun x => some (.bl (isWordL x))) (by have := walk_list (K := K) (a := l) (xs := ws.map V.str); rw [List.length_map] at this; exact this) (by omega) hD (yat_same _) (fun H' s => SqL.of (s _ _ hl)) (fun i x y H' H'' k1 hx' s1 hy k2 => ?_) (fun H1 s1 e1 => ?_)
        · obtain ⟨rfl, hy⟩ := hy
          obtain rfl := map_get hx' hy
          refine ⟨rfl, _, rfl, x, rfl, hx x (List.mem_of_getElem? hx'), fun H4 s4 => k2 _ s4⟩
        · refine ⟨D, ws.map isWordL, rfl, SqL.of ?_, _, rfl, ?_⟩
          · rw [e1, List.filterMap_eq_map', List.map_map]
            rfl
          · have ea : (ws.map isWordL).all id = ws.all isWordL := by rw [List.all_map]; rfl
            rw [ea]
            refine ite2 (fun c3 => ?_) (fun c3 => ?_)
            · have hl1 := s1 _ _ hl
              refine ⟨_, rfl, l, ws, rfl, SqL.of hl1, (by omega), fun p hp => ⟨p, _, rfl, upd_same, _, rfl, l, _, rfl, .inl (SqL.of (keep1 hl1 hp)), rfl, ?_⟩⟩
              rw [c3, Bool.true_and, ← setFold_eqlen] at k
              rw [List.length_map]
              have ed : decide (V.int ((setFold ws).length : Nat) = V.int (ws.length : Nat)) = decide ((setFold ws).length = ws.length) := by
                rw [dec_int]
                by_cases hc : (setFold ws).length = ws.length
                · rw [hc]; simp
                · rw [decide_eq_false hc]
                  simp
                  omega
              rw [ed]
              exact k _ (s1.trans (same_new hp))
            · rw [Bool.eq_false_iff.mpr c3] at k
              exact k _ s1
    · have e : areMoodsL ws = false := by
        have h2 := of_decide_eq_false (Bool.eq_false_iff.mpr c1)
        unfold areMoodsL
        rw [decide_eq_false (by omega : ¬ 1 ≤ ws.length)]
        simp
      rw [e] at k
      exact ⟨_, rfl, iteT (k _ (Same.refl _))⟩
end
end My
namespace My
open PySem PySem.Spec PyProof.Rows L2 PySem.GX
def spGood (K : PySem.W.Frag) : Sp := fun vs H Q _ => ∃ (l m : Addr) (ws ms : List Str), vs = [.ref l, .ref m] ∧ H l = some (.lst (ws.map V.str)) ∧ H m = some (.lst (ms.map V.str)) ∧ ws.length ≤ 16000000 ∧ ms.length ≤ 16000000 ∧
  (∀ x ∈ ws, PyData.strOk x = true) ∧ (∀ x ∈ ms, PyData.strOk x = true) ∧ ∀ H', Same H H' → Q (.bl (areGoodL ws ms)) H'
/-- the dict {x: True for x in ws} -/
abbrev dTrue (ws : List Str) : List (Key × V) := dOf (fun x => (Sum.inr x : Key)) (fun _ => V.bl true) ws
theorem dTrue_val (ws : List Str) (m : Str) : (valV (dTrue ws) (Sum.inr m)).isSome = decide (m ∈ ws) := by
  rw [dOf_val]
  congr 1
  simp
theorem fm_filter (p : Str → Bool) : ∀ ms : List Str, (ms.filterMap fun m => if p m = true then some (V.str m) else none) = (ms.filter p).map V.str
  | [] => rfl
  | m :: t => by
    rw [List.filterMap_cons, List.filter_cons]
    cases h : p m with
    | true => simp [fm_filter p t]
    | false => simp [fm_filter p t]
section
variable {P : Program} {w : World} {K : PySem.W.Frag} {mg : Str → Option Value} {base : Heap}
theorem scGood : FnScope ["words", "moods", "chosen", "word", "mood"] ["words", "moods"] (defScope sGood) := ⟨rfl, rfl, rfl, by decide +kernel, rfl, by decide +kernel, by decide +kernel⟩
theorem ok_good {f : Addr} {fd : FuncData} (F : Fun K "are_good" "are_good" sGood f fd) : FnOk P w K mg base CX0 1 f fd ["words", "moods"] (spGood K) := by
  refine F.ok scGood (fun vs H Q E h => ?_) (fun cdv A outer s H vs Q E hr h => ?_)
  · obtain ⟨l, m, ws, ms, rfl, _⟩ := h
    rfl
  · obtain ⟨l, m, ws, ms, rfl, hl, hm, z1, z2, o1, o2, k⟩ := h
    refine ⟨_, pss_cons (ps_set (i := 2) scGood.nd rfl (Or.inr rfl) (pe_dc (own := [("word", 3)]) (g := gName 3) (tt := tYes) rfl scGood.nd (pi_list (pv 0))
          (blkOk_by (N := ["words", "moods", "chosen", "word", "mood"]) (sc := defScope sGood) (by decide +kernel)) (fun _ _ _ _ _ => pg_name (i := 3) scGood.nd rfl (Or.inl rfl)) (fun _ _ _ _ _ => pts_nil) (fun _ _ _ _ _ => pv 3) (fun _ _ _ _ _ => pe_bl)))
      (pss_one (ps_ret (pe_cmpR (op_eqD hr.units) (pv 0) (pe_lc (own := [("mood", 4)]) (g := gName 4) rfl scGood.nd (pi_list (pv 1))
          (blkOk_by (N := ["words", "moods", "chosen", "word", "mood"]) (sc := defScope sGood) (by decide +kernel)) (fun _ _ _ _ _ => pg_name (i := 4) scGood.nd rfl (Or.inl rfl)) (fun _ _ _ _ _ => pts_one (pt_cmp (pc_din (hu_of hr) (pv 4) (pv 2)))) (fun _ _ _ _ _ => pv 4)) (nomark _)))), ?_⟩
    refine ⟨_, rfl, l, rfl, ⟨_, SqL.of hl⟩, fun D hD => ?_⟩
    refine dcG ws (fun x => (Sum.inr x : Key)) (fun _ => V.bl true) (by have := walk_list (K := K) (a := l) (xs := ws.map V.str); rw [List.length_map] at this; exact this) z1 hD (yat_same _) (fun H' s => SqL.of (s _ _ hl)) (fun i x y H' H'' k1 k0 hx s1 hy k2 => ?_) (fun H1 s1 e1 => ?_)
    · obtain ⟨rfl, hy⟩ := hy
      obtain rfl := map_get hx hy
      exact ⟨rfl, _, rfl, k2 _ (Same.refl _)⟩
    · have hl1 := s1 _ _ hl
      have hm1 := s1 _ _ hm
      refine ⟨_, rfl, _, rfl, m, rfl, ⟨_, SqL.of hm1⟩, fun E' hE => ?_⟩
      refine lcG ms (fun x => if decide (x ∈ ws) = true then some (V.str x) else none) (by have := walk_list (K := K) (a := m) (xs := ms.map V.str); rw [List.length_map] at this; exact this) z2 hE (yat_same _) (fun H' s => SqL.of (s _ _ hm1)) (fun i x y H' H'' k1 hx s2 hy k2 => ?_) (fun H2 s2 e2 => ?_)
      · obtain ⟨rfl, hy⟩ := hy
        obtain rfl := map_get hx hy
        have kk := k2 _ (Same.refl _)
        refine ⟨rfl, _, rfl, _, rfl, D, _, rfl, DGet.k (k := Sum.inr x) (s2 _ _ e1), _, rfl, ?_⟩
        rw [dTrue_val]
        refine ite2 (fun c => ?_) (fun c => ?_)
        · rw [if_pos c] at kk
          exact ⟨_, rfl, kk⟩
        · rw [if_neg c] at kk
          exact kk
      · rw [fm_filter] at e2
        refine ⟨dTx ws, dTx (ms.filter fun x => decide (x ∈ ws)), dp_dTx (s2 _ _ hl1), dp_dTx e2, shaped_dTx o1, shaped_dTx fun x hx => o2 x ((List.mem_filter.mp hx).1), ?_⟩
        rw [eqv_dTx]
        exact k _ (s1.trans s2)
end
end My
namespace L2
open PySem PySem.Spec PyProof.Rows PySem.GX
theorem del_same_of (H : Hp) (p : Addr) : Same (del H p) H := fun b o e => by
  by_cases hb : b = p
  · rw [hb, del_same] at e; cases e
  · rw [del_ne hb] at e
    exact e
/-- the new list D holds new lists with these rows; all that was in H1 stands -/
structure Pr (H1 : Hp) (D : Addr) (H' : Hp) (rs : List (List Str)) : Prop where
  ex : ∃ as : List Addr, Same H1 H' ∧ H' D = some (.lst (as.map V.ref)) ∧ Rw (del H' D) as rs
section
variable {H1 H' H'' : Hp} {D p : Addr} {rs : List (List Str)} {r : List Str}
theorem Pr.zero (hD : H1 D = none) : Pr H1 D (upd H1 D (.lst [])) [] := ⟨[], same_new hD, upd_same, .nil⟩
theorem Pr.keeps (h : Pr H1 D H' rs) : Same H1 H' := let ⟨_, s, _, _⟩ := h.ex; s
theorem Pr.same (h : Pr H1 D H' rs) (s : Same H' H'') : Pr H1 D H'' rs := by
  obtain ⟨as, s1, e, t⟩ := h.ex
  exact ⟨as, s1.trans s, s _ _ e, t.same (same_del s)⟩
theorem Pr.push (h : Pr H1 D H' rs) (hD : H1 D = none) (hp : H' p = none) (hl : rs.length < 16000000) :
    ∃ acc, (upd H' p (.lst (r.map V.str))) D = some (.lst acc) ∧ acc.length < sizeLine ∧ Pr H1 D (upd (upd H' p (.lst (r.map V.str))) D (.lst (acc ++ [.ref p]))) (rs ++ [r]) := by
  obtain ⟨as, s1, e, t⟩ := h.ex
  have ne : D ≠ p := ne_of_none e hp
  refine ⟨as.map V.ref, by rw [upd_ne ne]; exact e, ?_, ⟨as ++ [p], fun b o z => ?_, ?_, ?_⟩⟩
  · rw [List.length_map, t.len, sizeLine_eq]
    omega
  · rw [upd_ne (ne_of_none z hD), upd_ne (ne_of_none (s1 _ _ z) hp)]
    exact s1 _ _ z
  · rw [upd_same, List.map_append]
    rfl
  · rw [del_upd]
    refine Rw.snoc ?_ (t.same (same_del (same_new hp)))
    rw [del_ne ne.symm, upd_same]
theorem Pr.rw_ (h : Pr H1 D H' rs) : ∃ as : List Addr, Same H1 H' ∧ H' D = some (.lst (as.map V.ref)) ∧ Rw H' as rs := by
  obtain ⟨as, s1, e, t⟩ := h.ex
  exact ⟨as, s1, e, t.same (del_same_of _ _)⟩
end
theorem cut_to (ws : List Str) (n : Nat) (hn : n < 2 ^ 62) : cutV (ws.map V.str) none (some (n : Int)) = (ws.take n).map V.str := by
  unfold cutV
  have e0 : HT.sIx (ws.map V.str).length 0 none = 0 := rfl
  have e1 : HT.sIx (ws.map V.str).length (ws.map V.str).length (some (n : Int)) = min n (ws.map V.str).length := by
    unfold HT.sIx
    simp
    omega
  rw [e0, e1, List.drop_zero, Nat.sub_zero, List.map_take]
  apply List.ext_getElem?
  intro i
  simp only [List.getElem?_take]
  by_cases h : i < n
  · by_cases h2 : i < (ws.map V.str).length
    · rw [if_pos h, if_pos (by omega)]
    · rw [if_pos h, if_neg (by omega), List.getElem?_eq_none (by omega)]
  · rw [if_neg h, if_neg (by omega)]
theorem cut_fromV (xs : List V) (n : Nat) (hn : n < 2 ^ 62) : cutV xs (some (n : Int)) none = xs.drop n := by
  unfold cutV
  have e1 : HT.sIx xs.length xs.length none = xs.length := rfl
  have e0 : HT.sIx xs.length 0 (some (n : Int)) = min n xs.length := by
    unfold HT.sIx
    simp
    omega
  rw [e0, e1]
  apply List.ext_getElem?
  intro i
  simp only [List.getElem?_take, List.getElem?_drop]
  by_cases h : i < xs.length - min n xs.length
  · rw [if_pos h]
    congr 1
    omega
  · rw [if_neg h, List.getElem?_eq_none (by omega)]
theorem cut_toV (xs : List V) (n : Nat) (hn : n < 2 ^ 62) : cutV xs none (some (n : Int)) = xs.take n := by
  unfold cutV
  have e0 : HT.sIx xs.length 0 none = 0 := rfl
  have e1 : HT.sIx xs.length xs.length (some (n : Int)) = min n xs.length := by
    unfold HT.sIx
    simp
    omega
  rw [e0, e1, List.drop_zero, Nat.sub_zero]
  apply List.ext_getElem?
  intro i
  simp only [List.getElem?_take]
  by_cases h : i < n
  · by_cases h2 : i < xs.length
    · rw [if_pos h, if_pos (by omega)]
    · rw [if_pos h, if_neg (by omega), List.getElem?_eq_none (by omega)]
  · rw [if_neg h, if_neg (by omega)]
end L2
namespace My
open PySem PySem.Spec PyProof.Rows L2 PySem.GX
/-- the beginnings of the rows of goals, in their order -/
def pairsL (x : Str) (ms : List Str) : List (List Str) := ms.flatMap fun m => x.cps.toList.map fun c => [m, sg c]
def rowOkL (ms : List Str) (r : List Str) : Bool := decide (r.length = 3) && decide (r.getD 2 Str.empty ∈ ms)
def goalsOkL (x : Str) (ms : List Str) (rs : List (List Str)) : Bool := decide (rs.map (List.take 2) = pairsL x ms) && rs.all (rowOkL ms)
/-- the dict that the rows write -/
def goalsD (rs : List (List Str)) : List (List Key × V) := dOf (fun r => [Sum.inr (r.getD 0 Str.empty), Sum.inr (r.getD 1 Str.empty)]) (fun r => V.str (r.getD 2 Str.empty)) rs
def spGoals : Sp := fun vs H Q _ => ∃ (x : Str) (m l : Addr) (ms : List Str) (as : List Addr) (rs : List (List Str)), vs = [.str x, .ref m, .ref l] ∧ H m = some (.lst (ms.map V.str)) ∧ H l = some (.lst (as.map V.ref)) ∧ Rw H as rs ∧
  x.length ≤ 3 ∧ ms.length ≤ 300 ∧ rs.length ≤ 16000000 ∧ PyData.strOk x = true ∧ (∀ y ∈ ms, PyData.strOk y = true) ∧ (∀ r ∈ rs, ∀ y ∈ r, PyData.strOk y = true) ∧
  (goalsOkL x ms rs = false → ∀ H', Same H H' → Q .non H') ∧ (goalsOkL x ms rs = true → ∀ D H', H D = none → Same H H' → H' D = some (.dT (goalsD rs)) → Q (.ref D) H')
theorem pairs_take {x : Str} {ms : List Str} {i : Nat} {m : Str} (h : ms[i]? = some m) : pairsL x (ms.take (i + 1)) = pairsL x (ms.take i) ++ x.cps.toList.map fun c => [m, sg c] := by
  unfold pairsL
  rw [List.take_add_one, h, List.flatMap_append]
  simp
theorem pairs_len (x : Str) (ms : List Str) : (pairsL x ms).length = ms.length * x.length := by
  unfold pairsL
  induction ms with
  | nil => simp
  | cons m t ih =>
    rw [List.flatMap_cons, List.length_append, ih, List.length_map, Array.length_toList, List.length_cons, Nat.succ_mul]
    show x.length + _ = _
    omega
theorem pairs_ok {x : Str} {ms : List Str} (hx : PyData.strOk x = true) (hm : ∀ y ∈ ms, PyData.strOk y = true) : ∀ r ∈ pairsL x ms, ∀ y ∈ r, PyData.strOk y = true := by
  intro r hr y hy
  unfold pairsL at hr
  obtain ⟨m, h1, h2⟩ := List.mem_flatMap.mp hr
  obtain ⟨c, h3, rfl⟩ := List.mem_map.mp h2
  simp at hy
  rcases hy with rfl | rfl
  · exact hm _ h1
  · unfold PyData.strOk at hx ⊢
    rw [Array.all_eq_true_iff_forall_mem] at hx
    have := hx c (by simpa using h3)
    simpa using this
def rLenK (K : PySem.W.Frag) : List V → Hp → VK → Prop := fun xs H Q => ∃ p ys, xs = [.ref p] ∧ (SqL K H p ys ∨ SqT K H p ys) ∧ Q (.int ys.length) H
section
variable {P : Program} {w : World} {K : PySem.W.Frag} {mg : Str → Option Value} {base : Heap}
abbrev nGoals : List Str := ["signs", "moods", "rows", "known", "mood", "row", "sign", "goal"]
theorem scGoals : FnScope nGoals ["signs", "moods", "rows"] (defScope sGoals) := ⟨rfl, rfl, rfl, by decide +kernel, rfl, by decide +kernel, by decide +kernel⟩
theorem ok_goals {f : Addr} {fd : FuncData} (F : Fun K "read_goals" "read_goals" sGoals f fd) (hL : mg "len" = none) (hA : mg "all" = none) : FnOk P w K mg base CX0 1 f fd ["signs", "moods", "rows"] spGoals := by
  refine F.ok scGoals (fun vs H Q E h => ?_) (fun cdv A outer s H vs Q E hr h => ?_)
  · obtain ⟨x, m, l, ms, as, rs, rfl, _⟩ := h
    rfl
  · obtain ⟨x, m, l, ms, as, rs, rfl, hm, hl, hR, z1, z2, z3, o1, o2, o3, kN, kY⟩ := h
    refine ⟨_, pss_cons (ps_set (i := 3) scGoals.nd rfl (Or.inr rfl) (pe_dc (own := [("mood", 4)]) (g := gName 4) (tt := tYes) rfl scGoals.nd (pi_list (pv 1))
          (blkOk_by (N := nGoals) (sc := defScope sGoals) (by decide +kernel)) (fun _ _ _ _ _ => pg_name (i := 4) scGoals.nd rfl (Or.inl rfl)) (fun _ _ _ _ _ => pts_nil) (fun _ _ _ _ _ => pv 4) (fun _ _ _ _ _ => pe_bl)))
      (pss_cons (ps_if (pt_cmpR (op_neD hr.units) (pe_lc (own := [("row", 5)]) (g := gName 5) (tt := tYes) rfl scGoals.nd (pi_list (pv 2))
            (blkOk_by (N := nGoals) (sc := defScope sGoals) (by decide +kernel)) (fun _ _ _ _ _ => pg_name (i := 5) scGoals.nd rfl (Or.inl rfl)) (fun _ _ _ _ _ => pts_nil) (te := tSl (rSlL K) (tVar 5) tNoPart (tPart (tC (.int 2)))) (fun _ _ _ _ _ => pe_slice sl_list (pv 5) po_none (po_some pe_int)))
          (pe_lc2 (own := [("mood", 4), ("sign", 6)]) (vs1 := [6]) (g := gName 4) (tt := tYes) (g1 := gName 6) (tt1 := tYes) rfl scGoals.nd (pi_list (pv 1)) (blkOk_by (N := nGoals) (sc := defScope sGoals) (by decide +kernel)) (by decide)
            (fun _ _ _ _ _ => pg_name (i := 4) scGoals.nd rfl (Or.inl rfl)) (fun _ _ _ _ _ => pts_nil) (fun _ _ _ _ _ => pi_str (pv 0)) (fun _ _ _ _ _ => pg_name (i := 6) scGoals.nd rfl (Or.inl rfl)) (fun _ _ _ _ _ => pts_nil) (fun _ _ _ _ _ => pe_lst (pa_cons (pv 4) (pa_cons (pv 6) pa_nil)))) (nomark _))
        (pss_one (ps_ret pe_non)) pss_nil)
      (pss_cons (ps_if (pt_not (pt_val (pe_callB (cr_all rfl) (by rfl) hA (by decide +kernel) (pa_cons (pe_lc (own := [("row", 5)]) (g := gName 5) (tt := tYes) rfl scGoals.nd (pi_list (pv 2))
            (blkOk_by (N := nGoals) (sc := defScope sGoals) (by decide +kernel)) (fun _ _ _ _ _ => pg_name (i := 5) scGoals.nd rfl (Or.inl rfl)) (fun _ _ _ _ _ => pts_nil)
            (te := tAndV (tOp rEq (tCB (rLenK K) (tCons (tVar 5) tNil)) (tC (.int 3))) (tDIn (tOp (rIxL K) (tVar 5) (tC (.int 2))) (tVar 3))) (fun _ _ _ _ _ => pe_and (pe_cmpR op_eq (pe_callB call_len_seq (by rfl) hL PySem.boot_len (pa_cons (pv 5) pa_nil)) pe_int (nomark _)) (pe_one (pe_cmp (pc_din (hu_of hr) (pe_ix ix_list (pv 5) pe_int (fun _ _ => rfl)) (pv 3)) rfl)))) pa_nil))))
        (pss_one (ps_ret pe_non)) pss_nil)
      (pss_one (ps_ret (pe_dcT (own := [("mood", 4), ("sign", 6), ("goal", 7)]) (g := gUnl K 3 (gCons (gName 4) (gCons (gName 6) (gCons (gName 7) gNil)))) (tt := tYes) hr.units rfl scGoals.nd (pi_list (pv 2)) (blkOk_by (N := nGoals) (sc := defScope sGoals) (by decide +kernel))
            (fun _ _ _ _ _ => pg_unl (n := 3) rfl (pgs_cons (pg_name (i := 4) scGoals.nd rfl (Or.inl rfl)) (pgs_cons (pg_name (i := 6) scGoals.nd rfl (Or.inl rfl)) (pgs_cons (pg_name (i := 7) scGoals.nd rfl (Or.inl rfl)) pgs_nil))))
            (fun _ _ _ _ _ => pts_nil) (fun _ _ _ _ _ => pe_tup (pa_cons (pv 4) (pa_cons (pv 6) pa_nil))) (fun _ _ _ _ _ => pv 7)))))), ?_⟩
    refine ⟨_, rfl, m, rfl, ⟨_, SqL.of hm⟩, fun D0 hD0 => ?_⟩
    refine dcG ms (fun x => (Sum.inr x : Key)) (fun _ => V.bl true) (walk_listL ms V.str) (by omega) hD0 (yat_same _) (fun H' s => SqL.of (s _ _ hm)) (fun i x y H' H'' k1 k0 hx s1 hy k2 => ?_) (fun H1 s1 e1 => ?_)
    · obtain ⟨rfl, hy⟩ := hy
      obtain rfl := map_get hx hy
      exact ⟨rfl, _, rfl, k2 _ (Same.refl _)⟩
    have hl1 := s1 _ _ hl
    have hR1 := hR.same s1
    -- the beginnings of the rows
    refine ⟨_, rfl, l, rfl, ⟨_, SqL.of hl1⟩, fun D1 hD1 => ?_⟩
    refine lc_it (walk_listL as V.ref) (fun i H' => Pr H1 D1 H' ((rs.map (List.take 2)).take i)) (Pr.zero hD1) (fun i H' _ h => SqL.of (h.keeps _ _ hl1)) (fun i y H' H'' hi h hy => ?_) (fun H2 h2 => ?_)
    · obtain ⟨rfl, hy⟩ := hy
      have ha : as[i]? = some as[i] := List.getElem?_eq_getElem hi
      obtain rfl := map_get ha hy
      have hi' : i < rs.length := by rw [← hR.len]; exact hi
      have hr' : rs[i]? = some rs[i] := List.getElem?_eq_getElem hi'
      have et : (rs.map (List.take 2)).take (i + 1) = (rs.map (List.take 2)).take i ++ [rs[i].take 2] := by
        rw [List.take_add_one, List.getElem?_map, hr']
        rfl
      refine ⟨rfl, _, rfl, 2, rfl, as[i], _, rfl, SqL.of (h.keeps _ _ (hR1.get ha hr')), fun p hp => ?_⟩
      rw [et, show (2 : Int) = ((2 : Nat) : Int) from rfl, cut_to _ 2 (by decide)]
      exact h.push hD1 hp (by rw [List.length_take, List.length_map]; omega)
    have s2 := h2.keeps
    have hm2 := s2 _ _ (s1 _ _ hm)
    -- what they must be
    refine ⟨_, rfl, m, rfl, ⟨_, SqL.of hm2⟩, fun D2 hD2 => ?_⟩
    refine dc_it (walk_listL ms V.str) (nx := fun i H' => Pr H2 D2 H' (pairsL x (ms.take i))) (Pr.zero hD2) (fun i H' _ h => SqL.of (h.keeps _ _ hm2)) (fun i y H' H'' hi h hy => ?_) (fun H3 h3 => ?_)
    · obtain ⟨rfl, hy⟩ := hy
      have ha : ms[i]? = some ms[i] := List.getElem?_eq_getElem hi
      obtain rfl := map_get ha hy
      refine ⟨rfl, _, rfl, x, rfl, ?_⟩
      refine dc_it walk_str (nx := fun j H' => Pr H2 D2 H' (pairsL x (ms.take i) ++ (x.cps.toList.take j).map fun c => [ms[i], sg c])) (by rw [List.take_zero, List.map_nil, List.append_nil]; exact h) (fun _ _ _ _ => trivial) (fun j y H4 H5 hj h4 hy => ?_) (fun H4 h4 => ?_)
      · obtain ⟨rfl, c, hc, rfl⟩ := hy
        have et : (x.cps.toList.take (j + 1)).map (fun c => [ms[i], sg c]) = (x.cps.toList.take j).map (fun c => [ms[i], sg c]) ++ [[ms[i], sg c]] := by
          rw [List.take_add_one, Array.getElem?_toList, hc, List.map_append]
          rfl
        refine ⟨rfl, _, rfl, _, rfl, (by show 2 ≤ sizeLine; decide), fun p hp => ?_⟩
        rw [et, ← List.append_assoc]
        refine h4.push (r := [ms[i], sg c]) hD2 hp ?_
        have a1 : (pairsL x (ms.take i)).length ≤ 900 := by
          rw [pairs_len, List.length_take]
          exact Nat.le_trans (Nat.mul_le_mul (by omega : min i ms.length ≤ 300) z1) (by decide)
        have a2 : ((x.cps.toList.take j).map fun c => [ms[i], sg c]).length ≤ j := by
          rw [List.length_map, List.length_take]
          omega
        have z5 : x.cps.size ≤ 3 := z1
        rw [List.length_append]
        omega
      · show Pr H2 D2 H4 _
        rw [pairs_take ha]
        have : x.cps.toList.take x.cps.size = x.cps.toList := by rw [← Array.length_toList, List.take_length]
        rw [this] at h4
        exact h4
    rw [List.take_length] at h3
    have h2' := h2
    rw [hR.len, ← List.length_map (f := List.take 2), List.take_length] at h2'
    obtain ⟨bs, sb, eb, rb⟩ := (h2'.same h3.keeps).rw_
    obtain ⟨cs, sc, ec, rc⟩ := h3.rw_
    have s3 := (s1.trans s2).trans h3.keeps
    refine ⟨dTab (rs.map (List.take 2)), dTab (pairsL x ms), dp_dTab eb rb, dp_dTab ec rc, shaped_dTab (fun r hr y hy => ?_), shaped_dTab (pairs_ok o1 o2), _, rfl, ?_⟩
    · obtain ⟨r', h1, rfl⟩ := List.mem_map.mp hr
      exact o3 r' h1 y (List.mem_of_mem_take hy)
    rw [eqv_dTab]
    refine ite2 (fun c => ?_) (fun c => ?_)
    · refine kN ?_ _ s3
      unfold goalsOkL
      have : decide (rs.map (List.take 2) = pairsL x ms) = false := by simpa using c
      rw [this]
      rfl
    have ep : rs.map (List.take 2) = pairsL x ms := by simpa using c
    have hl3 := s3 _ _ hl
    have hR3 := hR.same s3
    have e3 := h3.keeps _ _ (s2 _ _ e1)
    refine ⟨_, rfl, l, rfl, ⟨_, SqL.of hl3⟩, fun D3 hD3 => ?_⟩
    refine lcG (as.zip rs) (fun ar => some (.bl (rowOkL ms ar.2))) (by rw [List.length_zip, ← hR.len, Nat.min_self]; exact walk_listL as V.ref) (by rw [List.length_zip]; omega) hD3 (yat_same _) (fun H' s => SqL.of (s _ _ hl3)) (fun i ar y H' H'' k1 hz sz hy k2 => ?_) (fun H4 s4 e4 => ?_)
    · obtain ⟨rfl, hy⟩ := hy
      rw [List.getElem?_zip_eq_some] at hz
      obtain rfl := map_get hz.1 hy
      have hrow := sz _ _ (hR3.get hz.1 hz.2)
      have kk := k2 _ (Same.refl _)
      refine ⟨rfl, _, rfl, ar.1, _, rfl, .inl (SqL.of hrow), rfl, _, rfl, ?_⟩
      rw [List.length_map, dec_int]
      have ed : ((ar.2.length : Int) == 3) = decide (ar.2.length = 3) := by
        by_cases hc : ar.2.length = 3
        · rw [hc]; rfl
        · rw [decide_eq_false hc]
          simp
          omega
      rw [ed]
      unfold rowOkL at kk
      refine ite2 (fun c3 => ?_) (fun c3 => ?_)
      · have h3' := of_decide_eq_true c3
        have hg : ar.2[2]? = some (ar.2.getD 2 Str.empty) := by
          rw [List.getD_eq_getElem?_getD, List.getElem?_eq_getElem (by omega)]
          rfl
        refine ⟨_, rfl, ar.1, _, _, V.str (ar.2.getD 2 Str.empty), rfl, rfl, SqL.of hrow, atI_nat (j := 2) (by rw [List.getElem?_map, hg]; rfl), _, rfl, D0, _, rfl, DGet.k (k := Sum.inr (ar.2.getD 2 Str.empty)) (sz _ _ e3), ?_⟩
        rw [dTrue_val]
        rw [c3, Bool.true_and] at kk
        exact kk
      · rw [Bool.eq_false_iff.mpr c3, Bool.false_and] at kk
        exact kk
    have ez : (as.zip rs).filterMap (fun ar => some (V.bl (rowOkL ms ar.2))) = (rs.map (rowOkL ms)).map V.bl := by
      rw [List.filterMap_eq_map', List.map_map]
      have : (as.zip rs).map Prod.snd = rs := List.map_snd_zip (by rw [hR.len]; exact Nat.le_refl _)
      conv => rhs; rw [← this, List.map_map]
      rfl
    rw [ez] at e4
    refine ⟨D3, _, rfl, SqL.of e4, _, rfl, ?_⟩
    have ea : (rs.map (rowOkL ms)).all id = rs.all (rowOkL ms) := by rw [List.all_map]; rfl
    rw [ea]
    have eg : goalsOkL x ms rs = rs.all (rowOkL ms) := by
      unfold goalsOkL
      rw [decide_eq_true ep, Bool.true_and]
    refine ite2 (fun c4 => ?_) (fun c4 => ?_)
    · refine kN ?_ _ (s3.trans s4)
      rw [eg]
      simpa using c4
    have c5 : rs.all (rowOkL ms) = true := by simpa using c4
    have hl4 := s4 _ _ hl3
    have hR4 := hR3.same s4
    refine ⟨_, rfl, l, rfl, ⟨_, SqL.of hl4⟩, fun D4 hD4 => ?_⟩
    refine dcGT (as.zip rs) (fun ar => [Sum.inr (ar.2.getD 0 Str.empty), Sum.inr (ar.2.getD 1 Str.empty)]) (fun ar => V.str (ar.2.getD 2 Str.empty)) (by rw [List.length_zip, ← hR.len, Nat.min_self]; exact walk_listL as V.ref) (by rw [List.length_zip]; omega) hD4 (yat_same _) (fun H' s => SqL.of (s _ _ hl4)) (fun i ar y H' H'' k1 k0 hz sz hy k2 => ?_) (fun H5 s5 e5 => ?_)
    · obtain ⟨rfl, hy⟩ := hy
      rw [List.getElem?_zip_eq_some] at hz
      obtain rfl := map_get hz.1 hy
      have hrow := sz _ _ (hR4.get hz.1 hz.2)
      have ok := List.all_eq_true.mp c5 ar.2 (List.mem_of_getElem? hz.2)
      unfold rowOkL at ok
      have h3' : ar.2.length = 3 := by simpa using (Bool.and_eq_true_iff.mp ok).1
      obtain ⟨u, v, z, huv⟩ : ∃ u v z, ar.2 = [u, v, z] := by
        match ar.2, h3' with
        | [u, v, z], _ => exact ⟨u, v, z, rfl⟩
      rw [huv] at hrow k2
      refine ⟨ar.1, _, rfl, SqL.of hrow, rfl, _, _, rfl, _, _, rfl, _, _, rfl, rfl, rfl, _, rfl, _, rfl, (by show 2 ≤ sizeLine; decide), fun t ht => ⟨_, rfl, k2 t _ (same_new ht) upd_same⟩⟩
    · refine kY (by rw [eg]; exact c5) D4 H5 ((s3.trans s4).free hD4) ((s3.trans s4).trans s5) ?_
      rw [e5]
      congr 2
      unfold goalsD dOf
      have : (as.zip rs).map Prod.snd = rs := List.map_snd_zip (by rw [hR.len]; exact Nat.le_refl _)
      conv => rhs; rw [← this, List.foldl_map]
end
end My
namespace My
open PySem PySem.Spec PyProof.Rows L2 PySem.GX
theorem join_mem (y : Str) : ∀ (parts : List Str) (p : Str), p ∈ parts → ∀ c ∈ p.cps.toList, c ∈ (Str.join y parts).cps.toList
  | [], _, h, _, _ => by simp at h
  | [x], p, h, c, hc => by
    simp at h; subst h
    exact hc
  | x :: z :: r, p, h, c, hc => by
    show c ∈ (x ++ y ++ Str.join y (z :: r)).cps.toList
    rw [cps_app, cps_app]
    simp only [List.mem_append]
    rcases List.mem_cons.mp h with rfl | h
    · exact .inl (.inl hc)
    · exact .inr (join_mem y (z :: r) p h c hc)
theorem ok_of_mem {x p : Str} (h : ∀ c ∈ p.cps.toList, c ∈ x.cps.toList) (ho : PyData.strOk x = true) : PyData.strOk p = true := by
  unfold PyData.strOk at ho ⊢
  rw [Array.all_eq_true_iff_forall_mem] at ho ⊢
  intro c hc
  exact ho c (by simpa using h c (by simpa using hc))
theorem split_ok {x y p : Str} (h : p ∈ Txt.split x y) (ho : PyData.strOk x = true) : PyData.strOk p = true := by
  refine ok_of_mem (fun c hc => ?_) ho
  have := join_mem y _ p h c hc
  rw [StrLaws.join_split] at this
  exact this
theorem mem_le_sum : ∀ {l : List Nat} {a : Nat}, a ∈ l → a ≤ l.sum
  | b :: t, a, h => by
    rw [List.sum_cons]
    rcases List.mem_cons.mp h with rfl | h
    · omega
    · have := mem_le_sum h
      omega
theorem split_small {x p : Str} {c : Nat} (h : p ∈ Txt.split x (sg c)) : p.length ≤ x.length := by
  have := split_weight x (sg c) (Nat.le_refl 1)
  have h1 := mem_le_sum (List.mem_map.mpr ⟨p, h, rfl⟩ : p.length ∈ (Txt.split x (sg c)).map (·.length))
  have h2 : 0 < (Txt.split x (sg c)).length := List.length_pos_of_mem h
  omega
theorem split_few (x : Str) (c : Nat) : (Txt.split x (sg c)).length ≤ x.length + 1 := by
  have := split_weight x (sg c) (Nat.le_refl 1)
  omega
theorem split_ne (x : Str) (c : Nat) : Txt.split x (sg c) ≠ [] := fun e => by
  have := split_len x c
  rw [e] at this
  simp at this
  have h : ∀ l : List Nat, 0 ≤ cnt c l := by
    intro l
    induction l with
    | nil => exact Int.le_refl 0
    | cons n t ih =>
      rw [cnt_cons]
      split <;> omega
  have := h x.cps.toList
  omega
end My
namespace My
open PySem PySem.Spec PyProof.Rows L2 PySem.GX
abbrev nl : Str := sg 10
abbrev sp : Str := sg 32
def rowsL (t : Str) : List (List Str) := (Txt.split t nl).map fun y => Txt.split y sp
abbrev titles : List Str := ["signs", "moods", "good"]
structure Parts where
  sg : Str
  ms : List Str
  gs : List Str
  rs : List (List Str)
/-- what a text writes, from its rows of words -/
def partsL : List (List Str) → Option Parts
  | (t0 :: s0) :: (t1 :: m0) :: (t2 :: g0) :: rs =>
    if [t0, t1, t2] = titles ∧ areSignsL s0 = true ∧ areMoodsL m0 = true ∧ areGoodL g0 m0 = true ∧ goalsOkL (s0.getD 0 Str.empty) m0 rs = true then some ⟨s0.getD 0 Str.empty, m0, g0, rs⟩ else none
  | _ => none
def parseL (t : Str) : Option Parts := partsL (rowsL t)
/-- the parts stand as the tuple T -/
def PartsAt (H : Hp) (T : Addr) (p : Parts) : Prop := ∃ M G D, H T = some (.tup [.str p.sg, .ref M, .ref G, .ref D]) ∧ H M = some (.tup (p.ms.map V.str)) ∧ H G = some (.tup (p.gs.map V.str)) ∧ H D = some (.dT (goalsD p.rs))
def spRead : Sp := fun vs H Q _ => ∃ t : Str, vs = [.str t] ∧ t.length ≤ 1000000 ∧ PyData.strOk t = true ∧ (parseL t = none → ∀ H', Same H H' → Q .non H') ∧ ∀ p, parseL t = some p → ∀ T H', Same H H' → PartsAt H' T p → Q (.ref T) H'
theorem rows_ne {t : Str} : ∀ r ∈ rowsL t, r ≠ [] := fun r hr => by
  obtain ⟨y, _, rfl⟩ := List.mem_map.mp hr
  exact split_ne y 32
theorem rows_ok {t : Str} (ht : PyData.strOk t = true) : ∀ r ∈ rowsL t, ∀ y ∈ r, PyData.strOk y = true := fun r hr y hy => by
  obtain ⟨z, hz, rfl⟩ := List.mem_map.mp hr
  exact split_ok hy (split_ok hz ht)
theorem rows_small {t : Str} : ∀ r ∈ rowsL t, r.length ≤ t.length + 1 ∧ ∀ y ∈ r, y.length ≤ t.length := fun r hr => by
  obtain ⟨z, hz, rfl⟩ := List.mem_map.mp hr
  have h1 := split_small hz
  have h2 : (Txt.split z sp).length ≤ z.length + 1 := split_few z 32
  exact ⟨by omega, fun y hy => Nat.le_trans (split_small hy) h1⟩
theorem rows_few (t : Str) : (rowsL t).length ≤ t.length + 1 := by
  unfold rowsL
  rw [List.length_map]
  exact split_few t 10
theorem heads_is {rs : List (List Str)} (hne : ∀ r ∈ rs, r ≠ []) (h : (rs.take 3).map (fun r => r.headD Str.empty) = titles) : ∃ s0 m0 g0 rest, rs = (("signs" : Str) :: s0) :: (("moods" : Str) :: m0) :: (("good" : Str) :: g0) :: rest := by
  match rs, hne, h with
  | [], _, h => cases h
  | [_], _, h => simp at h
  | [_, _], _, h => simp at h
  | a :: b :: c :: rest, hne, h =>
    have na := hne a (by simp)
    have nb := hne b (by simp)
    have nc := hne c (by simp)
    obtain ⟨x, xs, rfl⟩ := List.exists_cons_of_ne_nil na
    obtain ⟨y, ys, rfl⟩ := List.exists_cons_of_ne_nil nb
    obtain ⟨z, zs, rfl⟩ := List.exists_cons_of_ne_nil nc
    have h' : [x, y, z] = titles := h
    injection h' with e1 h'
    injection h' with e2 h'
    injection h' with e3 h'
    subst e1 e2 e3
    exact ⟨xs, ys, zs, rest, rfl⟩
theorem parts_none {rs : List (List Str)} (h : ¬ (rs.take 3).map (fun r => r.headD Str.empty) = titles) : partsL rs = none := by
  unfold partsL
  split
  · rename_i t0 s0 t1 m0 t2 g0 rs'
    rw [if_neg]
    intro z
    exact h z.1
  · rfl
theorem parts_is (s0 m0 g0 : List Str) (rest : List (List Str)) : partsL ((("signs" : Str) :: s0) :: (("moods" : Str) :: m0) :: (("good" : Str) :: g0) :: rest) =
    if areSignsL s0 = true ∧ areMoodsL m0 = true ∧ areGoodL g0 m0 = true ∧ goalsOkL (s0.getD 0 Str.empty) m0 rest = true then some ⟨s0.getD 0 Str.empty, m0, g0, rest⟩ else none := by
  unfold partsL
  simp only [true_and]
theorem signs_one {s0 : List Str} (h : areSignsL s0 = true) : ∃ x, s0 = [x] ∧ x.length ≤ 3 := by
  match s0, h with
  | [x], h =>
    rw [areS1] at h
    simp only [Bool.and_eq_true] at h
    exact ⟨x, rfl, of_decide_eq_true h.1.1.2⟩
theorem moods_few {m0 : List Str} (h : areMoodsL m0 = true) : m0.length ≤ 300 := by
  unfold areMoodsL at h
  simp only [Bool.and_eq_true] at h
  exact of_decide_eq_true h.1.1.2
section
variable {P : Program} {w : World} {K : PySem.W.Frag} {mg : Str → Option Value} {base : Heap}
abbrev nRead : List Str := ["text", "rows", "signs", "moods", "good", "goals", "line", "row"]
theorem scRead : FnScope nRead ["text"] (defScope sRead) := ⟨rfl, rfl, rfl, by decide +kernel, rfl, by decide +kernel, by decide +kernel⟩
theorem ok_read {f tT : Addr} {fd : FuncData} (F : Fun K "read_rule" "read_rule" sRead f fd) (h1 : Hv P w K mg base 2 "are_signs" ["words"] (spSigns K)) (h2 : Hv P w K mg base 3 "are_moods" ["words"] (spMoods K)) (h3 : Hv P w K mg base 1 "are_good" ["words", "moods"] (spGood K))
    (h4 : Hv P w K mg base 1 "read_goals" ["signs", "moods", "rows"] spGoals) (gT : mg "TITLES" = some (.ref tT)) (kT : ∀ H, SqT K H tT (titles.map V.str)) (hLi : mg "list" = none) (hTu : mg "tuple" = none) : FnOk P w K mg base CX0 4 f fd ["text"] spRead := by
  refine F.ok scRead (fun vs H Q E h => ?_) (fun cdv A outer s H vs Q E hr h => ?_)
  · obtain ⟨t, rfl, _⟩ := h
    rfl
  · obtain ⟨t, rfl, zt, ot, kN, kY⟩ := h
    refine ⟨_, pss_cons (ps_setLc (i := 1) (own := [("line", 6)]) (g := gName 6) (tt := tYes) rfl scRead.nd rfl rfl (sw_true rfl rfl rfl (by decide +kernel)) (pi_list (pe_split (pv 0) pe_str))
          (blkOk_by (N := nRead) (sc := defScope sRead) (by decide +kernel)) (fun _ _ _ _ _ => pg_name (i := 6) scRead.nd rfl (Or.inl rfl)) (fun _ _ _ _ _ => pts_nil) (fun _ _ _ _ _ => pe_split (pv 6) pe_str))
      (pss_cons (ps_if (pt_cmpR (op_neD hr.units) (pe_lc (own := [("row", 7)]) (g := gName 7) (tt := tYes) rfl scRead.nd (pi_list (pe_slice sl_list (pv 1) po_none (po_some pe_int)))
            (blkOk_by (N := nRead) (sc := defScope sRead) (by decide +kernel)) (fun _ _ _ _ _ => pg_name (i := 7) scRead.nd rfl (Or.inl rfl)) (fun _ _ _ _ _ => pts_nil) (te := tOp (rIxL K) (tVar 7) (tC (.int 0))) (fun _ _ _ _ _ => pe_ix ix_list (pv 7) pe_int (fun _ _ => rfl)))
          (pe_callTy call_list_of (by rfl) hLi (by decide +kernel) (pa_cons (pe_glob (v := .ref tT) rfl gT rfl) pa_nil)) (nomark _))
        (pss_one (ps_ret pe_non)) pss_nil)
      (pss_cons (ps_asg (pe_lc (own := [("row", 7)]) (g := gName 7) (tt := tYes) rfl scRead.nd (pi_list (pe_slice sl_list (pv 1) po_none (po_some pe_int)))
            (blkOk_by (N := nRead) (sc := defScope sRead) (by decide +kernel)) (fun _ _ _ _ _ => pg_name (i := 7) scRead.nd rfl (Or.inl rfl)) (fun _ _ _ _ _ => pts_nil) (te := tSl (rSlL K) (tVar 7) (tPart (tC (.int 1))) tNoPart) (fun _ _ _ _ _ => pe_slice sl_list (pv 7) (po_some pe_int) po_none))
          (pg_unl (n := 3) rfl (pgs_cons (pg_name (i := 2) scRead.nd rfl (Or.inl rfl)) (pgs_cons (pg_name (i := 3) scRead.nd rfl (Or.inl rfl)) (pgs_cons (pg_name (i := 4) scRead.nd rfl (Or.inl rfl)) pgs_nil)))))
      (pss_cons (ps_if (pt_not (PW.pt (pw_and (pt_val (pe_cl h1 (hr.mono (by decide)) rfl pass0 (pa_cons (pv 2) pa_nil))) (pw_and (pt_val (pe_cl h2 hr rfl pass0 (pa_cons (pv 3) pa_nil))) (pw_and1 (pt_val (pe_cl h3 (hr.mono (by decide)) rfl pass0 (pa_cons (pv 4) (pa_cons (pv 3) pa_nil)))))))))
        (pss_one (ps_ret pe_non)) pss_nil)
      (pss_cons (ps_set (i := 5) scRead.nd rfl (Or.inl rfl) (pe_cl h4 (hr.mono (by decide)) rfl pass0 (pa_cons (pe_ix ix_list (pv 2) pe_int (fun _ _ => rfl)) (pa_cons (pv 3) (pa_cons (pe_slice sl_list (pv 1) (po_some pe_int) po_none) pa_nil)))))
      (pss_cons (ps_if (pt_cmpR op_isN (pv 5) pe_non (nomark _)) (pss_one (ps_ret pe_non)) pss_nil)
      (pss_one (ps_ret (pe_tup (pa_cons (pe_ix ix_list (pv 2) pe_int (fun _ _ => rfl)) (pa_cons (pe_callTy call_tuple_of (by rfl) hTu (by decide +kernel) (pa_cons (pv 3) pa_nil)) (pa_cons (pe_callTy call_tuple_of (by rfl) hTu (by decide +kernel) (pa_cons (pv 4) pa_nil)) (pa_cons (pv 5) pa_nil)))))))))))), ?_⟩
    have enl : (Str.ofString "\n") = nl := by decide +kernel
    have esp : (Str.ofString " ") = sp := by decide +kernel
    have z0 : t.length + 2 ≤ sizeLine := by rw [sizeLine_eq]; omega
    refine ⟨_, rfl, ⟨_, rfl⟩, t, _, rfl, rfl, rfl, z0, fun p0 hp0 => ⟨p0, rfl, ⟨_, SqL.of upd_same⟩, fun D0 hD0 => ?_⟩⟩
    rw [enl] at hD0 ⊢
    have hl0 : upd H p0 (.lst ((Txt.split t nl).map V.str)) p0 = some (.lst ((Txt.split t nl).map V.str)) := upd_same
    generalize eH0 : upd H p0 (.lst ((Txt.split t nl).map V.str)) = H0 at hD0 hl0 ⊢
    have s0 : Same H H0 := by rw [← eH0]; exact same_new hp0
    refine lc_it (walk_listL (Txt.split t nl) V.str) (fun i H' => Pr H0 D0 H' ((rowsL t).take i)) (Pr.zero hD0) (fun i H' _ h => SqL.of (h.keeps _ _ hl0)) (fun i y H' H'' hi h hy => ?_) (fun H1 g1 => ?_)
    · obtain ⟨rfl, hy⟩ := hy
      have ha : (Txt.split t nl)[i]? = some (Txt.split t nl)[i] := List.getElem?_eq_getElem hi
      obtain rfl := map_get ha hy
      have et : (rowsL t).take (i + 1) = (rowsL t).take i ++ [Txt.split (Txt.split t nl)[i] sp] := by
        unfold rowsL
        rw [List.take_add_one, List.getElem?_map, ha]
        rfl
      have zl := split_small (List.getElem_mem hi)
      refine ⟨rfl, _, rfl, ⟨_, rfl⟩, _, _, rfl, rfl, rfl, (by rw [sizeLine_eq]; omega), fun p hp => ?_⟩
      rw [et, esp]
      refine h.push hD0 hp ?_
      have := rows_few t
      rw [List.length_take]
      omega
    have g1' : Pr H0 D0 H1 (rowsL t) := by
      have : (rowsL t).take (Txt.split t nl).length = rowsL t := by
        have e : (Txt.split t nl).length = (rowsL t).length := by unfold rowsL; rw [List.length_map]
        rw [e, List.take_length]
      rw [this] at g1
      exact g1
    obtain ⟨as, s1', eD0, rw0⟩ := g1'.rw_
    have s1 := s0.trans s1'
    have nes := rows_ne (t := t)
    have oks := rows_ok (t := t) ot
    have sms := rows_small (t := t)
    have few := rows_few t
    generalize eR : rowsL t = rs at rw0 nes oks sms few
    have ep : parseL t = partsL rs := by rw [← eR]; rfl
    rw [ep] at kN kY
    clear g1 g1' ep eR
    have len := rw0.len
    -- the titles
    have ecut : cutV (as.map V.ref) none (some 3) = (as.take 3).map V.ref := by
      rw [show (3 : Int) = ((3 : Nat) : Int) from rfl, cut_toV _ 3 (by decide), List.map_take]
    refine ⟨_, rfl, 3, rfl, D0, _, rfl, SqL.of eD0, fun p3 hp3 => ⟨p3, rfl, ⟨_, SqL.of upd_same⟩, fun D1 hD1 => ?_⟩⟩
    rw [ecut] at hD1 ⊢
    have hl3 : upd H1 p3 (.lst ((as.take 3).map V.ref)) p3 = some (.lst ((as.take 3).map V.ref)) := upd_same
    generalize eH2 : upd H1 p3 (.lst ((as.take 3).map V.ref)) = H2 at hD1 hl3 ⊢
    have s2' : Same H1 H2 := by rw [← eH2]; exact same_new hp3
    have rw3 := (rw0.take 3).same s2'
    refine lcG ((as.take 3).zip (rs.take 3)) (fun ar => some (.str (ar.2.headD Str.empty))) (by rw [List.length_zip, ← rw3.len, Nat.min_self]; exact walk_listL (as.take 3) V.ref) (by rw [List.length_zip, List.length_take]; omega) hD1 (yat_same _) (fun H' s => SqL.of (s _ _ hl3)) (fun i ar y H' H'' k1 hz sz hy k2 => ?_) (fun H3 s3 e3 => ?_)
    · obtain ⟨rfl, hy⟩ := hy
      rw [List.getElem?_zip_eq_some] at hz
      obtain rfl := map_get hz.1 hy
      have hrow := sz _ _ (rw3.get hz.1 hz.2)
      have nr := nes ar.2 (List.mem_of_mem_take (List.mem_of_getElem? hz.2))
      obtain ⟨u, us, e⟩ := List.exists_cons_of_ne_nil nr
      rw [e] at hrow k2
      exact ⟨rfl, _, rfl, ar.1, _, _, _, rfl, rfl, SqL.of hrow, atI_nat (j := 0) rfl, k2 _ (Same.refl _)⟩
    have ez : ((as.take 3).zip (rs.take 3)).filterMap (fun ar => some (V.str (ar.2.headD Str.empty))) = ((rs.take 3).map (fun r => r.headD Str.empty)).map V.str := by
      rw [List.filterMap_eq_map', List.map_map]
      have : ((as.take 3).zip (rs.take 3)).map Prod.snd = rs.take 3 := List.map_snd_zip (by rw [rw3.len]; exact Nat.le_refl _)
      conv => rhs; rw [← this, List.map_map]
      rfl
    rw [ez] at e3
    refine ⟨tT, _, rfl, .inr (kT _), fun l4 hl4 => ?_⟩
    have s4 := ((s1.trans s2').trans s3).trans (same_new (o := .lst (titles.map V.str)) hl4)
    refine ⟨dTx _, dTx titles, dp_dTx (keep1 e3 hl4), dp_dTx upd_same, shaped_dTx (fun x hx => ?_), (by decide +kernel), _, rfl, ?_⟩
    · obtain ⟨r, h1, rfl⟩ := List.mem_map.mp hx
      have h2 := List.mem_of_mem_take h1
      obtain ⟨u, us, rfl⟩ := List.exists_cons_of_ne_nil (nes r h2)
      exact oks _ h2 u (by simp)
    rw [eqv_dTx]
    refine ite2 (fun c => kN (parts_none (by simpa using c)) _ s4) (fun c => ?_)
    obtain ⟨s0', m0, g0, rest, rfl⟩ := heads_is nes (by simpa using c)
    rw [parts_is] at kN kY
    generalize eH4 : upd H3 l4 (.lst (titles.map V.str)) = H4 at s4 ⊢
    have s14 : Same H1 H4 := by
      rw [← eH4]
      exact (s2'.trans s3).trans (same_new hl4)
    have eD4 := s14 _ _ eD0
    have rw4 := rw0.same s14
    clear e3 rw3 ez hl3 eH2 hD1 hp3 hl4 eH4 s3 s2' c
    -- the three lists
    refine ⟨_, rfl, 3, rfl, D0, _, rfl, SqL.of eD4, fun p5 hp5 => ⟨p5, rfl, ⟨_, SqL.of upd_same⟩, fun D2 hD2 => ?_⟩⟩
    rw [ecut] at hD2 ⊢
    have hl5 : upd H4 p5 (.lst ((as.take 3).map V.ref)) p5 = some (.lst ((as.take 3).map V.ref)) := upd_same
    generalize eH5 : upd H4 p5 (.lst ((as.take 3).map V.ref)) = H5 at hD2 hl5 ⊢
    have s5' : Same H4 H5 := by rw [← eH5]; exact same_new hp5
    have rw5 := (rw4.take 3).same s5'
    refine lc_it (walk_listL (as.take 3) V.ref) (fun i H' => Pr H5 D2 H' ([s0', m0, g0].take i)) (Pr.zero hD2) (fun i H' _ h => SqL.of (h.keeps _ _ hl5)) (fun i y H' H'' hi h hy => ?_) (fun H6 g6 => ?_)
    · obtain ⟨rfl, hy⟩ := hy
      have ha : (as.take 3)[i]? = some (as.take 3)[i] := List.getElem?_eq_getElem hi
      obtain rfl := map_get ha hy
      have hi3 : i < 3 := by rw [List.length_take] at hi; omega
      have row : ∃ u us, [(("signs" : Str) :: s0'), (("moods" : Str) :: m0), (("good" : Str) :: g0)][i]? = some (u :: us) ∧ [s0', m0, g0][i]? = some us := by
        match i, hi3 with
        | 0, _ => exact ⟨_, _, rfl, rfl⟩
        | 1, _ => exact ⟨_, _, rfl, rfl⟩
        | 2, _ => exact ⟨_, _, rfl, rfl⟩
      obtain ⟨u, us, hu, hus⟩ := row
      refine ⟨rfl, _, rfl, 1, rfl, (as.take 3)[i], _, rfl, SqL.of (h.keeps _ _ (rw5.get ha hu)), fun p hp => ?_⟩
      rw [show (1 : Int) = ((1 : Nat) : Int) from rfl, cut_fromV _ 1 (by decide)]
      have et : [s0', m0, g0].take (i + 1) = [s0', m0, g0].take i ++ [us] := by
        rw [List.take_add_one, hus]
        rfl
      rw [et]
      exact h.push (r := us) hD2 hp (by rw [List.length_take]; simp; omega)
    have g6' : Pr H5 D2 H6 [s0', m0, g0] := by
      have : [s0', m0, g0].take (as.take 3).length = [s0', m0, g0] := by
        rw [List.length_take, len]
        simp
      rw [this] at g6
      exact g6
    obtain ⟨bs, s6', eD6, rw6⟩ := g6'.rw_
    have s6 := (s4.trans s5').trans s6'
    have s16 := (s14.trans s5').trans s6'
    have eR6 := s16 _ _ eD0
    have rr6 := rw0.same s16
    clear g6 g6' rw5 hl5 eH5 hD2 s6' s5' rw4 eD4 hp5
    cases rw6 with
    | cons e1 t1 =>
    cases t1 with
    | cons e2 t2 =>
    cases t2 with
    | cons e3 t3 =>
    cases t3
    rename_i a1 a2 a3
    refine ⟨D2, _, rfl, SqL.of eD6, rfl, _, _, rfl, _, _, rfl, _, _, rfl, rfl, ?_⟩
    have m1 := sms (("signs" : Str) :: s0') (by simp)
    have m2 := sms (("moods" : Str) :: m0) (by simp)
    have m3 := sms (("good" : Str) :: g0) (by simp)
    have o1 := oks (("signs" : Str) :: s0') (by simp)
    have o2 := oks (("moods" : Str) :: m0) (by simp)
    have o3 := oks (("good" : Str) :: g0) (by simp)
    simp only [List.length_cons] at m1 m2 m3
    refine ⟨_, rfl, a1, s0', rfl, e1, fun x hx => Nat.le_trans (m1.2 x (by simp [hx])) (by omega), fun H7 s7 => ⟨_, rfl, ite2 (fun c1 => ?_) (fun c1 => ?_)⟩⟩
    rotate_left
    · exact kN (by rw [if_neg (fun z => c1 z.1)]) _ (s6.trans s7)
    refine ⟨_, rfl, a2, m0, rfl, s7 _ _ e2, fun x hx => Nat.le_trans (m2.2 x (by simp [hx])) (by omega), fun H8 s8 => ⟨_, rfl, ite2 (fun c2 => ?_) (fun c2 => ?_)⟩⟩
    rotate_left
    · exact kN (by rw [if_neg (fun z => c2 z.2.1)]) _ ((s6.trans s7).trans s8)
    have s68 := s7.trans s8
    refine ⟨_, rfl, _, rfl, a3, a2, g0, m0, rfl, s68 _ _ e3, s68 _ _ e2, (by omega), (by omega), fun x hx => o3 x (by simp [hx]), fun x hx => o2 x (by simp [hx]), fun H9 s9 => ⟨_, rfl, ite2 (fun c3 => ?_) (fun c3 => ?_)⟩⟩
    · refine kN ?_ _ ((s6.trans s68).trans s9)
      rw [if_neg]
      intro z
      rw [z.2.2.1] at c3
      cases c3
    have c3' : areGoodL g0 m0 = true := by simpa using c3
    have s69 := s68.trans s9
    obtain ⟨x, rfl, zx⟩ := signs_one c1
    have zm := moods_few c2
    have rest9 := (rr6.same s69).drop 3
    refine ⟨_, rfl, a1, _, _, _, rfl, rfl, SqL.of (s69 _ _ e1), atI_nat (j := 0) rfl, _, rfl, _, rfl, 3, rfl, D0, _, rfl, SqL.of (s69 _ _ eR6), fun p7 hp7 => ?_⟩
    rw [show (3 : Int) = ((3 : Nat) : Int) from rfl, cut_fromV _ 3 (by decide), ← List.map_drop]
    have s10 := s69.trans (same_new (o := .lst ((as.drop 3).map V.ref)) hp7)
    refine ⟨x, a2, p7, m0, as.drop 3, rest, rfl, s10 _ _ e2, upd_same, rest9.same (same_new hp7), zx, zm, ?_, o1 x (by simp), fun y hy => o2 y (by simp [hy]), fun r hr y hy => oks r (by simp [hr]) y hy, fun c4 H10 s11 => ?_, fun c4 D H10 hD s11 eD => ?_⟩
    · simp only [List.length_cons] at few
      omega
    · refine ⟨_, rfl, rfl, _, rfl, iteT (kN ?_ _ ((s6.trans s10).trans s11))⟩
      rw [if_neg]
      intro z
      have := z.2.2.2
      simp only [List.getD_cons_zero] at this
      rw [c4] at this
      cases this
    · refine ⟨_, rfl, rfl, _, rfl, iteF ?_⟩
      have q1 := (s10.trans s11) _ _ e1
      have q2 := (s10.trans s11) _ _ e2
      have q3 := (s10.trans s11) _ _ e3
      refine ⟨_, rfl, a1, _, _, _, rfl, rfl, SqL.of q1, atI_nat (j := 0) rfl, _, rfl, a2, _, rfl, .inl ⟨SqL.of q2, fun M hM => ?_⟩⟩
      refine ⟨_, rfl, a3, _, rfl, .inl ⟨SqL.of (keep1 q3 hM), fun G hG => ?_⟩⟩
      refine ⟨_, rfl, (by show 4 ≤ sizeLine; decide), fun T hT => ?_⟩
      refine kY _ (by rw [if_pos ⟨c1, c2, c3', c4⟩]) T _ (((((s6.trans s10).trans s11).trans (same_new hM)).trans (same_new hG)).trans (same_new hT)) ⟨M, G, D, upd_same, keep1 (keep1 upd_same hG) hT, keep1 upd_same hT, keep1 (keep1 (keep1 eD hM) hG) hT⟩
end
end My
namespace My
open PySem PySem.Spec PyProof.Rows L2
abbrev kT (t : Str) (c : Nat) : List Key := [Sum.inr t, Sum.inr (sg c)]
def gf (kvs : List (List Key × V)) (t : Str) (c : Nat) : Str := match valV kvs (kT t c) with
  | some (.str y) => y
  | _ => Str.empty
theorem gf_is {kvs : List (List Key × V)} {t : Str} {c : Nat} {y : Str} (h : valV kvs (kT t c) = some (.str y)) : gf kvs t c = y := by
  unfold gf
  rw [h]
end My
namespace My
open PySem PySem.Spec PyProof.Rows L2
/-- the fields of a rule -/
abbrev rFs (t : Str) (p : Parts) (M G D : Addr) : List (Str × V) := [("written", .str t), ("letters", .str p.sg), ("words", .ref M), ("chosen", .ref G), ("goals", .ref D)]
/-- a rule stands at a -/
def RuleAt (H : Hp) (C a : Addr) (t : Str) (p : Parts) : Prop := ∃ dx M G D, H a = some (.ins C dx (rFs t p M G D)) ∧ H M = some (.tup (p.ms.map V.str)) ∧ H G = some (.tup (p.gs.map V.str)) ∧ H D = some (.dT (goalsD p.rs))
theorem RuleAt.same {H H' : Hp} {C a : Addr} {t : Str} {p : Parts} (h : RuleAt H C a t p) (s : Same H H') : RuleAt H' C a t p := by
  obtain ⟨dx, M, G, D, e1, e2, e3, e4⟩ := h
  exact ⟨dx, M, G, D, s _ _ e1, s _ _ e2, s _ _ e3, s _ _ e4⟩
def spInit (C : Addr) : Sp := fun vs H Q _ => ∃ (a dx : Addr) (t : Str) (p : Parts), vs = [.ref a, .str t] ∧ H a = some (.ins C dx []) ∧ t.length ≤ 1000000 ∧ PyData.strOk t = true ∧ parseL t = some p ∧
  ∀ H', (∀ b o, b ≠ a → H b = some o → H' b = some o) → RuleAt H' C a t p → Q .non H'
/-- what is fixed of the class -/
structure RuC (K : PySem.W.Frag) (C : Addr) : Prop where
  cl : Cls K C
  f1 : NoAttr K C "written"
  f2 : NoAttr K C "letters"
  f3 : NoAttr K C "words"
  f4 : NoAttr K C "chosen"
  f5 : NoAttr K C "goals"
section
variable {P : Program} {w : World} {K : PySem.W.Frag} {mg : Str → Option Value} {base : Heap}
abbrev sInit : Stmt := inClass sRule 0
abbrev nInit : List Str := ["self", "text", "parts"]
theorem scInit : FnScope nInit ["self", "text"] (defScope sInit) := ⟨rfl, rfl, rfl, by decide +kernel, rfl, by decide +kernel, by decide +kernel⟩
theorem ok_init {f C : Addr} {fd : FuncData} (F : Fun K "__init__" "Rule.__init__" sInit f fd) (T : RuC K C) (hR : Hv P w K mg base 4 "read_rule" ["text"] spRead) (hIs : mg "isinstance" = none) (hSt : mg "str" = none) : FnOk P w K mg base CX0 5 f fd ["self", "text"] (spInit C) := by
  refine F.ok scInit (fun vs H Q E h => ?_) (fun cdv A outer s H vs Q E hr h => ?_)
  · obtain ⟨a, dx, t, p, rfl, _⟩ := h
    rfl
  · obtain ⟨a, dx, t, p, rfl, ha, zt, ot, pt, k⟩ := h
    refine ⟨_, pss_cons (ps_set (i := 2) scInit.nd rfl (Or.inl rfl) (pe_ifExp (pt_val (pe_callB call_isi (by rfl) hIs (by decide +kernel) (pa_cons (pv 1) (pa_cons (pe_bltn (v := .ty "str") (by rfl) hSt (by decide +kernel) rfl) pa_nil)))) (pe_cl hR hr rfl pass0 (pa_cons (pv 1) pa_nil)) pe_non))
      (pss_cons (ps_if (pt_cmpR op_isN (pv 2) pe_non (nomark _)) (pss_one ps_never) pss_nil)
      (pss_cons (ps_fld (pv 0) (pv 1) rfl)
      (pss_one (ps_asg (pv 2) (pg_tup (by rfl) (pgs_cons (pg_fld (pv 0)) (pgs_cons (pg_fld (pv 0)) (pgs_cons (pg_fld (pv 0)) (pgs_cons (pg_fld (pv 0)) pgs_nil))))))))), ?_⟩
    refine ⟨_, rfl, .str t, .ty "str", _, .type "str", true, rfl, .ty _, .base (.str t), kit_ty (by decide +kernel), _, rfl, iteT ?_⟩
    refine ⟨_, rfl, t, rfl, zt, ot, (fun z => by rw [pt] at z; cases z), fun p' hp' T' H1 s1 hT => ?_⟩
    rw [pt] at hp'
    cases hp'
    obtain ⟨M, G, D, e1, e2, e3, e4⟩ := hT
    have ea := s1 _ _ ha
    refine ⟨_, rfl, rfl, _, rfl, iteF ?_⟩
    refine ⟨_, rfl, _, rfl, a, C, dx, _, rfl, ea, T.cl, T.f1, by decide, ?_⟩
    have ne : ∀ {b : Addr} {xs : List V}, H1 b = some (.tup xs) → b ≠ a := fun e => ne_of e ea (by intro z; cases z)
    have nD : D ≠ a := ne_of e4 ea (by intro z; cases z)
    refine ⟨_, rfl, T', _, rfl, SqT.of (by rw [upd_ne (ne e1)]; exact e1), rfl, _, _, rfl, _, rfl, a, C, dx, _, rfl, upd_same, T.cl, T.f2, (by show 1 < 1000; decide), ?_⟩
    rw [upd_upd]
    refine ⟨_, _, rfl, _, rfl, a, C, dx, _, rfl, upd_same, T.cl, T.f3, (by show 2 < 1000; decide), ?_⟩
    rw [upd_upd]
    refine ⟨_, _, rfl, _, rfl, a, C, dx, _, rfl, upd_same, T.cl, T.f4, (by show 3 < 1000; decide), ?_⟩
    rw [upd_upd]
    refine ⟨_, _, rfl, _, rfl, a, C, dx, _, rfl, upd_same, T.cl, T.f5, (by show 4 < 1000; decide), ?_⟩
    rw [upd_upd]
    refine ⟨rfl, k _ (fun b o n e => by rw [upd_ne n]; exact s1 _ _ e) ⟨dx, M, G, D, upd_same, ?_, ?_, ?_⟩⟩
    · rw [upd_ne (ne e2)]; exact e2
    · rw [upd_ne (ne e3)]; exact e3
    · rw [upd_ne nD]; exact e4
end
end My
namespace My
open PySem PySem.Spec PyProof.Rows L2
theorem pe_fldK {X : Cx} {K : PySem.W.Frag} {e : Expr} {f : Str} {ta : TE} {pos : Pos} (h : X.K = K) (he : PE X e ta) (hb : attributeBase e f X.env (eval e X.env) = eval e X.env) : PE X (.Attribute e f pos) (tFld K ta f) := by subst h; exact pe_fld he hb
/-- what a text that is one writes -/
structure PartsOk (p : Parts) : Prop where
  sgs : areSignsL [p.sg] = true
  mds : areMoodsL p.ms = true
  gds : areGoodL p.gs p.ms = true
  gls : goalsOkL p.sg p.ms p.rs = true
theorem parts_ok {t : Str} {p : Parts} (h : parseL t = some p) : PartsOk p := by
  unfold parseL partsL at h
  split at h
  · rename_i t0 s0 t1 m0 t2 g0 rs heq
    split at h
    · rename_i hc
      cases h
      obtain ⟨x, e, _⟩ := signs_one hc.2.1
      subst e
      exact ⟨hc.2.1, hc.2.2.1, hc.2.2.2.1, hc.2.2.2.2⟩
    · cases h
  · cases h
theorem dOf_some {α κ : Type} [DecidableEq κ] {key : α → κ} {val : α → V} {k : κ} : ∀ (xs : List α), (∃ a ∈ xs, key a = k) → ∃ a ∈ xs, key a = k ∧ valV (dOf key val xs) k = some (val a) := by
  suffices h : ∀ (n : Nat) (xs : List α), xs.length = n → (∃ a ∈ xs, key a = k) → ∃ a ∈ xs, key a = k ∧ valV (dOf key val xs) k = some (val a) from fun xs => h _ xs rfl
  intro n
  induction n with
  | zero =>
    intro xs h ⟨a, ha, _⟩
    have : xs = [] := List.eq_nil_of_length_eq_zero h
    subst this
    cases ha
  | succ n ih =>
    intro xs h h2
    have hne : xs ≠ [] := by intro z; subst z; cases h
    obtain ⟨ys, a, rfl⟩ : ∃ ys a, xs = ys ++ [a] := ⟨xs.dropLast, xs.getLast hne, (List.dropLast_concat_getLast hne).symm⟩
    have hl : ys.length = n := by rw [List.length_append] at h; simpa using h
    rw [dOf_snoc, valV_put]
    by_cases e : k = key a
    · exact ⟨a, by simp, e.symm, by rw [if_pos e]⟩
    · rw [if_neg e]
      obtain ⟨b, hb, eb⟩ := h2
      rcases List.mem_append.mp hb with m | m
      · obtain ⟨d, hd, ed, hv⟩ := ih ys hl ⟨b, m, eb⟩
        exact ⟨d, by simp [hd], ed, hv⟩
      · have : b = a := by simpa using m
        exact absurd (this ▸ eb.symm) e
/-- where the sign c leads from the mood t -/
def ledL (p : Parts) (t : Str) (c : Nat) : Str := gf (goalsD p.rs) t c
theorem PartsOk.goal {p : Parts} (h : PartsOk p) {t : Str} (ht : t ∈ p.ms) {c : Nat} (hc : c ∈ p.sg.cps.toList) : ledL p t c ∈ p.ms ∧ valV (goalsD p.rs) (kT t c) = some (.str (ledL p t c)) := by
  have hg := h.gls
  unfold goalsOkL at hg
  rw [Bool.and_eq_true_iff] at hg
  have ep : p.rs.map (List.take 2) = pairsL p.sg p.ms := of_decide_eq_true hg.1
  have hm : [t, sg c] ∈ p.rs.map (List.take 2) := by
    rw [ep]
    unfold pairsL
    exact List.mem_flatMap.mpr ⟨t, ht, List.mem_map.mpr ⟨c, hc, rfl⟩⟩
  obtain ⟨r, hr, er⟩ := List.mem_map.mp hm
  have key : ∀ q : List Str, q.take 2 = [t, sg c] → [(Sum.inr (q.getD 0 Str.empty) : Key), Sum.inr (q.getD 1 Str.empty)] = kT t c := fun q hq => by
    match q, hq with
    | [], hq => cases hq
    | [_], hq => simp at hq
    | a :: b :: _, hq =>
      have : [a, b] = [t, sg c] := hq
      injection this with e1 this
      injection this with e2 _
      subst e1 e2
      rfl
  obtain ⟨q, hq, eq, hv⟩ := dOf_some (key := fun r : List Str => [(Sum.inr (r.getD 0 Str.empty) : Key), Sum.inr (r.getD 1 Str.empty)]) (val := fun r => V.str (r.getD 2 Str.empty)) (k := kT t c) p.rs ⟨r, hr, key r er⟩
  have ok := List.all_eq_true.mp hg.2 q hq
  unfold rowOkL at ok
  rw [Bool.and_eq_true_iff] at ok
  have e : ledL p t c = q.getD 2 Str.empty := gf_is hv
  rw [e]
  exact ⟨of_decide_eq_true ok.2, hv⟩
/-- a row leads from t -/
def walkL (p : Parts) (t : Str) (cs : List Nat) : Str := cs.foldl (ledL p) t
def firstL (p : Parts) : Str := p.ms.headD Str.empty
theorem PartsOk.first {p : Parts} (h : PartsOk p) : ∃ ms, p.ms = firstL p :: ms := by
  have := h.mds
  unfold areMoodsL at this
  simp only [Bool.and_eq_true] at this
  have l1 : 1 ≤ p.ms.length := of_decide_eq_true this.1.1.1
  unfold firstL
  match hm : p.ms, l1 with
  | a :: t, _ => exact ⟨t, rfl⟩
end My
namespace My
open PySem PySem.Spec PyProof.Rows L2
/-- a well stands at p -/
def Wl (H : Hp) (p : Addr) : Prop := ∃ w0 w1 w2 : Int, 0 ≤ w0 ∧ 0 ≤ w1 ∧ H p = some (.lst [.int w0, .int w1, .int w2])
theorem cut_ints (ns : List Int) (lo hi : Option Int) : ∃ ms : List Int, cutV (ns.map V.int) lo hi = ms.map V.int := by
  unfold cutV
  rw [← List.map_drop, ← List.map_take]
  exact ⟨_, rfl⟩
theorem map_int_get {ns : List Int} {i : Nat} {y : V} (h : (ns.map V.int)[i]? = some y) : ∃ z, ns[i]? = some z ∧ y = V.int z := by
  rw [List.getElem?_map] at h
  cases e : ns[i]? with
  | none => rw [e] at h; cases h
  | some z => rw [e] at h; exact ⟨z, rfl, (Option.some.inj h).symm⟩
/-- all but the well stays -/
def Sb (p : Addr) (H H' : Hp) : Prop := ∀ b o, b ≠ p → H b = some o → H' b = some o
theorem Sb.refl (p : Addr) (H : Hp) : Sb p H H := fun _ _ _ h => h
theorem Sb.trans {p : Addr} {H H1 H2 : Hp} (a : Sb p H H1) (b : Sb p H1 H2) : Sb p H H2 := fun c o n h => b c o n (a c o n h)
theorem Sb.of {p : Addr} {H H' : Hp} (s : Same H H') : Sb p H H' := fun b o _ h => s b o h
theorem Sb.upd_ {p : Addr} {H : Hp} {o : HO} : Sb p H (upd H p o) := fun b u n h => by rw [upd_ne n]; exact h
theorem Sb.free {p : Addr} {H H' : Hp} (s : Sb p H H') {q : Addr} (n : q ≠ p) (h : H' q = none) : H q = none := by
  cases e : H q with
  | none => rfl
  | some o => rw [s q o n e] at h; cases h
theorem Wl.same {H H' : Hp} {p : Addr} (w : Wl H p) (s : Same H H') : Wl H' p := by
  obtain ⟨w0, w1, w2, a0, a1, e⟩ := w
  exact ⟨w0, w1, w2, a0, a1, s _ _ e⟩
theorem Wl.new {H : Hp} {p q : Addr} (w : Wl H p) (h : H q = none) : q ≠ p := by
  obtain ⟨w0, w1, w2, a0, a1, e⟩ := w
  exact (ne_of_none e h).symm
theorem Wl.ne {H : Hp} {p q : Addr} {o : HO} (w : Wl H p) (h : H q = some o) (n : ∀ a b c : Int, o ≠ .lst [.int a, .int b, .int c]) : q ≠ p := by
  obtain ⟨w0, w1, w2, a0, a1, e⟩ := w
  exact ne_of h e (n _ _ _)
theorem Wl.neS {H : Hp} {p q : Addr} {ws : List Str} (w : Wl H p) (h : H q = some (.lst (ws.map V.str))) : q ≠ p := w.ne h fun a b c z => by
  cases ws with
  | nil => cases z
  | cons x t => cases z
theorem Wl.upd_ {H : Hp} {p q : Addr} {o : HO} (w : Wl H p) (n : q ≠ p) : Wl (upd H q o) p := by
  obtain ⟨w0, w1, w2, a0, a1, e⟩ := w
  exact ⟨w0, w1, w2, a0, a1, by rw [upd_ne n.symm]; exact e⟩
/-- rules whose readings speak of a K that is the context's -/
theorem ix_listK {X : Cx} {K : PySem.W.Frag} (h : X.K = K) : IxR X (rIxL K) := by subst h; exact ix_list
end My
namespace L2
open PySem PySem.Spec PyProof.Rows PySem.GX HotX
/-! lists walked and unpacked while an exception is handled -/
section
variable {prog : Program} {w : World} {A : Around} {Er : Value → Shared → Prop} {s : Shared}
theorem hot_ne {x it l : Addr} {i : Nat} {h : Heap} (hot : HotAt A x h) (hit : h.IsListIter it l i) : x ≠ it := fun z => by
  obtain ⟨_, o, vs, e, d, c⟩ := hot
  obtain ⟨o', e', _, d'⟩ := hit
  rw [z, e'] at e
  cases e
  rw [d'] at d
  cases d
  simp at c
theorem next_end_hot {it l x : Addr} {i : Nat} {items : Array Value} {Q : Option Value → Shared → Prop} (hot : HotAt A x s.heap) (hit : s.heap.IsListIter it l i) (hl : s.heap.IsList l items) (none_ : items[i]? = none)
    (k : ∀ h', Heap.ExtBut it s.heap h' → Q none { s with heap := h' }) : wpAny (model prog w) A (pyNext (.ref it)) Q Er s := by
  have ne := hot_ne hot hit
  obtain ⟨oi, ei, ci, di⟩ := id hit
  obtain ⟨ol, el, _, nl, dl⟩ := hl
  obtain ⟨hh, o1, vs1, h1, d1, c1⟩ := hot
  unfold pyNext
  refine wpAny_bind (wpAny_attempt (wpAny_callSpecial?_slot (name := Str.ofString "__next__") hit.typeIs slot_listiter_next (wpAny_call_entry slot_listiter_next hit.typeIs entry_listiter_next ?_ (args_listiter_next _))))
  show wpAny _ _ (field (.ref it) 0 >>= _) _ _ s
  refine wpAny_bind (wpAny_field ei di (x := .ref l) rfl ?_)
  show wpAny _ _ (if (Value.ref l == Value.none) = true then _ else _) _ _ s
  rw [if_neg (show ¬ ((Value.ref l == Value.none) = true) from Bool.false_ne_true)]
  show wpAny _ _ (field (.ref it) 1 >>= _) _ _ s
  refine wpAny_bind (wpAny_field ei di (x := .int i 0) rfl ?_)
  show wpAny _ _ (seqItems? (.ref l) >>= _) _ _ s
  refine wpAny_bind (wpAny_seqItems el dl ?_)
  simp only [Int.toNat_natCast, none_]
  refine wpAny_bind (wpAny_rule (wpAny_bind (wpAny_setField ei di (by simp) ?_)))
  show wpAny _ _ (newExc (.type "StopIteration") [] >>= _) _ _ _
  refine wpAny_bind ?_
  simp only [newExc, newTuple]
  refine wpAny_bind (wpAny_newObj_type ?_ (by size_fits))
  refine wpAny_bind (m := firstArgMember _ _) (wpAny_of_eq (a := Value.none) (by first | rfl | (simp only [firstArgMember]; rfl)) ?_)
  refine wpAny_newObj_type ?_ (by size_fits)
  have g1 := Heap.get?_push_of_some { cls := .type "tuple", data := .seq ([] : List Value).toArray } ((Heap.get?_update_other s.heap (Obj.mapFields (·.setIfInBounds 0 Value.none)) ne.symm).trans h1)
  refine raiseNew_hot ⟨hh, o1, vs1, Heap.get?_push_of_some _ g1, d1, c1⟩ (Nat.ne_of_lt (Heap.lt_size g1)) (Heap.get?_push_size _ rfl) rfl (by first | (simp; done) | (simp; omega) | (simp only [Array.size_append]; simp; omega)) ?_
  refine wpAny_bind (wpAny_isInstance (T := "StopIteration") (b := true) ⟨_, Heap.get?_update_self _ (Heap.get?_push_size _ rfl) rfl, rfl⟩ isSubtype_stop ?_)
  refine wpAny_pure (k _ fun b o nb e => ?_)
  have g2 := Heap.get?_push_of_some { cls := .type "tuple", data := .seq ([] : List Value).toArray } ((Heap.get?_update_other s.heap (Obj.mapFields (·.setIfInBounds 0 Value.none)) nb.symm).trans e)
  rw [Heap.get?_update_other _ _ (Nat.ne_of_gt (Heap.lt_size g2))]
  exact Heap.get?_push_of_some _ g2
end
end L2
namespace L2
open PySem PySem.Spec PyProof.Rows PySem.GX HotX
/-- the context X handles the exception p, which stands as it is -/
structure Hb (X : Cx) (p : Addr × Obj) : Prop where
  hh : X.A.handled = some (.ref p.1)
  ctx : ∃ vs : Array Value, p.2.data = .fields vs ∧ vs[2]? = some .none
  at_ : ∀ (pins : List (Addr × Obj)) (σ : St) (H : Hp) (s : Shared), Inv X pins σ H s → s.heap.get? p.1 = some p.2 ∧ H p.1 = none
section
variable {X : Cx} {p : Addr × Obj}
theorem Hb.hot (h : Hb X p) {pins : List (Addr × Obj)} {σ : St} {H : Hp} {s : Shared} (I : Inv X pins σ H s) : HotAt X.A p.1 s.heap := by
  obtain ⟨vs, d, c⟩ := h.ctx
  exact ⟨h.hh, p.2, vs, (h.at_ _ _ _ _ I).1, d, c⟩
theorem Hb.of_pn (h1 : X.A.handled = some (.ref p.1)) (h2 : ∃ vs : Array Value, p.2.data = .fields vs ∧ vs[2]? = some .none) (hp : p ∈ X.pn) : Hb X p :=
  ⟨h1, h2, fun pins σ H s I => let z := I.pin p (List.mem_append_left _ hp); ⟨z.1, z.2.1⟩⟩
end
section
variable {prog : Program} {w : World} {A : Around} {Er : Value → Shared → Prop} {s : Shared}
theorem items_hot {x l : Addr} {items : Array Value} {Q : List Value → Shared → Prop} (hot : HotAt A x s.heap) (hl : s.heap.IsList l items) (k : ∀ h', Heap.ExtBut s.heap.objs.size s.heap h' → Q items.toList { s with heap := h' }) :
    wpAny (model prog w) A (unpackItems (.ref l) items.size none) Q Er s := by
  have nl : l ≠ s.heap.objs.size := by
    obtain ⟨o, e, _⟩ := hl
    exact Nat.ne_of_lt (Heap.lt_size e)
  obtain ⟨hh, o1, vs1, h1, d1, c1⟩ := hot
  unfold unpackItems
  refine wpAny_bind ?_
  unfold notIterableAtAll
  refine wpAny_bind (wpAny_specialOf hl.typeIs slot_list_iter.lookup (wpAny_pure ?_))
  simp only [Bool.false_eq_true, if_false]
  refine wpAny_bind (wpAny_holding (wpAny_pyIter_list hl (wpAny_bind (wpAny_holding (PySem.W.kun_draw nl items.size 0 _ _ ⟨_, Heap.get?_push_size _ rfl, rfl, rfl⟩ (hl.push _) (by omega) fun ha ita sa => ?_)))))
  rw [show List.take items.size (List.drop 0 items.toList) = items.toList by rw [List.drop_zero]; exact List.take_of_length_le (by simp), if_neg (by simp)]
  have hot2 : HotAt A x ha := ⟨hh, o1, vs1, sa.extBut x _ (Nat.ne_of_lt (Heap.lt_size h1)) (Heap.get?_push_of_some _ h1), d1, c1⟩
  refine wpAny_bind (wpAny_holding (next_end_hot (s := { s with heap := ha }) hot2 ita ((hl.push _).extBut sa.extBut nl) (by simp) fun hb eb => ?_))
  simp only [Option.isSome_none, Bool.false_eq_true, if_false]
  exact wpAny_pure (k hb fun b o nb e => eb b o nb (sa.extBut b o nb (Heap.get?_push_of_some _ e)))
end
section
variable {X : Cx} {p : Addr × Obj} {pos : Pos}
/-- (a, b, ..) = a list, while p is handled -/
theorem pg_unlE {K : PySem.W.Frag} (eK : X.K = K) {es : List Expr} {k : Nat} {t : TGs} {n : Nat} (hb : Hb X p) (h : PGs X es t) (hn : (assignEach es X.env).length = n := by rfl) (hst : (assignEach es X.env).findIdx? (·.1) = none := by rfl) : PG X (.Tuple es k pos) (gUnl K n t) := by
  subst eK
  refine ⟨fun pl s σ H v u Q I r ⟨a, xs, ev, hq, hl, hw⟩ => ?_⟩
  subst ev
  cases r
  obtain ⟨its, rv, ls, hz⟩ := I.list hq
  obtain ⟨o, m, e, c, d, q⟩ := ls
  have isL : s.heap.IsList a its.toArray := ⟨o, e, c, m, q⟩
  have en : (assignEach es X.env).length = its.toArray.size := hn.trans (hl.symm.trans (rv.length.trans (by simp)))
  rw [PyProof.Rows.assign_Tuple]
  refine wpAny_bind (wpAny_standAt ?_)
  unfold unpack
  rw [en, hst]
  refine wpAny_bind (wpAny_holding (items_hot (hb.hot I) isL fun h' hx => ?_))
  exact h.run pl _ σ H xs _ Q (I.kept (t' := s.toks) fun b o e => hx b o (Nat.ne_of_lt (Heap.lt_size e)) e) (by simpa using rv) hw
end
section
variable {X : Cx} {p : Addr × Obj} {pl : List (Addr × Obj)} {s : Shared} {σ : St} {H : Hp} {Q : VK} {elt tg iter : Expr} {ifs : List Expr} {scope : Scope} {own : List (Str × Nat)} {pos pos' : Pos} {ti : TE} {g : TG} {tt : TT} {te : TE} {use : Option (Value → Sem Unit)} {Qf : Value → Shared → Prop}
/-- [e for target in a list if ..], while p is handled -/
theorem lcE (hp : p ∈ X.pn) (hb : Hb X p) (hN : X.N.Nodup) (I : Inv X pl σ H s) (hi : PE X iter ti) (ok : BlkOk X.N X.env.scope scope own)
    (hg : ∀ (s : Shared) (H : Hp) (C : Addr) (cl : List (Str × Addr)) (fp : List Addr), Hb (X.blk s H scope (compEnvC scope cl C X.env) fp) p → PG (X.blk s H scope (compEnvC scope cl C X.env) fp) tg g)
    (ht : ∀ (s : Shared) (H : Hp) (C : Addr) (cl : List (Str × Addr)) (fp : List Addr), PTs (X.blk s H scope (compEnvC scope cl C X.env) fp) ifs tt)
    (he : ∀ (s : Shared) (H : Hp) (C : Addr) (cl : List (Str × Addr)) (fp : List Addr), PE (X.blk s H scope (compEnvC scope cl C X.env) fp) elt te) (hs : ∀ x, foldedSetIterable iter X.env x = pure x)
    (want : tLc (iList X.K ti) g tt te (own.map (·.2)) σ H Q)
    (fin : ∀ D C s' m H', Inv X pl σ H' s' → Q (.ref D) H' → s'.heap.Ns C m → FpOk X pl H' C → compPost (model X.prog X.w) X.A X.xe use Qf (.ref D) C (.ok .next) s') :
    wpAny (model X.prog X.w) X.A (comprehension (.ListComp elt [⟨tg, iter, ifs, 0⟩] scope pos) scope X.env pos' (newList []) false (eval iter X.env) use) Qf X.xe s := by
  have frees : ∀ y ∈ scope.names, y.2 = .free → ∃ c, X.env.cells.lookup y.1 = some c := fun y hy e => by
    rcases ok.free y hy e with k | k
    · exact I.ok.has _ (.inl k)
    · exact I.ok.has _ (.inr k)
  refine wpAny_comprehension_free (use := use) rfl hs (closure_ok frees) ok.kind (fun y hy e => by rw [ok.uniq y hy, e]) (thn (hi.run pl s σ H _ I want) fun _ sa ⟨va, Ha, Ia, ra, a, ea, ⟨xs, hq⟩, wishes⟩ => ?_)
  subst ea
  cases ra
  obtain ⟨its, rv, ls, hz⟩ := Ia.list hq
  refine wpAny_pyIter_list ls.isList (wpAny_newObj_type (newEnv_comp ?_) (by show 0 ≤ sizeLine; decide))
  generalize eit : sa.heap.objs.size = it
  generalize esb : ({ sa with heap := sa.heap.push { cls := .type "list_iterator", data := .fields #[.ref a, .int 0 0] } } : Shared) = sb
  have hsb : sb.heap = sa.heap.push { cls := .type "list_iterator", data := .fields #[.ref a, .int 0 0] } := by rw [← esb]
  have Ib : Inv X pl σ Ha sb := by
    rw [← esb]
    exact Ia.kept (t' := sa.toks) fun b o e => Heap.get?_push_of_some _ e
  have itb : sb.heap.IsListIter it a 0 := by
    rw [hsb, ← eit]
    exact ⟨_, Heap.get?_push_size _ rfl, rfl, rfl⟩
  have okit : FpOk X pl Ha it := Ia.fpOk (Nat.le_of_eq eit) (Ia.hok.fresh (Nat.le_of_eq eit))
  generalize eD : sb.heap.objs.size = D
  have freeD : Ha D = none := Ib.hok.fresh (Nat.le_of_eq eD)
  obtain ⟨W, ⟨m0, begins⟩, turn⟩ := wishes D freeD
  generalize esc : ({ sb with heap := sb.heap.push { cls := .type "list", data := .seq ([] : List Value).toArray } } : Shared) = sc
  have hsc : sc.heap = sb.heap.push { cls := .type "list", data := .seq ([] : List Value).toArray } := by rw [← esc]
  have Ic : Inv X pl σ (upd Ha D (.lst [])) sc := by
    rw [← esc]
    refine Ib.laid (t' := sb.toks) (fun b o e => Heap.get?_push_of_some _ e) (Nat.le_of_eq eD) ⟨Nat.zero_le _, [], 0, .nil, ?_⟩
    rw [← eD]
    exact Heap.get?_push_size _ rfl
  have itlt : it < sb.heap.objs.size := by
    obtain ⟨o, e, _⟩ := itb
    exact Heap.lt_size e
  have okc : ∀ b ∈ [it], FpOk X pl (upd Ha D (.lst [])) b ∧ b < sc.heap.objs.size := fun b hb => by
    obtain rfl : b = it := by simpa using hb
    refine ⟨⟨?_, okit.2⟩, ?_⟩
    · rw [upd_ne (by rw [← eD]; exact Nat.ne_of_lt itlt)]
      exact okit.1
    · rw [hsc, Heap.size_push]
      exact Nat.lt_succ_of_lt itlt
  have itc : sc.heap.IsListIter it a 0 := itb.at fun o e => by
    rw [hsc]
    exact Heap.get?_push_of_some _ e
  have Id := block_start Ic ok hN okc
  have pc := hb.at_ _ _ _ _ Ic
  have pz := Ic.pin p (List.mem_append_left _ hp)
  have nit : p.1 ≠ it := okit.2.2.2.2.2 p (List.mem_append_left _ hp)
  -- the block bears the handled exception
  have hbb : Hb (X.blk sc (upd Ha D (.lst [])) scope (compEnvC scope (cellsFrom (sc.heap.objs.size + 1) scope.names (cloFrom X.env.cells scope.names [])) sc.heap.objs.size X.env) [it]) p := by
    refine ⟨hb.hh, hb.ctx, fun pins' σ' H' s' I' => ?_⟩
    have nfs : p.1 ∉ frs X.stack := fun m => by
      rcases Ic.ok.stk with z | ⟨z, zf⟩
      · rw [z] at m
        exact pz.2.2.2.1 m
      · rw [z] at m
        unfold frs at m
        rw [List.filterMap_cons, zf] at m
        rcases List.mem_cons.mp m with m | m
        · exact pz.2.2.1 m
        · exact pz.2.2.2.1 m
    have nex : p.1 ∉ [it] := fun z => nit (by simpa using z)
    exact ⟨I'.base.keep p.1 p.2 pc.1 pc.2 nfs nex, I'.base.free p.1 p.2 pc.1 pc.2 nex⟩
  have g1 := hg sc (upd Ha D (.lst [])) sc.heap.objs.size (cellsFrom (sc.heap.objs.size + 1) scope.names (cloFrom X.env.cells scope.names [])) [it] hbb
  have g2 := ht sc (upd Ha D (.lst [])) sc.heap.objs.size (cellsFrom (sc.heap.objs.size + 1) scope.names (cloFrom X.env.cells scope.names [])) [it]
  have g3 := he sc (upd Ha D (.lst [])) sc.heap.objs.size (cellsFrom (sc.heap.objs.size + 1) scope.names (cloFrom X.env.cells scope.names [])) [it]
  show codeAny _ _ (.compStart (.ListComp elt [⟨tg, iter, ifs, 0⟩] scope pos) 0 (.ref it) (.ref D) (compEnvC scope (cellsFrom (sc.heap.objs.size + 1) scope.names (cloFrom X.env.cells scope.names [])) sc.heap.objs.size X.env)) _
    { sc with heap := pushCells (sc.heap.push { cls := .type "dict", data := .dict #[] }) scope.names }
  have hid : (upd Ha D (.lst [])) it = none := (okc it (by simp)).1.1
  generalize eenv : compEnvC scope (cellsFrom (sc.heap.objs.size + 1) scope.names (cloFrom X.env.cells scope.names [])) sc.heap.objs.size X.env = env at Id g1 g2 g3 hbb ⊢
  have eloc : env.locals = sc.heap.objs.size := by subst eenv; rfl
  generalize eHc : upd Ha D (.lst []) = Hc at Ic Id g1 g2 g3 begins hid okc hbb
  generalize esd : ({ sc with heap := pushCells (sc.heap.push { cls := .type "dict", data := .dict #[] }) scope.names } : Shared) = sd at Id ⊢
  have itd : sd.heap.IsListIter it a 0 := itc.at fun o e => by
    rw [← esd]
    exact pushCells_keeps _ _ _ _ (Heap.get?_push_of_some _ e)
  have fpOk : ∀ {σ' : St} {H' : Hp} {s' : Shared}, Inv (X.blk sc Hc scope env [it]) [] σ' H' s' → H' it = none → FpOk (X.blk sc Hc scope env [it]) [] H' it := fun {σ' H' s'} I' free => by
    refine ⟨free, (I'.ok.exf it (by simp)).1, I'.ok.exfs it (by simp), .inl (by simp), fun x c e => (I'.ok.exf it (by simp)).2 x c e, fun q hq => ?_⟩
    exact absurd (show q ∈ ([] : List (Addr × Obj)) ++ [] from hq) (by simp)
  have lp : codeAny (model X.prog X.w) X.A (.compLoop (.ListComp elt [⟨tg, iter, ifs, 0⟩] scope pos) 0 (.ref it) (.ref D) env) (compPost (model X.prog X.w) X.A X.xe use Qf (.ref D) sc.heap.objs.size) sd := by
    refine compLoop_any (fun n s' => ∃ i H', Inv (X.blk sc Hc scope env [it]) [] (wipe σ (own.map (·.2))) H' s' ∧ s'.heap.IsListIter it a i ∧ H' it = none ∧ W i n H') ?_ m0 ⟨0, Hc, Id, itd, hid, begins⟩
    rintro n se ⟨i, He, Ie, ie, free, at_⟩
    obtain ⟨f0, f1, f2, f3, f4, f5⟩ := fpOk Ie free
    rcases turn i n He at_ with ⟨⟨ys, hy, hle⟩, wish⟩ | ⟨⟨ys, x0, hy, hx0⟩, On, next, step⟩
    · obtain ⟨jts, rj, lj, hj⟩ := Ie.list hy
      have hlen := rj.length
      refine next_end_hot (hbb.hot Ie) ie lj.isList (by simp; omega) fun h' eb => ?_
      have If : Inv (X.blk sc Hc scope env [it]) [] (wipe σ (own.map (·.2))) He { se with heap := h' } := Ie.turned (t' := se.toks) (fun b o hb e => eb b o hb e) f0 f1 f3 f4 f5
      have back : Inv X pl σ He { se with heap := h' } := Ic.call' (ch := [it]) If.os If.base If.hok If.bare fun b hb => ⟨(okc b hb).1.2.2.2.1, (okc b hb).1.2.1, (okc b hb).1.2.2.2.2.1, (okc b hb).1.2.2.2.2.2⟩
      have noC : He sc.heap.objs.size = none := by
        have z : He env.locals = none := If.free
        rw [eloc] at z
        exact z
      obtain ⟨m, hn, _⟩ := If.loc
      have hn' : h'.Ns env.locals m := hn
      rw [eloc] at hn'
      exact fin D sc.heap.objs.size _ m He back wish hn' (Ic.fpOk (Nat.le_refl _) noC)
    · obtain ⟨jts, rj, lj, hj⟩ := Ie.list hy
      obtain ⟨u, hu, ru⟩ := rj.get hx0
      refine wpAny_pyNext_list_item ie lj.isList (x := u) (by simpa using hu) fun h' ie' sb' => ?_
      have Ig : Inv (X.blk sc Hc scope env [it]) [] (wipe σ (own.map (·.2))) He { se with heap := h' } := Ie.turned (t' := se.toks) (fun b o hb e => (sb'.2 b hb).trans e) f0 f1 f3 f4 f5
      obtain ⟨oi, ei, ci, di⟩ := id ie'
      refine go_of (s := { se with heap := h' }) ei ci di (by decide) ?_
      have pinned := Ig.pinned (fp := [it]) (fun b hb => by
        obtain rfl : b = it := by simpa using hb
        exact fpOk Ig free) (fun b hb => by
        obtain rfl : b = it := by simpa using hb
        exact ⟨oi, ei, fun v z => by rw [di] at z; cases z⟩)
      refine thnF (g1.run _ { se with heap := h' } _ He x0 u _ pinned ru (step x0 He ⟨rfl, fun zs hz => by rw [Ie.list_inj hz hy]; exact hx0⟩)) fun _ sh ⟨σh, Hh, Ih, wh, qh⟩ => ?_
      refine thnF (g2.run _ sh σh Hh _ Ih qh) fun b si ⟨Hi, Ii, qi⟩ => ?_
      have ends : ∀ {s' : Shared} {H' : Hp}, Inv (X.blk sc Hc scope env [it]) ([] ++ pinsAt [it] h') σh H' s' → On H' →
          ∃ m, m < n ∧ ∃ i H', Inv (X.blk sc Hc scope env [it]) [] (wipe σ (own.map (·.2))) H' s' ∧ s'.heap.IsListIter it a i ∧ H' it = none ∧ W i m H' := fun {s' H'} I' on => by
        obtain ⟨m', lt, at'⟩ := next H' on
        have z := I'.pin (it, oi) (List.mem_append_right _ (List.mem_append_right _ (mem_pinsAt (by simp) ei)))
        have len : (wipe σ (own.map (·.2))).length = σh.length := by
          rw [← wh, wipe_length]
        refine ⟨m', lt, i + 1, H', (I'.unpinned (pins := [])).weak len (fun j y e => ?_), ⟨oi, z.1, ci, di⟩, z.2.1, at'⟩
        rw [← wh] at e
        exact (wipe_some e).1
      cases b with
      | false =>
        simp only [Bool.false_eq_true, if_false] at qi ⊢
        exact ends Ii qi
      | true =>
        simp only [if_true] at qi ⊢
        refine thnF (g3.run _ si σh Hi _ Ii qi) fun _ sj ⟨yv, Hj, Ij, rj', acc, eDj, few, on⟩ => ?_
        exact app_ok (X := X.blk sc Hc scope env [it]) Ij eDj few rj' fun _ Il => ends Il on
  exact codeAny_compStart_list lp (wpAny_pyIter_listiter itd lp)
/-- name = [..] on one line, while p is handled -/
theorem ps_setLcE {i : Nat} {y : Str} {py spos : Pos} (hp : p ∈ X.pn) (hb : Hb X p) (hN : X.N.Nodup) (hy : X.N[i]? = some y) (hyl : X.env.scope.names.lookup y = some .local) (hsw : swapsWith (.ListComp elt [⟨tg, iter, ifs, 0⟩] scope pos) (some (.Name y py)) spos.line X.env = pure true)
    (hi : PE X iter ti) (ok : BlkOk X.N X.env.scope scope own)
    (hg : ∀ (s : Shared) (H : Hp) (C : Addr) (cl : List (Str × Addr)) (fp : List Addr), Hb (X.blk s H scope (compEnvC scope cl C X.env) fp) p → PG (X.blk s H scope (compEnvC scope cl C X.env) fp) tg g)
    (ht : ∀ (s : Shared) (H : Hp) (C : Addr) (cl : List (Str × Addr)) (fp : List Addr), PTs (X.blk s H scope (compEnvC scope cl C X.env) fp) ifs tt)
    (he : ∀ (s : Shared) (H : Hp) (C : Addr) (cl : List (Str × Addr)) (fp : List Addr), PE (X.blk s H scope (compEnvC scope cl C X.env) fp) elt te) (hs : ∀ x, foldedSetIterable iter X.env x = pure x := by intro _; rfl) :
    PS X (.Assign [.Name y py] (.ListComp elt [⟨tg, iter, ifs, 0⟩] scope pos) spos) (tAsg (tLc (iList X.K ti) g tt te (own.map (·.2))) (gName i)) := by
  refine ⟨fun pl s σ H D I want => ?_⟩
  rw [exec_Assign_Name_used _ _ _ _ hsw]
  refine wpAny_bind (wpAny_standAt (wpAny_bind (wpAny_bind (thn (lcE (Qf := fun _ s' => SP X pl D .next s') hp hb hN I hi ok hg ht he hs (show tLc (iList X.K ti) g tt te (own.map (·.2)) σ H (fun x H1 => gName i x σ H1 D.nx) from want) fun L C s' m H' I' q hn f => ?_) fun _ s' hq => wpAny_pure (wpAny_pure hq)))))
  obtain ⟨f0, f1, f2, f3, f4, f5⟩ := f
  refine wpAny_assign_Name (store_ok2 (v := V.ref L) I' hN hy (.inl hyl) rfl (fun sx Ix ⟨a, sb, ha⟩ => ⟨m, hn.sameBut sb ?_, fun hx sbx => ⟨_, H', Ix.turned (t' := sx.toks) (fun b o hb e => (sbx.2 b hb).trans e) f0 f1 f3 f4 f5, q⟩⟩) (.inr hyl))
  rcases ha with z | z
  · rw [z]
    exact f1
  · exact fun e => f4 y a z e.symm
end
end L2
namespace L2
open PySem PySem.Spec PyProof.Rows PySem.GX HotX L2H
/-- what a def promises where p is handled: sp may speak of p -/
structure FnE (p : Addr × Obj) (P : Program) (w : World) (K : PySem.W.Frag) (mg : Str → Option Value) (base : Heap) (k : Nat) (f : Addr) (fd : FuncData) (ps : List Str) (sp : Sp) : Prop where
  len : ∀ vs H Q E, sp vs H Q E → vs.length = ps.length
  run : ∀ (A : Around) (outer : List Env) (s : Shared) (H : Hp) (args : Args) (us : List Value) (vs : List V) (Q : VK) (E : XK), RoomH k A → Hot1 A p → PinOk outer H s p → Env0 P w K mg base A outer s H → BindsTo s fd args (ps.zip us) → Vals vs us → sp vs H Q E →
    codeAny (model P w) A (.call (.ref f) args) (CR CX0 outer P w H s Q E) s
section
variable {P : Program} {w : World} {K : PySem.W.Frag} {mg : Str → Option Value} {base : Heap} {p : Addr × Obj}
theorem Fun.okE {x qual : Str} {st : Stmt} {f : Addr} {fd : FuncData} {N ps : List Str} {k : Nat} {sp : Sp} (F : Fun K x qual st f fd) (S : FnScope N ps (defScope st)) (len : ∀ vs H Q E, sp vs H Q E → vs.length = ps.length)
    (hbody : ∀ (cdv : Value) (A : Around) (outer : List Env) (s : Shared) (H : Hp) (vs : List V) (Q : VK) (E : XK), Hot1 A p → RoomH k (A.deeper (envOfC qual (defScope st) s.heap.objs.size f cdv)) → sp vs H Q E →
      ∃ t, PSs (cxH CX0 P w K mg base N qual (defScope st) f cdv A outer s H E p) (defBody st) t ∧ t { nx := fun _ H' => Q .non H', rt := Q } (start N vs) H) : FnE p P w K mg base (k + 1) f fd ps sp := by
  obtain ⟨oc, od, kV, doc, pm, an, cdv, ct, osl, rfl, lk, hcd⟩ := F.ex
  refine ⟨len, fun A outer s H args us vs Q E hr hot hpin e0 hb r want => ?_⟩
  have kin : K.In s.heap := e0.mod.kin.keeps fun b o e => (e0.bs b o e).1
  have kinds : ∀ y ∈ ps.zip us, (defScope st).names.lookup y.1 = some .local ∨ ((defScope st).names.lookup y.1 = some .cell ∧ ((cellsFrom (s.heap.objs.size + 1) (defScope st).names []).lookup y.1).isSome = true) := fun ⟨n, v⟩ hy => by
    rcases S.par n (List.of_mem_zip hy).1 with q | q
    · exact .inl q
    · exact .inr ⟨q, PySem.W.cellsFrom_some _ _ _ (.inl q)⟩
  refine codeAny_call_function hr.depth (kin _ _ lk) rfl S.co S.gen rfl (PySem.W.codeRec_of kin hcd) (hb _ _ _ _ (wpAny_newFunctionEnv_cells S.kind kinds fun env he s1 x => ?_))
  subst he
  refine ⟨(e0.mod.nolimit.keeps fun b o e => (e0.bs b o e).1).keeps x.toInCall.keep, codeAny_func ?_⟩
  obtain ⟨t, ht, hq⟩ := hbody cdv A outer s H vs Q E hot (hr.deeper _) want
  refine wpAny_mono (ht.run [] s1 (start N vs) H _ (inv_startH S hpin e0 (len _ _ _ _ want) r x) hq) (fun fl s' hs => ?_) fun e s' hs => hs
  cases fl with
  | ret u =>
    obtain ⟨v, σ', H', J, rv, q⟩ := hs
    exact ⟨v, H', J.os, J.bare, J.base, J.hok, rv, q⟩
  | next =>
    obtain ⟨σ', H', J, q⟩ := hs
    exact ⟨V.non, H', J.os, J.bare, J.base, J.hok, rfl, q⟩
  | brk =>
    obtain ⟨_, _, _, q⟩ := hs
    exact False.elim q
  | cont =>
    obtain ⟨_, _, _, q⟩ := hs
    exact False.elim q
end
def tCallE (sp : Sp) (t : TA) : TE := fun σ H Q => t σ H fun vs H1 => sp vs H1 Q fun _ _ _ => False
section
variable {X : Cx} {p : Addr × Obj} {k : Nat} {f : Addr} {fd : FuncData} {ps : List Str} {sp : Sp} {x : Str} {pp pos : Pos} {e : Expr} {es : List Expr} {t : TA}
theorem pe_callE (F : FnE p X.prog X.w X.K X.mg X.base k f fd ps sp) (hr : RoomH k X.A) (hot : Hot1 X.A p) (hp : p ∈ X.pn) (hg : Gl X x) (hm : X.mg x = some (.ref f)) (hk : PySem.W.keepIn X.K (.ref f) = true) (hb : Binds X.K fd ps [])
    (ha : PA X (e :: es) t) (hdb : (x == ("__debug__" : Str)) = false := by decide) (he : starEach (e :: es) X.env = (false, eval e X.env) :: starEach es X.env := by rfl) (hpl : (backTo pos (starEach es X.env)).any (·.1) = false := by rfl) :
    PE X (.Call (.Name x pp) (e :: es) [] pos) (tCallE sp t) := by
  refine ⟨fun pl s σ H Q I want => wpAny_Call_Name_kw (ld_glob I hg hm (PySem.W.callWith_K (h₀ := X.base) I.ok.mod.kin hk (thn (ha.run pos pl s σ H _ I want) fun us s1 ⟨vs, H1, I1, r, q⟩ => ⟨I1.kIn, ?_⟩) he hpl) hdb)⟩
  have hl : us.length = ps.length := by
    rw [← r.length]
    exact F.len _ _ _ _ q
  have b := hb s1 us I1.kIn (by rw [List.append_nil]; exact hl)
  rw [List.append_nil] at b
  have z := I1.pin p (List.mem_append_left _ hp)
  have pin : PinOk X.stack H1 s1 p := ⟨z.1, z.2.1, fun m => (List.mem_cons.mp (I1.stkSub p.1 m)).elim z.2.2.1 z.2.2.2.1, z.2.2.2.2⟩
  refine wpAny_call (codeAny_mono (F.run X.A X.stack s1 H1 ⟨us, []⟩ us vs Q _ hr hot pin I1.env0 b r q) fun r s' hq => ?_)
  cases r with
  | error e => exact False.elim hq
  | ok fl =>
    cases fl with
    | ret u => exact I1.after hq
    | next => exact False.elim hq
    | brk => exact False.elim hq
    | cont => exact False.elim hq
end
end L2
namespace L2
open PySem PySem.Spec PyProof.Rows PySem.GX HotX L2H
/-- p is an exception of the class at C, its dict at d -/
structure PIs (p : Addr × Obj) (C d : Addr) : Prop where
  cl : p.2.cls = .ref C
  di : p.2.dict = some d
section
variable {X : Cx} {p : Addr × Obj} {C d : Addr} {pins : List (Addr × Obj)} {σ : St} {H : Hp} {s : Shared} {fs : List (Str × V)}
theorem inst_p (hb : Hb X p) (hp : PIs p C d) (I : Inv X pins σ H s) (hd : H d = some (exd d fs)) : ∃ o : Obj, PySem.W.InstAt s.heap p.1 p.2 C (some o) := by
  obtain ⟨mA, ⟨o, es, ep, h1, h2⟩, _⟩ := exd_at I.hok hd
  obtain ⟨vs, dv, _⟩ := hb.ctx
  refine ⟨o, ⟨(hb.at_ _ _ _ _ I).1, hp.cl, ?_, ?_⟩⟩
  · unfold PySem.W.notCls
    rw [dv]
  · rw [hp.di]
    exact h1
end
/-- isinstance(e, c), e the exception p that is handled -/
def rIsP (p : Addr × Obj) (C d : Addr) (K : PySem.W.Frag) : List V → Hp → VK → Prop := fun xs H Q => ∃ (c : V) (u : Value) (b : Bool) (fs : List (Str × V)), xs = [.ref p.1, c] ∧ H d = some (exd d fs) ∧ ClsV c u ∧ PySem.W.kitOne K (.ref C) u = some b ∧ Q (.bl b) H
theorem call_isP {X : Cx} {p : Addr × Obj} {C d : Addr} (hb : Hb X p) (hp : PIs p C d) (T : ExcC X.K C) : CallR X (.builtin "isinstance") (rIsP p C d X.K) := by
  intro pl s σ H xs us Q I r ⟨c, u, b, fs, ex, hd, k, ek, q⟩
  subst ex
  obtain ⟨u1, u2, rfl, r1, r2⟩ := vals2 r
  have z := k.eq r2
  subst z
  obtain rfl : u1 = Value.ref p.1 := r1
  obtain ⟨o, J⟩ := inst_p hb hp I hd
  exact PySem.W.kia_one (kitG T) I.kIn J ek (fun z => nomatch z) fun tk => ⟨.bl b, H, I.tok tk, rfl, q⟩
/-- e.f, e the exception p that is handled -/
def tXfP (p : Addr × Obj) (C d : Addr) (K : PySem.W.Frag) (f : Str) (te : TE) : TE := fun σ H Q => te σ H fun x H1 => ∃ (fs : List (Str × V)) (v : V), x = .ref p.1 ∧ H1 d = some (exd d fs) ∧ PySem.W.findIn K (.ref C) f = some none ∧ fs.lookup f = some v ∧ Q v H1
theorem pe_xfP {X : Cx} {p : Addr × Obj} {C d : Addr} {e : Expr} {te : TE} {f : Str} {pos : Pos} (hb : Hb X p) (hp : PIs p C d) (T : ExcC X.K C) (he : PE X e te) (ha : attributeBase e f X.env (eval e X.env) = eval e X.env := by rfl) : PE X (.Attribute e f pos) (tXfP p C d X.K f te) := by
  refine ⟨fun pl s σ H Q I want => attr_of ha (thn (he.run pl s σ H _ I want) fun u s1 ⟨x, H1, I1, rx, fs, v, ex, hd, no, l, q⟩ => ?_)⟩
  subst ex
  obtain rfl : u = Value.ref p.1 := rx
  obtain ⟨mA, hns, rel⟩ := exd_at I1.hok hd
  obtain ⟨od, hod, hl⟩ := lookIn_ns hns
  obtain ⟨u, hu, ru⟩ := RelO.some_of (v := v) (o := mA f) (by rw [← l]; exact rel f)
  obtain ⟨vs, dv, _⟩ := hb.ctx
  have J : PySem.W.InstAt s1.heap p.1 p.2 C (some od) := ⟨(hb.at_ _ _ _ _ I1).1, hp.cl, by unfold PySem.W.notCls; rw [dv], by rw [hp.di]; exact hod⟩
  exact HandSPX.exc_get I1.kIn J T.hg T.hk T.hs (PySem.W.findObj_own T.hd no rfl (by rw [hl, hu])) (handed_of ru) ⟨v, H1, I1.tok _, ru, q⟩
end L2
namespace L2
open PySem PySem.Spec PyProof.Rows PySem.GX HotX L2H
theorem PE_imp {X : Cx} {e : Expr} {t t' : TE} (h : PE X e t) (m : ∀ σ H Q, t' σ H Q → t σ H Q) : PE X e t' := ⟨fun pins s σ H Q I q => h.run pins s σ H Q I (m σ H Q q)⟩
/-- __init__ with one field -/
def spI1 (C : Addr) (f : Str) : Sp := fun vs H Q _ => ∃ (a : Addr) (v : V), vs = [.ref a, v] ∧ H a = some (exo a C none) ∧
  ∀ d, H d = none → d ≠ a → Q .non (upd (upd H d (exd d [(f, v)])) a (exo a C (some d)))
/-- the class x at C, whose __init__ keeps its one argument as f -/
structure Mk1 (P : Program) (w : World) (K : PySem.W.Frag) (mg : Str → Option Value) (base : Heap) (x : Str) (C : Addr) (f : Str) : Prop where
  ex : ExG K C
  gC : mg x = some (.ref C)
  ini : ∃ (fI : Addr) (fd : FuncData), PySem.W.findIn K (.ref C) "__init__" = some (some (.ref fI)) ∧ PySem.W.typeIn K (.ref fI) = some (.type "function") ∧ FnOk P w K mg base CX0 1 fI fd ["self", f] (spI1 C f) ∧
    KBn K fd ["self", f] 2 [] (fun us _ => us) (fun vs _ => vs) ∧ KBn K fd ["self", f] 1 [f] (fun us ws => us ++ ws) (fun vs zs => vs ++ zs)
def tMk1 (C : Addr) (f : Str) (ta : TA) : TE := fun σ H Q => ta σ H fun vs H1 => ∃ v, vs = [v] ∧ ∀ (a d : Addr) (H2 : Hp), H1 a = none → d ≠ a → Same H1 H2 → ExAt H2 a C d [(f, v)] → Q (.ref a) H2
/-- the heap behind the making -/
theorem mk1_heap {H : Hp} {a d C : Addr} {f : Str} {v : V} (ha : H a = none) (hd : upd H a (exo a C none) d = none) (ne : d ≠ a) :
    Same H (upd (upd (upd H a (exo a C none)) d (exd d [(f, v)])) a (exo a C (some d))) ∧ ExAt (upd (upd (upd H a (exo a C none)) d (exd d [(f, v)])) a (exo a C (some d))) a C d [(f, v)] := by
  refine ⟨fun b o e => ?_, upd_same, by rw [upd_ne ne, upd_same]⟩
  have hd' : H d = none := by rw [upd_ne ne] at hd; exact hd
  rw [upd_ne (ne_of_none e ha), upd_ne (ne_of_none e hd'), upd_ne (ne_of_none e ha)]
  exact e
section
variable {X : Cx} {x f g : Str} {C : Addr} {e : Expr} {es : List Expr} {kws : List Keyword} {ta tk : TA} {p pos : Pos}
theorem pe_mk1 (M : Mk1 X.prog X.w X.K X.mg X.base x C f) (hr : Room 2 X.A) (hg : Gl X x) (ha : PA X (e :: es) ta)
    (hdb : (x == ("__debug__" : Str)) = false := by decide) (he : starEach (e :: es) X.env = (false, eval e X.env) :: starEach es X.env := by rfl) (hpl : (backTo pos (starEach es X.env)).any (·.1) = false := by rfl) :
    PE X (.Call (.Name x p) (e :: es) [] pos) (tMk1 C f ta) := by
  obtain ⟨fI, fd, iC, tI, F1, kb, _⟩ := M.ini
  refine ⟨fun pins s σ H Q I h => wpAny_Call_Name_kw (ld_glob I hg M.gC ?_ hdb)⟩
  refine PySem.W.callWith_K (h₀ := X.base) I.ok.mod.kin M.ex.kC (thn (ha.run pos pins s σ H _ I h) fun us s1 ⟨vs, H1, I1, r, v, ev, q⟩ => ⟨I1.kIn, ?_⟩) he hpl
  subst ev
  refine run_mkG (n := 1) (ks := []) (ws := []) (zs := []) M.ex iC tI F1 hr kb pass0 I1 r .nil rfl rfl (by show 1 ≤ 1000; decide) fun a na => ⟨a, v, rfl, upd_same, fun d nd ne => ⟨rfl, ?_⟩⟩
  obtain ⟨z1, z2⟩ := mk1_heap (f := f) (v := v) na nd ne
  exact q a d _ na ne z1 z2
end
/-- an own exception with its dict, made and raised -/
theorem pmk_exo {X : Cx} {e : Expr} {te : TE} (hx : X.ex = []) (he : PE X e te) :
    L2N.PMk X e (fun σ H Q => te σ H fun x H1 => ∃ a C d, x = .ref a ∧ H1 a = some (exo a C (some d)) ∧ X.H_0 a = none ∧ Raises X (.ref C) ∧ Q (.ref C) (some d) (delH H1 a)) := by
  intro pl s σ H Q I want
  refine wpAny_mono (he.run pl s σ H _ I want) (fun u s1 ⟨v, H1, I1, r1, a, C, d, ev, ea, h0, hr, q⟩ => ?_) fun _ _ x => x
  subst ev
  cases r1
  obtain ⟨t1, ho⟩ := exo_at I1.hok ea
  obtain ⟨G, gs, ga, J⟩ := Inv.untrack I1 ea (fr0_none h0) hx
  exact ⟨a, _, _, { s1 with heap := G }, delH H1 a, .ref C, some d, rfl, J, gs, ga, ho, ⟨rfl, rfl, fun vs e => by cases e; rfl⟩, rfl, rfl, delH_same, rfl, I1.bare, hr, q⟩
/-- raise X(e): what leaves -/
def tRs1 (X : Cx) (C : Addr) (f : Str) (W : L2.WX) (ta : TA) : TS := fun _ σ H => tMk1 C f ta σ H fun x H1 => ∃ a C d, x = .ref a ∧ H1 a = some (exo a C (some d)) ∧ X.H_0 a = none ∧ Raises X (.ref C) ∧ W (.ref C) (some d) σ (delH H1 a)
section
variable {X : Cx} {x f : Str} {C : Addr} {e : Expr} {es : List Expr} {ta : TA} {pp pos pos2 : Pos} {W : L2.WX}
theorem ps_raise1 (M : Mk1 X.prog X.w X.K X.mg X.base x C f) (hr : Room 2 X.A) (hg : Gl X x) (hx : X.ex = []) (hc : X.calm = true) (tk : L2N.Takes X W) (ha : PA X (e :: es) ta)
    (hdb : (x == ("__debug__" : Str)) = false := by decide) (he : starEach (e :: es) X.env = (false, eval e X.env) :: starEach es X.env := by rfl) (hpl : (backTo pos (starEach es X.env)).any (·.1) = false := by rfl) :
    PS X (.Raise (some (.Call (.Name x pp) (e :: es) [] pos)) none pos2) (tRs1 X C f W ta) :=
  L2N.ps_raise hc tk (pmk_exo hx (pe_mk1 (p := pp) M hr hg ha hdb he hpl))
/-- how the reading is answered -/
theorem rs1_end {X : Cx} {C a d : Addr} {f : Str} {v : V} {H1 H2 : Hp} {σ : St} {W : L2.WX} (rs : Raises X (.ref C)) (h0 : Same X.H_0 H1) (na : H1 a = none) (ne : d ≠ a) (s2 : Same H1 H2) (ex : ExAt H2 a C d [(f, v)])
    (k : ∀ H3, Same H1 H3 → H3 d = some (exd d [(f, v)]) → W (.ref C) (some d) σ H3) : ∃ a' C' d', V.ref a = .ref a' ∧ H2 a' = some (exo a' C' (some d')) ∧ X.H_0 a' = none ∧ Raises X (.ref C') ∧ W (.ref C') (some d') σ (delH H2 a') := by
  refine ⟨a, C, d, rfl, ex.ob, h0.free na, rs, k _ (fun b o e => ?_) ?_⟩
  · rw [delH_ne (ne_of_none e na)]
    exact s2 b o e
  · rw [delH_ne ne]
    exact ex.di
end
/-- a def that may raise, where nothing is handled -/
theorem Fun.okN {P : Program} {w : World} {K : PySem.W.Frag} {mg : Str → Option Value} {base : Heap} {x qual : Str} {st : Stmt} {f : Addr} {fd : FuncData} {N ps : List Str} {k : Nat} {sp : Sp} (F : Fun K x qual st f fd) (S : FnScope N ps (defScope st)) (len : ∀ vs H Q E, sp vs H Q E → vs.length = ps.length)
    (hbody : ∀ (cdv : Value) (A : Around) (outer : List Env) (s : Shared) (H : Hp) (vs : List V) (Q : VK) (E : XK), Room k (A.deeper (envOfC qual (defScope st) s.heap.objs.size f cdv)) → sp vs H Q E →
      ∃ t, PSs (cxOf (L2N.CX P w) P w K mg base N qual (defScope st) f cdv A outer s H E) (defBody st) t ∧ t { nx := fun _ H' => Q .non H', rt := Q } (start N vs) H) : FnOk P w K mg base (L2N.CX P w) (k + 1) f fd ps sp := by
  obtain ⟨oc, od, kV, doc, pm, an, cdv, ct, osl, rfl, lk, hcd⟩ := F.ex
  exact fn_of lk hcd S len fun A outer s H vs Q E hr want => hbody cdv A outer s H vs Q E hr want
end L2
namespace L2
open PySem PySem.Spec PyProof.Rows PySem.GX HotX L2H
theorem flying_keep {B h h' : Heap} {l : List Env} {e : Addr} {Z : Obj → Prop} (x : HandSPX.FlyingZ B l e Z h) (k : ∀ b o, h.get? b = some o → h'.get? b = some o) : HandSPX.FlyingZ B l e Z h' := by
  obtain ⟨f1, f2, f3, oe, vs, T, oT, ts, a1, a2, a3, a4, a5, a6, a7, a8, a9⟩ := x
  exact ⟨fun b o q => k b o (f1 b o q), f2, f3.of_keeps fun b o q _ => ⟨o, k b o q, rfl⟩, oe, vs, T, oT, ts, k _ _ a1, a2, a3, a4, a5, a6, k _ _ a7, a8, a9⟩
/-- what 'except (c1, c2, ..) as n' wishes: slot i is n's; all that may come is of one of them -/
def w3 (K : PySem.W.Frag) (cs : List Value) (i : Nat) (ts : Addr → Value → Option Addr → TS) (D : Ends) : L2.WX := fun cls d σ H =>
  PySem.W.exmAny K cls cs = some true ∧ ∀ a, H a = none → ts a cls d { nx := fun σ' H' => D.nx (σ'.set i none) H', rt := D.rt, bk := fun σ' H' => D.bk (σ'.set i none) H', ct := fun σ' H' => D.ct (σ'.set i none) H' } (σ.set i (some (.ref a))) H
section
variable {X : Cx} {x1 x2 x3 n : Str} {c1 c2 c3 : Value} {i kk : Nat} {body suite : List Stmt} {b₀ : Stmt} {p1 p2 p3 tp pos pos' : Pos} {tb : L2.WX → TS} {ts : Addr → Value → Option Addr → TS}
theorem ps_try3 (hs : X.stack = X.env :: X.outer) (hf : X.env.frame = some X.env.locals) (hN : X.N.Nodup) (hi : X.N[i]? = some n) (hln : X.env.kindOf n = some .local) (m1 : Names X x1 c1) (m2 : Names X x2 c2) (m3 : Names X x3 c3)
    (hb : ∀ (W : L2.WX) (pn : List (Addr × Obj)) (xe : Value → Shared → Prop), L2N.Takes (X.tr pn xe) W → PassesOwn (model X.prog X.w) X.A X.env xe → PSs (X.tr pn xe) body (tb W))
    (hsu : ∀ (a : Addr) (oe : Obj) (cls : Value) (d : Option Addr) (pn : List (Addr × Obj)), L2N.Zn cls d oe → (∃ vs, oe.data = .fields vs) → PSs (X.suite a ((a, oe) :: pn)) (b₀ :: suite) (ts a cls d)) :
    PS X (.Try body [.ExceptHandler (some (.Tuple [.Name x1 p1, .Name x2 p2, .Name x3 p3] kk tp)) (some n) (b₀ :: suite) pos'] [] [] pos) (fun D σ H => tb (w3 X.K [c1, c2, c3] i ts D) D σ H) := by
  refine ⟨fun pl s σ H D I want => wpAny_Try_except ?_⟩
  have ok := I.ok
  have frs_ : X.A.frames = some (X.env :: X.outer) := by rw [ok.frames, hs]
  have loc_ : Loc X.env.scope n := .inl hln
  refine wpAny_mono ((hb (w3 X.K [c1, c2, c3] i ts D) (X.pn ++ pl) (fun e s₁ => wpAny (model X.prog X.w) X.A (noteFrame e X.env) (fun _ s₂ => wpAny (model X.prog X.w) X.A (setFlight e none) (fun _ s₃ =>
    wpAny (model X.prog X.w) X.A (handleBy e X.env [.ExceptHandler (some (.Tuple [.Name x1 p1, .Name x2 p2, .Name x3 p3] kk tp)) (some n) (b₀ :: suite) pos']) (SP X pl D) X.xe s₃) X.xe s₂) X.xe s₁) (fun u s' xx => ?_) PassesOwn.looking).run [] s σ H D (I.toTry _) want) (fun f s1 hsp => ?_) (fun e s1 he => he)
  · obtain ⟨a, B, sI, pins', σ', H', cls, d, rfl, J', nb, up, sky, na, os, ag, hex, hyes⟩ := xx
    have J : Inv X pl σ' H' sI := J'.ofTry ok
    show wpAny (model X.prog X.w) X.A (noteFrame (.ref a) X.env) _ _ _
    refine L2N.Sky.land L2N.Zn.steady frs_ hf (show Sky B (X.env :: X.outer) a (L2N.Zn cls d) X.env.locals s'.heap by rw [← hs]; exact sky) fun h3 fl3 up3 => ?_
    have J3 : Inv X pl σ' H' { s' with heap := h3 } := J.landed nb fl3.1 (up.trans up3) os ag
    obtain ⟨oe3, vs3, he3, hz3, hd3⟩ := fl3.there
    have nfr : a ∉ frs (X.env :: X.outer) := fun m => by
      obtain ⟨_, o', e', hnf⟩ := fl3.2.2.1.mem m
      rw [he3] at e'
      cases e'
      exact hnf _ hd3
    have nL : a ≠ X.env.locals := fun z => nfr (List.mem_filterMap.mpr ⟨X.env, List.mem_cons_self, by rw [hf, z]⟩)
    have nF : a ∉ X.fs := fun m => by
      obtain ⟨e, he, q⟩ := List.mem_filterMap.mp m
      exact nfr (List.mem_filterMap.mpr ⟨e, List.mem_cons_of_mem _ he, q⟩)
    have S3 := J3.suite he3 hd3 na nL nF
    refine wpAny_handleBy_cons (codeAny_handlers_test ?_) (by intro q; cases q)
    have nam : ∀ {x : Str} {c : Value} {np : Pos} {Q : Value → Shared → Prop} {E : Value → Shared → Prop}, Names X x c → Q c { s' with heap := h3 } → wpAny (model X.prog X.w) (X.A.mark (some (.ref a))) (eval (.Name x np) X.env) Q E { s' with heap := h3 } := fun {x c np Q E} hc q => by
      obtain ⟨hg, hdbg, hm | ⟨hm, hv, hnn⟩⟩ := hc
      · exact ld_glob (X := X.suite a ((a, oe3) :: (X.pn ++ pl))) S3 hg hm q hdbg
      · exact ld_blt (X := X.suite a ((a, oe3) :: (X.pn ++ pl))) S3 hg hm hv q hnn hdbg
    refine wpAny_Tuple (wpAny_items_cons (nam m1 (wpAny_items_cons (nam m2 (wpAny_items_cons (nam m3 (wpAny_items_nil ⟨by size_fits, ?_⟩)))))))
    have kp : ∀ q o, h3.get? q = some o → (h3.push { cls := .type "tuple", data := .seq [c1, c2, c3].toArray }).get? q = some o := fun _ _ z => Heap.get?_push_of_some _ z
    have LT : PySem.W.Looks (model X.prog X.w) (h3.push { cls := .type "tuple", data := .seq [c1, c2, c3].toArray }) (typeOf (.ref a)) cls := fun A Q E s k q => wpAny_typeOf_ref (k _ _ (kp _ _ he3)) (by rw [hz3.1]; exact q)
    refine (PySem.W.exm_tup3 (M := model X.prog X.w) (J3.kIn.keeps kp) LT (Heap.get?_push_size h3 rfl) hex).here ?_
    refine codeAny_handlers_suite_as (HandSPX.lands_againZ (flying_keep fl3 kp) fun h4 fl4 up4 => ?_)
    have J4 : Inv X pl σ' H' { s' with heap := h4 } := J.landed nb fl4.1 (((up.trans up3).trans (.of_keeps kp)).trans up4) os ag
    obtain ⟨oe4, vs4, he4, hz4, hd4⟩ := fl4.there
    have S4 := J4.suite he4 hd4 na nL nF
    refine store_ok (X := X.suite a ((a, oe4) :: (X.pn ++ pl))) (v := .ref a) S4 hN hi loc_ rfl (fun s5 S5 => wpAny_mono ((hsu a oe4 cls d (X.pn ++ pl) hz4 ⟨_, hd4⟩).run [] s5 _ H' _ S5 (hyes a na)) (fun f s6 hsp => ?_) (fun _ _ z => False.elim z)) (.inr hln)
    have leaves : ∀ {σ6 : St} {H6 : Hp} {Q : Shared → Prop}, Inv (X.suite a ((a, oe4) :: (X.pn ++ pl))) [] σ6 H6 s6 → (∀ s7, Inv X pl (σ6.set i none) H6 s7 → Q s7) →
        wpAny (model X.prog X.w) X.A (do bindName X.env n .none; unbindBehindTheSuite X.env n pos') (fun _ s7 => Q s7) X.xe s6 := fun {σ6 H6 Q} S6 hq => gone_ok (S6.unsuite ok) hN hi hln hq
    cases f with
    | next =>
      obtain ⟨σ6, H6, S6, q6⟩ := hsp
      exact leaves S6 fun s7 J7 => ⟨_, _, J7, q6⟩
    | brk =>
      obtain ⟨σ6, H6, S6, q6⟩ := hsp
      exact leaves S6 fun s7 J7 => ⟨_, _, J7, q6⟩
    | cont =>
      obtain ⟨σ6, H6, S6, q6⟩ := hsp
      exact leaves S6 fun s7 J7 => ⟨_, _, J7, q6⟩
    | ret u =>
      obtain ⟨v6, σ6, H6, S6, r6, q6⟩ := hsp
      exact leaves S6 fun s7 J7 => ⟨_, _, _, J7, r6, q6⟩
  · cases f with
    | next =>
      obtain ⟨σ', H', J', q⟩ := hsp
      exact wpAny_execs_nil ⟨σ', H', J'.ofTry ok, q⟩
    | brk =>
      obtain ⟨σ', H', J', q⟩ := hsp
      exact ⟨σ', H', J'.ofTry ok, q⟩
    | cont =>
      obtain ⟨σ', H', J', q⟩ := hsp
      exact ⟨σ', H', J'.ofTry ok, q⟩
    | ret u =>
      obtain ⟨v, σ', H', J', r, q⟩ := hsp
      exact ⟨v, σ', H', J'.ofTry ok, r, q⟩
end
end L2
namespace L2
open PySem PySem.Spec PyProof.Rows PySem.GX HotX L2H LamX
/-- what is invariant does not speak of the wish about exceptions -/
theorem Inv.xe_ {X : Cx} {pins : List (Addr × Obj)} {σ : L2.St} {H : Hp} {s : Shared} (I : Inv X pins σ H s) (e : Value → Shared → Prop) : Inv { X with xe := e } pins σ H s :=
  have o := I.ok
  ⟨⟨o.mod, o.kind, o.glob, o.blt, o.above, o.inj, o.has, o.cab, o.hd, o.frames, o.stk, o.exf, o.bs, o.bsz, o.noex, o.exfs, o.funs, o.frf⟩, I.os, I.bare, I.base, I.loc, I.cell, I.free, I.freeC, I.pin, I.hok, I.len⟩
/-- the context of a lambda's body; what leaves it has no context of its own -/
def lamN (X : Cx) (A : Around) (outer : List Env) (s : Shared) (H : Hp) (E : XK) (scope : Scope) (f c' : Addr) : Cx :=
  { lamCx X A outer s H E scope f c' with xe := fun e s' => wpAny (model X.prog X.w) (A.deeper (lamEnv X scope s.heap.objs.size f c')) (leaving (lamEnv X scope s.heap.objs.size f c') e) (fun _ s'' => L2N.CX X.prog X.w outer H s E e s'') (fun e' s'' => L2N.CX X.prog X.w outer H s E e' s'') s' }
section
variable {X : Cx} {pl : List (Addr × Obj)} {σ : L2.St} {H : Hp} {s : Shared}
/-- a(), in the def that got the lambda -/
theorem pe_actN {CXg : CXT} {Eg : XK} {Ng : List Str} {qg : Str} {sg : Scope} {g f c' : Addr} {cdg pm ctv : Value} {params : Arguments} {body : Expr} {scope : Scope} {k i : Nat} {a : Str} {pn : List (Addr × Obj)} {xe : Value → Shared → Prop} {W : L2.WX} {E : XK} {tb : TE} {p1 p2 : Pos}
    (I : Inv X pl σ H s) (L : LamS X.env.scope scope) (hf : s.heap.get? f = some (PySem.W.kla_obj "<lambda>" (X.env.qual ++ "<lambda>") params body scope (cloFrom X.env.cells scope.names []) pm c' ctv)) (hfn : H f = none) (hfr : f ∉ frs X.stack)
    (hbind : bindArgs (PySem.W.kla_fn "<lambda>" (X.env.qual ++ "<lambda>") params body scope (cloFrom X.env.cells scope.names []) pm (.ref c') ctv) ⟨[], []⟩ = pure [])
    (tk : L2N.Takes ((cxOf CXg X.prog X.w X.K X.mg X.base Ng qg sg g cdg X.A X.stack s H Eg).tr pn xe) W) (hW : ∀ cls d σ' H', E cls d H' → W cls d σ' H') (hr : Room (k + 1) (X.A.deeper (envOfC qg sg s.heap.objs.size g cdg)))
    (hbody : ∀ (A : Around) (outer : List Env) (s : Shared) (H : Hp), Room k (A.deeper (lamEnv X scope s.heap.objs.size f c')) → PE (lamN X A outer s H E scope f c') body tb)
    (hN : Ng[i]? = some a) (hv : Vis sg a) (hd : (a == ("__debug__" : Str)) = false := by decide) (hcd : (a == ("__classdict__" : Str)) = false := by decide) :
    PE ((cxOf CXg X.prog X.w X.K X.mg X.base Ng qg sg g cdg X.A X.stack s H Eg).tr pn xe) (.Call (.Name a p1) [] [] p2)
      (fun σZ HZ Q => σZ[i]? = some (some (.ref f)) ∧ HZ c' = some (CodeO c' (X.env.qual ++ "<lambda>")) ∧ tb σ HZ Q) := by
  refine ⟨fun plZ sZ σZ HZ Q IZ ⟨hs, hc, want⟩ => wpAny_Call_Name_kw (thn ((pe_var (pos := p1) (i := i) hN hv hd hcd).run plZ sZ σZ HZ (fun v H1 => v = .ref f ∧ H1 = HZ) IZ ⟨.ref f, hs, rfl, rfl⟩) fun u s1 ⟨v, H1, I1, r1, ev, eH⟩ => ?_)⟩
  subst ev
  rw [eH] at I1
  obtain rfl : u = Value.ref f := r1
  have of1 : s1.heap.get? f = some (PySem.W.kla_obj "<lambda>" (X.env.qual ++ "<lambda>") params body scope (cloFrom X.env.cells scope.names []) pm c' ctv) := I1.base.keep f _ hf hfn hfr (fun z => nomatch (show f ∈ ([] : List Addr) from z))
  obtain ⟨⟨oc, vs, t, hoc, hdc, hvc⟩, _, _⟩ := I1.hok c' _ hc
  have rc : codeAny (model X.prog X.w) (X.A.deeper (envOfC qg sg s.heap.objs.size g cdg)) (.call (.ref f) ⟨[], []⟩) (CR (L2N.CX X.prog X.w) (envOfC qg sg s.heap.objs.size g cdg :: X.stack) X.prog X.w HZ s1 Q E) s1 := by
    refine PySem.W.kla_callFunE hr.depth of1 rfl L.co L.gen rfl ⟨c', oc, vs, t, rfl, hoc, hdc, hvc⟩ ?_
    rw [hbind]
    refine wpAny_pure (wpAny_newFunctionEnv (fun y hy => (L.own y hy).2) (fun y hy => absurd hy (by simp)) (fun h₁ hns hsb => ⟨I1.nolimit.fresh _ hsb, ?_⟩) L.kind)
    show codeAny _ _ (.expr body (lamEnv X scope s1.heap.objs.size f c')) _ _
    have J := (lam_start2 (E := E) (f := f) (c' := c') (tk := s1.toks + ([] : List (Str × Value)).length) I L I1.env0 hr.hd (show Un (frs X.stack) [] H HZ s.heap s1.heap from I1.base) hns fun b o e => hsb.extBut b o (Nat.ne_of_lt (Heap.lt_size e)) (Heap.get?_push_of_some _ e)).xe_ (fun e s' => wpAny (model X.prog X.w) ((X.A.deeper (envOfC qg sg s.heap.objs.size g cdg)).deeper (lamEnv X scope s1.heap.objs.size f c')) (leaving (lamEnv X scope s1.heap.objs.size f c') e) (fun _ s'' => L2N.CX X.prog X.w (envOfC qg sg s.heap.objs.size g cdg :: X.stack) HZ s1 E e s'') (fun e' s'' => L2N.CX X.prog X.w (envOfC qg sg s.heap.objs.size g cdg :: X.stack) HZ s1 E e' s'') s')
    refine PySem.W.kla_codeExpr (wpAny_mono ((hbody _ _ s1 HZ (hr.deeper _)).run [] _ _ HZ Q J want) (fun v s' ⟨w', H', J', rv, q⟩ => ⟨w', H', J'.os, J'.bare, J'.base, J'.hok, rv, q⟩) fun e s' hq => hq)
  refine PySem.W.callWith_F0 ⟨_, _, _, _, of1⟩ (wpAny_call (codeAny_mono rc fun r s' hq => ?_))
  cases r with
  | error e => exact L2N.passes_call tk hW plZ σZ HZ s1 e s' I1 hq
  | ok fl =>
    cases fl with
    | ret u => exact I1.after hq
    | next => exact False.elim hq
    | brk => exact False.elim hq
    | cont => exact False.elim hq
end
/-- the def that calls what it got (TT: what it makes of the lambda's reading) -/
def GivesN (X : Cx) (k : Nat) (Ng : List Str) (x : Str) (sg : Scope) (g : Addr) (cdg : Value) (bg : List Stmt) (a : Str) (q : Str) (TT : (XK → Hp → VK → Prop) → Hp → VK → Prop) : Prop :=
  ∀ (f c' : Addr) (s : Shared) (H : Hp) (Q : VK) (tl : XK → Hp → VK → Prop), Room k (X.A.deeper (envOfC x sg s.heap.objs.size g cdg)) →
    (∀ (W : L2.WX) (pn : List (Addr × Obj)) (xe : Value → Shared → Prop) (E : XK) (p1 p2 : Pos), L2N.Takes ((cxOf CX0 X.prog X.w X.K X.mg X.base Ng x sg g cdg X.A X.stack s H E0).tr pn xe) W → (∀ cls d σ' H', E cls d H' → W cls d σ' H') →
      PE ((cxOf CX0 X.prog X.w X.K X.mg X.base Ng x sg g cdg X.A X.stack s H E0).tr pn xe) (.Call (.Name a p1) [] [] p2) (fun σZ HZ Q => σZ[0]? = some (some (.ref f)) ∧ HZ c' = some (CodeO c' q) ∧ tl E HZ Q)) →
    H c' = some (CodeO c' q) → TT tl H Q →
    ∃ t, PSs (cxOf CX0 X.prog X.w X.K X.mg X.base Ng x sg g cdg X.A X.stack s H E0).nox bg t ∧ t { nx := fun _ H' => Q .non H', rt := Q } (L2.start Ng [.ref f]) H
section
variable {X : Cx}
/-- x(lambda: body) -/
theorem pe_lamN {T : List (Addr × Str)} {TT : (XK → Hp → VK → Prop) → Hp → VK → Prop} {x a : Str} {g c P : Addr} {k : Nat} {pg : Arguments} {bg : List Stmt} {sg : Scope} {dV kV doc pm cdv ct oc : Value} {an od : Option Addr} {osl : Array (Option Value)} {Ng : List Str}
    {params : Arguments} {body : Expr} {scope : Scope} {t : XK → TE} {p lpos pos : Pos} (hg : Gl X x) (hm : X.mg x = some (.ref g)) (hk : PySem.W.keepIn X.K (.ref g) = true)
    (lk : X.K.lookup g = some ⟨oc, od, .func (PySem.W.fnOf x x pg bg sg dV kV doc pm an cdv ct), osl⟩) (hcg : PySem.W.codeIn X.K cdv x = true) (hb : L2.Binds X.K (PySem.W.fnOf x x pg bg sg dV kV doc pm an cdv ct) [a] []) (Sg : FnScope Ng [a] sg) (hNg : Ng[0]? = some a) (hva : Vis sg a)
    (hG : GivesN X (k + 1) Ng x sg g cdv bg a (X.env.qual ++ "<lambda>") TT)
    (TB : TabB X.base X.mg c P) (hcode : X.env.code = .ref c) (hmT : (P, X.env.qual ++ "<lambda>") ∈ T) (hu : ∀ p ∈ T, p.1 = P → p.2 = X.env.qual ++ "<lambda>") (hr : Room (k + 2) X.A) (L : LamS X.env.scope scope) (hdef : defaultsOf params X.env = ([], []))
    (hbind : ∀ (q : Str) (cl : List (Str × Addr)) (pm cv ctv : Value), bindArgs (PySem.W.kla_fn "<lambda>" q params body scope cl pm cv ctv) ⟨[], []⟩ = pure [])
    (hbody : ∀ (A : Around) (outer : List Env) (s : Shared) (H : Hp) (E : XK) (f c' : Addr), Room k (A.deeper (lamEnv X scope s.heap.objs.size f c')) → PE (lamN X A outer s H E scope f c') body (t E))
    (hdb : (x == ("__debug__" : Str)) = false := by decide) (hd : (a == ("__debug__" : Str)) = false := by decide) (hcd : (a == ("__classdict__" : Str)) = false := by decide) :
    PE X (.Call (.Name x p) [.Lambda params body scope lpos] [] pos) (tLam T TT t) := by
  refine ⟨fun pl s σ H Q I ⟨hT, want⟩ => wpAny_Call_Name_kw (ld_glob I hg hm (PySem.W.callWith_K (h₀ := X.base) I.ok.mod.kin hk ?_ (by rfl) (by rfl)) hdb)⟩
  show wpAny _ _ (spliced ((false, eval (.Lambda params body scope lpos) X.env) :: backTo pos (starEach [] X.env))) _ _ s
  refine Calls.spliced_cons (lam_make2 I TB hcode hmT hu hT hdef (L.has I.ok) fun f c' pm' ctv H1 s' I1 eN T1 hf hfn hfr hco => Calls.spliced_nil ⟨I1.kIn, ?_⟩)
  have rc : codeAny (model X.prog X.w) X.A (.call (.ref g) ⟨[.ref f], []⟩) (CR CX0 X.stack X.prog X.w H1 s' Q E0) s' := by
    refine run_ofS (N := Ng) (ps := [a]) (us := [.ref f]) (vs := [.ref f]) lk hcg Sg hr I1.env0 (hb s' [.ref f] I1.kIn rfl) (.cons rfl .nil) rfl fun hr' => ?_
    obtain ⟨t', ht', hq'⟩ := hG f c' s' H1 Q (fun E H' Q' => t E σ H' Q') hr' (fun W pn xe E p1 p2 tk hW => pe_actN (i := 0) I1 L hf hfn hfr (hbind _ _ _ _ _) tk hW hr' (fun A outer s H hr2 => hbody A outer s H E f c' hr2) hNg hva hd hcd) hco (want H1 eN T1)
    exact ⟨t', ht'.nox, hq'⟩
  refine wpAny_call (codeAny_mono rc fun r s2 hq => ?_)
  cases r with
  | error e => exact (show False from hq).elim
  | ok fl =>
    cases fl with
    | ret u => exact I1.after hq
    | next => exact False.elim hq
    | brk => exact False.elim hq
    | cont => exact False.elim hq
end
end L2
namespace L2
open PySem PySem.Spec PyProof.Rows PySem.GX LamX
/-- the law's call, its promise where no repr is under way; the tables ts of code objects may grow -/
theorem law_callGT {P : Program} {w : World} {K : PySem.W.Frag} {mg mb : Str → Option Value} {CX : CXT} {k : Nat} {fa a : Addr} {fd : FuncData} {x : Str} {sp : Sp} {s1 : Shared} {vs : List Value} {ns : List Int} {ts : List (Addr × Addr)}
    (KX : K.In s1.heap) (hns : s1.heap.Ns mainGlobals mg) (hb : s1.heap.Ns builtinsNs mb) (hbb : ∀ x : Str, x ≠ "__name__" → mb x = bootBuiltins x) (hlim : s1.heap.NoLimit) (hg : s1.gens = #[])
    (t1 : ∀ q ∈ ts, s1.heap.get? q.2 = some (PySem.W.tabObj #[]) ∧ K.lookup q.2 = none ∧ PySem.W.CodeHd s1.heap q.1 q.2)
    (hbm : ∃ (m : Addr) (om : Obj), mg "__builtins__" = some (.ref m) ∧ m ≠ builtinsNs ∧ s1.heap.get? m = some om ∧ om.cls = .type "module" ∧ om.dict = some builtinsNs ∧ om.data = .plain)
    (ha : s1.heap.get? a = some { cls := .type "list", data := .seq vs.toArray }) (hi : IntsAre vs ns) (hl : ns.length ≤ sizeLine) (hr : Room k callerA)
    (F : ∀ base : Heap, K.In base → base.Ns mainGlobals mg → (∀ q ∈ ts, TabB base mg q.1 q.2) → FnG P w K mg base CX k fa fd [x] sp) (hbind : ∀ (s : Shared) (u : Value), BindsTo s fd ⟨[u], []⟩ [(x, u)])
    (hsp : ∀ H : Hp, (∀ q ∈ ts, H q.2 = some (.tbl #[])) → SqL K H a (ns.map V.int) → sp [.ref a] H (fun v _ => v = .bl true) fun _ _ _ => False)
    (hCX : ∀ H e s', CX [] H s1 (fun _ _ _ => False) e s' → False) :
    codeAny (model P w) callerA (.call (.ref fa) ⟨[.ref a], []⟩) (fun r s' => r = .ok (.ret (.bool true)) ∧ OldK s1.heap s'.heap ∧ s'.os = s1.os ∧ AllBare s'.gens) s1 := by
  have rv := vals_ints hi
  have lenV := hi.length
  let T : List Addr := ts.map (·.2)
  have tT : ∀ b ∈ T, ∃ q ∈ ts, q.2 = b := fun b h => List.mem_map.mp h
  have oT : ∀ b ∈ T, s1.heap.get? b = some (PySem.W.tabObj #[]) := fun b h => by
    obtain ⟨q, hq, rfl⟩ := tT b h
    exact (t1 q hq).1
  have naT : a ∉ T := fun h => by
    have e := oT a h
    rw [ha] at e
    have d : Data.seq vs.toArray _ = Data.fields #[] := congrArg Obj.data (Option.some.inj e)
    cases d
  let sc : HO := .frz { cls := .type "list", data := .seq vs.toArray } (.lst (ns.map V.int))
  let H : Hp := fun b => if b ∈ T then some (.tbl #[]) else if b = a ∧ (K.lookup a).isNone = true then some sc else none
  have HT : ∀ b ∈ T, H b = some (.tbl #[]) := fun b h => if_pos h
  have isH : ∀ b, H b ≠ none → b ∈ T ∨ b = a ∧ K.lookup a = none := fun b h => by
    by_cases h1 : b ∈ T
    · exact .inl h1
    · by_cases h2 : b = a ∧ (K.lookup a).isNone = true
      · exact .inr ⟨h2.1, Option.isNone_iff_eq_none.mp h2.2⟩
      · exact absurd ((if_neg h1).trans (if_neg h2)) h
  have sH : ∀ b u, H b = some u → b ∉ T → u = sc := fun b u e h1 => by
    have e2 : (if b = a ∧ (K.lookup a).isNone = true then some sc else none) = some u := (if_neg h1).symm.trans e
    by_cases h2 : b = a ∧ (K.lookup a).isNone = true
    · exact (Option.some.inj ((if_pos h2).symm.trans e2)).symm
    · cases (if_neg h2).symm.trans e2
  have seqA : SqL K H a (ns.map V.int) := by
    cases hk : K.lookup a with
    | some o =>
      have e := KX a o hk
      rw [ha] at e
      cases e
      exact .inr ⟨_, vs.toArray, _, hk, rfl, rfl, rfl, by rw [List.size_toArray, lenV]; exact hl, by simpa using rv⟩
    | none =>
      refine .inl (.inr ⟨{ cls := .type "list", data := .seq vs.toArray }, (if_neg naT).trans (if_pos ⟨rfl, ?_⟩)⟩)
      rw [hk]
      rfl
  have hok : HOk P w H s1.heap := fun b u e => by
    by_cases h1 : b ∈ T
    · have e2 := (HT b h1).symm.trans e
      cases e2
      exact oT b h1
    · have e3 := sH b u e h1
      have e4 : b = a := ((isH b (by rw [e]; simp)).resolve_left h1).1
      subst e3 e4
      exact ⟨ha, by rw [List.length_map]; exact hl, vs, _, rv, ha⟩
  -- what is of another kind is not tracked
  have off : ∀ {b : Addr} {o : Obj}, s1.heap.get? b = some o → (∀ z n, o.data ≠ .seq z n) → o.data ≠ .fields #[] → H b = none := fun {b o} e d1 d2 => by
    cases q : H b with
    | none => rfl
    | some u =>
      rcases isH b (by rw [q]; simp) with m | ⟨m, _⟩
      · rw [oT b m] at e
        cases e
        exact absurd rfl d2
      · rw [m, ha] at e
        cases e
        exact absurd rfl (d1 _ _)
  have offD : ∀ {b : Addr} {o : Obj} {es : Array DictEntry} {ep : Nat}, s1.heap.get? b = some o → o.data = .dict es ep → H b = none := fun {b o es ep} e d =>
    off e (fun z n q => by rw [d] at q; cases q) (fun q => by rw [d] at q; cases q)
  have nsB : ∀ {b : Addr} {m : Str → Option Value}, s1.heap.Ns b m → (hidT s1.heap H).Ns b m := fun {b m} ⟨o, es, ep, e, d, r⟩ => ⟨o, es, ep, hidT_get e (offD e d), d, r⟩
  have inB : K.In (hidT s1.heap H) := fun b o e => hidT_get (KX b o e) (by
    cases q : H b with
    | none => rfl
    | some u =>
      rcases isH b (by rw [q]; simp) with m | ⟨m, m2⟩
      · obtain ⟨r, hq, rfl⟩ := tT b m
        rw [(t1 r hq).2.1] at e
        cases e
      · rw [m, m2] at e
        cases e)
  have modB : Mod K mg (hidT s1.heap H) := ⟨inB, nsB hns, ⟨mb, nsB hb, hbb⟩, let ⟨mc, l1, l2⟩ := hlim; ⟨mc, nsB l1, l2⟩⟩
  have tabB : ∀ q ∈ ts, TabB (hidT s1.heap H) mg q.1 q.2 := fun q hq => by
    obtain ⟨oq, _, ⟨oc, us, fl, tf, fg, tg, nF, tx, tt, c1, c2, c3, c4, c5⟩⟩ := t1 q hq
    refine ⟨⟨oc, us, fl, tf, fg, tg, nF, tx, tt, hidT_get c1 (off c1 (fun z n d => by rw [c3] at d; cases d) fun d => ?_), c2, c3, c4, c5⟩, ?_, fun z => ?_⟩
    · rw [c3] at d
      cases d
      simp at c4
    · obtain ⟨m, om, b1, b2, b3, b4, b5, b6⟩ := hbm
      refine ⟨m, om, b1, b2, fun z => ?_, fun z => ?_, hidT_get b3 (off b3 (fun z n d => by rw [b6] at d; cases d) fun d => by rw [b6] at d; cases d), b4, b5, b6⟩
      · obtain ⟨o, es, ep, e, d, _⟩ := hns
        rw [z, e] at b3
        cases b3
        rw [d] at b6
        cases b6
      · rw [z, oq] at b3
        cases b3
        cases b6
    · obtain ⟨o, es, ep, e, d, _⟩ := hns
      rw [z, oq] at e
      cases e
      cases d
  have e0 : Env0 P w K mg (hidT s1.heap H) callerA [] s1 H :=
    ⟨rfl, modB, fun b o e => of_hidT e, Nat.le_of_eq (hidT_size _ _), trivial, fun b m => absurd (show b ∈ ([] : List Addr) from m) (by simp), hok, .of_eq hg⟩
  refine codeAny_mono ((F _ inB (nsB hns) tabB).run callerA [] s1 H ⟨[.ref a], []⟩ [.ref a] [.ref a] _ _ rfl hr e0 (hbind s1 (.ref a)) (.cons rfl .nil) (hsp H (fun q hq => HT _ (List.mem_map.mpr ⟨q, hq, rfl⟩)) seqA)) fun r s' h => ?_
  cases r with
  | error e => exact (hCX H e s' h).elim
  | ok fl =>
    cases fl with
    | next => exact False.elim h
    | brk => exact False.elim h
    | cont => exact False.elim h
    | ret u =>
      obtain ⟨v, H', os, bare, un, hok', r', q⟩ := h
      have qv : v = .bl true := q
      subst qv
      obtain rfl : u = Value.bool true := r'
      have stays : ∀ b o, b ∉ T → s1.heap.get? b = some o → s'.heap.get? b = some o := fun b o nb e => by
        cases q : H b with
        | none => exact un.keep b o e q (by intro z; exact absurd (show b ∈ ([] : List Addr) from z) (by simp)) (by simp)
        | some u =>
          have e3 := sH b u q nb
          subst e3
          have z2 := un.frzs b _ _ q
          obtain ⟨k1, _⟩ := hok b _ q
          obtain ⟨k2, _⟩ := hok' b _ z2
          rw [e] at k1
          cases k1
          exact k2
      have grows : ∀ b ∈ T, ∃ more : Array Value, s'.heap.get? b = some (PySem.W.tabObj more) := fun b m => by
        obtain ⟨more, z⟩ := un.tbls b #[] (HT b m)
        exact ⟨_, hok' b _ z⟩
      refine ⟨rfl, ⟨fun b o e => ?_, fun b o e => ?_⟩, os, bare⟩
      · by_cases m : b ∈ T
        · obtain ⟨q, hq, rfl⟩ := tT b m
          obtain ⟨more, hm⟩ := grows _ m
          obtain ⟨oq, _, cq⟩ := t1 q hq
          rw [oq] at e
          cases e
          exact .inr (.inl ⟨(cq.tab oq).isCodeTable, rfl, #[], more, rfl, by rw [Array.empty_append]; exact hm⟩)
        · exact .inl (stays b o m e)
      · by_cases m : b ∈ T
        · obtain ⟨more, hm⟩ := grows _ m
          exact ⟨_, hm⟩
        · exact ⟨o, stays b o m e⟩
/-- the walk of a law whose defs make lambdas -/
theorem walk_GT {l : PySem.W.OpenLaw} {n k : Nat} {q : Program} {loose : List Str} {XP : (Str → Option Value) → Heap → Prop} {YP : World → Heap → Prop} {d : DefRec} {K : Params → PySem.W.Frag} {sp : PySem.W.Frag → List (Addr × Addr) → Sp} {x : Str} {ts : List (Addr × Addr)}
    (hn : l.most = some n) (hn2 : n ≤ sizeLine) (hdf : d.params.defaults = []) (hr : Room k callerA)
    (hY : ∀ (w : World) (h : Heap), YP w h → (K w.params).In h) (hZ : ∀ (w : World) (h : Heap), YP w h → ∀ q ∈ ts, h.get? q.2 = some (PySem.W.tabObj #[]) ∧ (K w.params).lookup q.2 = none ∧ PySem.W.CodeHd h q.1 q.2)
    (F : ∀ (w : World) (mg : Str → Option Value) (fa : Addr) (h : Heap), (K w.params).In h → h.Ns mainGlobals mg → mg d.name = some (.ref fa) →
      ∃ fd : FuncData, (∀ (s : Shared) (u : Value), BindsTo s fd ⟨[u], []⟩ [(x, u)]) ∧
        ∀ base : Heap, (K w.params).In base → base.Ns mainGlobals mg → (∀ q ∈ ts, TabB base mg q.1 q.2) → FnG l.prog w (K w.params) mg base CX0 k fa fd [x] (sp (K w.params) ts))
    (hsp : ∀ (K : PySem.W.Frag) (H : Hp) (a : Addr) (ns : List Int), ns.length ≤ n → (∀ q ∈ ts, H q.2 = some (.tbl #[])) → SqL K H a (ns.map V.int) → sp K ts [.ref a] H (fun v _ => v = .bl true) fun _ _ _ => False) :
    PySem.W.WalkO q loose XP YP l.row.toRowW d [] (fun f vs => PySem.call f vs) := by
  refine Att.attach_call hn hdf fun w s₀ s1 mg mb fa o pm cd doc a vs ns G Y ho hd hcd hmg hobj hints hlen hg => ?_
  have KX := hY w _ Y
  have t1 := hZ w _ Y
  obtain ⟨fd, hb, hF⟩ := F w mg fa _ KX G.T.g hmg
  exact law_callGT KX G.T.g G.T.b G.T.builtins G.T.nolimit hg t1 G.T.bmain hobj hints (Nat.le_trans hlen hn2) hr hF hb (fun H hT hS => hsp (K w.params) H a ns hlen hT hS) fun _ _ _ z => z
end L2
namespace My
open PySem PySem.Spec PyProof.Rows L2 PySem.GX L2H LamX
theorem ix_tupK {X : Cx} {K : PySem.W.Frag} (h : X.K = K) : IxR X (rIxT K) := by subst h; exact ix_tup
theorem op_in_seqK {X : Cx} {K : PySem.W.Frag} (h : X.K = K) : OpR X (compareOp .In) (rIn K false) := by subst h; exact op_in_seq
end My
set_option pp.maxSteps 1500
namespace L2
open PySem PySem.Spec PyProof.Rows PySem.GX NdefX LamX
/-! a function that a def returned: its cells are kept in the heap as things of their own -/
def CellX (c : Addr) (v : V) : HO := .ext fun h => ∃ u, RelV v u ∧ h.IsCell c (some u)
theorem cellX_own {c x : Addr} {v : V} : CellX c v ≠ .own x := fun z => by cases z
theorem cellX_tup {c : Addr} {v : V} {xs : List V} : CellX c v ≠ .tup xs := fun z => by cases z
def hide (H : Hp) (cs : List Addr) : Hp := fun b => if b ∈ cs then none else H b
def unhide (H : Hp) (cs : List Addr) (H' : Hp) : Hp := fun b => if b ∈ cs then H b else H' b
theorem hide_in {H : Hp} {cs : List Addr} {b : Addr} (h : b ∈ cs) : hide H cs b = none := by unfold hide; rw [if_pos h]
theorem hide_out {H : Hp} {cs : List Addr} {b : Addr} (h : b ∉ cs) : hide H cs b = H b := by unfold hide; rw [if_neg h]
theorem unhide_in {H H' : Hp} {cs : List Addr} {b : Addr} (h : b ∈ cs) : unhide H cs H' b = H b := by unfold unhide; rw [if_pos h]
theorem unhide_out {H H' : Hp} {cs : List Addr} {b : Addr} (h : b ∉ cs) : unhide H cs H' b = H' b := by unfold unhide; rw [if_neg h]
/-- all these are cells -/
def CellsX (H : Hp) (cs : List Addr) : Prop := ∀ c ∈ cs, ∃ v, H c = some (CellX c v)
theorem CellsX.out {H : Hp} {cs : List Addr} (a : CellsX H cs) {b : Addr} {o : HO} (e : H b = some o) (n : ∀ v, o ≠ CellX b v) : b ∉ cs := fun m => by
  obtain ⟨v, ev⟩ := a b m
  rw [e] at ev
  exact n v (Option.some.inj ev)
theorem hide_some {H : Hp} {cs : List Addr} {b : Addr} {o : HO} (e : hide H cs b = some o) : b ∉ cs ∧ H b = some o := by
  by_cases h : b ∈ cs
  · rw [hide_in h] at e; cases e
  · rw [hide_out h] at e; exact ⟨h, e⟩
section
variable {P : Program} {w : World} {K : PySem.W.Frag} {mg : Str → Option Value} {base : Heap} {A : Around} {outer : List Env} {s : Shared} {H : Hp} {cs : List Addr}
theorem hide_ok {h : Heap} (x : HOk P w H h) (a : CellsX H cs) : HOk P w (hide H cs) h := fun b o e => by
  obtain ⟨n, e'⟩ := hide_some e
  refine (x b o e').stay (fun _ _ _ q => q) (fun c q => ?_) (fun c xs q => ?_)
  · rw [hide_out (a.out q fun v z => cellX_own z.symm)]; exact q
  · rw [hide_out (a.out q fun v z => cellX_tup z.symm)]; exact q
theorem hide_env (e : Env0 P w K mg base A outer s H) (a : CellsX H cs) : Env0 P w K mg base A outer s (hide H cs) := by
  refine { frames := e.frames, mod := e.mod, bs := fun b o q => ⟨(e.bs b o q).1, ?_⟩, bsz := e.bsz, funs := e.funs, frf := fun b hb => ?_, hok := hide_ok e.hok a, bare := e.bare }
  · have := (e.bs b o q).2
    unfold hide
    split
    · rfl
    · exact this
  · have := e.frf b hb
    unfold hide
    split
    · rfl
    · exact this
theorem cell_keep {h h' : Heap} {c : Addr} {v : V} (x : ObjOk P w H h c (CellX c v)) (k : ∀ o, h.get? c = some o → h'.get? c = some o) : ObjOk P w H h' c (CellX c v) := by
  obtain ⟨p, ⟨o, e⟩, st⟩ := x
  exact ⟨st _ _ p k, ⟨o, k _ e⟩, st⟩
/-- behind the call the cells are there again -/
theorem unhide_end {Q : VK} {u : Value} {s' : Shared} (e : Env0 P w K mg base A outer s H) (a : CellsX H cs) (h : CE outer P w (hide H cs) s (fun v H' => (∀ c ∈ cs, H' c = none) → Q v (unhide H cs H')) u s') : CE outer P w H s Q u s' := by
  obtain ⟨v, H', os, bare, un, ok, r, q⟩ := h
  have nofr : ∀ c ∈ cs, c ∉ frs outer := fun c hc hf => by
    obtain ⟨v, ev⟩ := a c hc
    rw [e.frf c hf] at ev
    cases ev
  have obj : ∀ c ∈ cs, ∃ o v, s.heap.get? c = some o ∧ H c = some (CellX c v) ∧ ObjOk P w H s.heap c (CellX c v) := fun c hc => by
    obtain ⟨v, ev⟩ := a c hc
    have x := e.hok c _ ev
    obtain ⟨p, ⟨o, eo⟩, st⟩ := id x
    exact ⟨o, v, eo, ev, x⟩
  have keepc : ∀ c ∈ cs, ∀ o, s.heap.get? c = some o → s'.heap.get? c = some o := fun c hc o eo => un.keep c o eo (hide_in hc) (nofr c hc) (by simp)
  have none' : ∀ c ∈ cs, H' c = none := fun c hc => by
    obtain ⟨o, v, eo, _, _⟩ := obj c hc
    exact un.free c o eo (hide_in hc) (by simp)
  have outc : ∀ {b : Addr}, H b = none → b ∉ cs := fun {b} hb hc => by
    obtain ⟨v, ev⟩ := a b hc
    rw [hb] at ev
    cases ev
  have hn : ∀ {b : Addr}, H b = none → hide H cs b = none := fun {b} hb => by rw [hide_out (outc hb)]; exact hb
  refine ⟨v, unhide H cs H', os, bare, ?_, fun b o eb => ?_, r, q none'⟩
  · refine { keep := fun b o eo hb hf hx => un.keep b o eo (hn hb) hf hx, slot := fun b o eo hb hf hx => un.slot b o eo (hn hb) hf hx, free := fun b o eo hb hx => ?_, there := fun b o eo hx => un.there b o eo hx, tups := fun b xs eb => ?_, frzs := fun b o u' eb => ?_, tbls := fun b ps eb => ?_ }
    · rw [unhide_out (outc hb)]
      exact un.free b o eo (hn hb) hx
    · have n := a.out eb fun v z => cellX_tup z.symm
      rw [unhide_out n]
      exact un.tups b xs (by rw [hide_out n]; exact eb)
    · have n : b ∉ cs := a.out eb fun v z => by cases z
      rw [unhide_out n]
      exact un.frzs b o u' (by rw [hide_out n]; exact eb)
    · have n : b ∉ cs := a.out eb fun v z => by cases z
      rw [unhide_out n]
      exact un.tbls b ps (by rw [hide_out n]; exact eb)
  · by_cases hb : b ∈ cs
    · rw [unhide_in hb] at eb
      obtain ⟨o', v', eo, ev, x⟩ := obj b hb
      rw [ev] at eb
      cases eb
      have x' := cell_keep (h' := s'.heap) x (keepc b hb)
      obtain ⟨p, q', st⟩ := x'
      exact ⟨p, q', st⟩
    · rw [unhide_out hb] at eb
      refine (ok b o eb).stay (fun _ _ _ q => q) (fun c q => ?_) (fun c xs q => ?_)
      · rw [unhide_out fun hc => by rw [none' c hc] at q; cases q]; exact q
      · rw [unhide_out fun hc => by rw [none' c hc] at q; cases q]; exact q
end
/-- the captured names' values, the cells kept in the heap -/
structure CloAt (H : Hp) (cl : List (Str × Addr)) (fr : List Str) (ws : List V) : Prop where
  len : ws.length = fr.length
  cel : CellsX H (cl.map (·.2))
  inj : ∀ x y c, cl.lookup x = some c → cl.lookup y = some c → x = y
  has : ∀ (i : Nat) (y : Str), fr[i]? = some y → ∃ c, cl.lookup y = some c ∧ ∀ v, ws[i]? = some v → H c = some (CellX c v)
theorem lookup_in : ∀ {cl : List (Str × Addr)} {y : Str} {c : Addr}, cl.lookup y = some c → c ∈ cl.map (·.2)
  | [], _, _, h => by cases h
  | (a, b) :: t, y, c, h => by
    rw [List.lookup_cons] at h
    split at h
    · injection h with h
      subst h
      exact List.mem_cons_self ..
    · exact List.mem_cons_of_mem _ (lookup_in h)
theorem CloAt.cells {P : Program} {w : World} {H : Hp} {h : Heap} {cl : List (Str × Addr)} {fr : List Str} {ws : List V} (C : CloAt H cl fr ws) (ok : HOk P w H h) : CellsAt cl fr (ws.map some) h (hide H (cl.map (·.2))) := by
  refine ⟨by rw [List.length_map]; exact C.len, fun y c e => ⟨hide_in (lookup_in e), ?_⟩, C.inj, fun i y e => ?_⟩
  · obtain ⟨v, ev⟩ := C.cel c (lookup_in e)
    obtain ⟨⟨u, _, hu⟩, _, _⟩ := ok c _ ev
    exact ⟨_, hu⟩
  · obtain ⟨c, hc, hv⟩ := C.has i y e
    refine ⟨c, hc, fun v q => ?_⟩
    rw [List.getElem?_map] at q
    cases hw : ws[i]? with
    | none => rw [hw] at q; cases q
    | some v' =>
      rw [hw] at q
      injection q with q
      injection q with q
      subst q
      obtain ⟨⟨u, hr, hu⟩, _, _⟩ := ok c _ (hv v' hw)
      exact ⟨u, hr, hu⟩
/-- what may be called: the object O at f, the captured names, the promise -/
structure COk (P : Program) (w : World) (K : PySem.W.Frag) (mg : Str → Option Value) (base : Heap) (k : Nat) (f : Addr) (O : HO) (F : NF) (ps fr : List Str) (sp : List (Option V) → Sp) : Prop where
  len : ∀ ws vs H Q E, sp ws vs H Q E → vs.length = ps.length
  isf : ∀ (H : Hp) (h : Heap), HOk P w H h → H f = some O → ∃ (fd : FuncData) (od : Option Addr) (oc : Value) (sl : Array (Option Value)), h.get? f = some (⟨oc, od, .func fd, sl⟩ : Obj) ∧ PySem.W.FnAt f h
  run : ∀ (A : Around) (outer : List Env) (s : Shared) (H : Hp) (us : List Value) (vs : List V) (ws : List (Option V)) (Q : VK) (E : XK), Room k A → Env0 P w K mg base A outer s H → H f = some O → H F.c = some (CodeO F.c F.qual) →
    CellsAt F.cl fr ws s.heap H → Vals vs us → sp ws vs H Q E → codeAny (model P w) A (.call (.ref f) ⟨us, []⟩) (CR (fun _ _ _ _ _ _ => False) outer P w H s Q E) s
/-- the object of a lambda -/
def LamO (f : Addr) (F : NF) (e : Expr) : HO := .ext fun h => ∃ pm ctv : Value, h.get? f = some (PySem.W.kla_obj F.name F.qual F.params e F.scope F.cl pm F.c ctv)
/-- the running lambda -/
theorem cok_lam {P : Program} {w : World} {K : PySem.W.Frag} {mg : Str → Option Value} {base : Heap} {k : Nat} {f : Addr} {F : NF} {e : Expr} {N ps fr : List Str} {sp : List (Option V) → Sp} (S : NScope N ps fr F.scope)
    (hb : ∀ (pm ctv : Value) (us : List Value), us.length = ps.length → bindArgs (PySem.W.kla_fn F.name F.qual F.params e F.scope F.cl pm (.ref F.c) ctv) ⟨us, []⟩ = pure (ps.zip us)) (len : ∀ ws vs H Q E, sp ws vs H Q E → vs.length = ps.length)
    (hbody : ∀ (A : Around) (outer : List Env) (s : Shared) (H : Hp) (vs : List V) (ws : List (Option V)) (Q : VK) (E : XK), Room k (A.deeper (envF F f s.heap.objs.size)) → H f = some (LamO f F e) → H F.c = some (CodeO F.c F.qual) → ws.length = fr.length → sp ws vs H Q E →
      ∃ te, PE (ncx (fun _ _ _ _ _ _ => False) P w K mg base N F f A outer s H E) e te ∧ te (startF N vs ws) H Q) :
    COk P w K mg base (k + 1) f (LamO f F e) F ps fr sp := by
  refine ⟨len, fun H h ok eo => ?_, fun A outer s H us vs ws Q E hr e0 hf hc C r hsp => ?_⟩
  · obtain ⟨⟨pm, ctv, ho⟩, _, _⟩ := ok f _ eo
    exact ⟨_, _, _, _, ho, ⟨_, _, _, _, ho⟩⟩
  · have hl := len _ _ _ _ _ hsp
    have lim : s.heap.NoLimit := e0.mod.nolimit.keeps fun b o e => (e0.bs b o e).1
    obtain ⟨⟨pm, ctv, ho⟩, _, _⟩ := e0.hok f _ hf
    obtain ⟨⟨oc, vs', t, hoc, hdc, hvc⟩, _, _⟩ := e0.hok F.c _ hc
    refine PySem.W.kla_callFunE hr.depth ho rfl S.co S.gen rfl ⟨F.c, oc, vs', t, rfl, hoc, hdc, hvc⟩ ?_
    rw [hb pm ctv us (by rw [← r.length]; exact hl)]
    refine wpAny_pure (wpAny_newFunctionEnv S.nocell (fun ⟨n, _⟩ hy => S.par n (List.of_mem_zip hy).1) (fun h₁ hns hsb => ⟨lim.fresh _ hsb, ?_⟩) S.kind)
    show codeAny _ _ (.expr e (envF F f s.heap.objs.size)) _ _
    have kp : ∀ b o, s.heap.get? b = some o → h₁.get? b = some o := fun b o e => hsb.extBut b o (Nat.ne_of_lt (Heap.lt_size e)) (Heap.get?_push_of_some _ e)
    obtain ⟨te, ht, hq⟩ := hbody A outer s H vs ws Q E (hr.deeper _) hf hc C.len hsp
    have I : Inv (ncx (fun _ _ _ _ _ _ => False) P w K mg base N F f A outer s H E) [] (startF N vs ws) H { s with heap := h₁, toks := s.toks + (ps.zip us).length } := inv_startN S hr.hd e0 hl r C hns kp
    refine PySem.W.kla_codeExpr (wpAny_mono (ht.run [] _ (startF N vs ws) H _ I hq) (fun v s' hs => ?_) fun e s' hs => hs)
    obtain ⟨w', H', J, rv, q⟩ := hs
    exact ⟨w', H', J.os, J.bare, J.base, J.hok, rv, q⟩
/-- a function that was returned: what it is, and what it promises -/
structure Clo (P : Program) (w : World) (K : PySem.W.Frag) (mg : Str → Option Value) (base : Heap) (k : Nat) (H : Hp) (f : Addr) (O : HO) (fs : NF) (ps fr : List Str) (ws : List V) (sp : List (Option V) → Sp) : Prop where
  ok : COk P w K mg base k f O fs ps fr sp
  ntb : ∀ ps, O ≠ .tbl ps
  at_ : H f = some O
  code : H fs.c = some (CodeO fs.c fs.qual)
  clo : CloAt H fs.cl fr ws
theorem Clo.same {P : Program} {w : World} {K : PySem.W.Frag} {mg : Str → Option Value} {base : Heap} {k : Nat} {H H' : Hp} {f : Addr} {O : HO} {fs : NF} {ps fr : List Str} {ws : List V} {sp : List (Option V) → Sp} (c : Clo P w K mg base k H f O fs ps fr ws sp) (s : ∀ b o, H b = some o → H' b = some o) : Clo P w K mg base k H' f O fs ps fr ws sp :=
  ⟨c.ok, c.ntb, s _ _ c.at_, s _ _ c.code, ⟨c.clo.len, fun a ha => let ⟨v, e⟩ := c.clo.cel a ha; ⟨v, s _ _ e⟩, c.clo.inj, fun i y e => let ⟨a, h1, h2⟩ := c.clo.has i y e; ⟨a, h1, fun v q => s _ _ (h2 v q)⟩⟩⟩
theorem Clo.ext {P : Program} {w : World} {K : PySem.W.Frag} {mg : Str → Option Value} {base : Heap} {k : Nat} {H H' : Hp} {f : Addr} {O : HO} {fs : NF} {ps fr : List Str} {ws : List V} {sp : List (Option V) → Sp} (c : Clo P w K mg base k H f O fs ps fr ws sp) (s : ExtN H H') : Clo P w K mg base k H' f O fs ps fr ws sp :=
  ⟨c.ok, c.ntb, s _ _ c.at_ c.ntb, s _ _ c.code codeO_ne, ⟨c.clo.len, fun a ha => let ⟨v, e⟩ := c.clo.cel a ha; ⟨v, s _ _ e fun _ z => by cases z⟩, c.clo.inj, fun i y e => let ⟨a, h1, h2⟩ := c.clo.has i y e; ⟨a, h1, fun v q => s _ _ (h2 v q) fun _ z => by cases z⟩⟩⟩
theorem lamO_ne {f : Addr} {F : NF} {e : Expr} (ps : Array Value) : LamO f F e ≠ .tbl ps := fun z => by
  unfold LamO at z
  cases z
section
variable {X : Cx} {k j i : Nat} {x : Str} {p pos : Pos} {e : Expr} {es : List Expr} {t : TA}
theorem run_clo {pins : List (Addr × Obj)} {σ : L2.St} {H : Hp} {s : Shared} {Q : VK} {f : Addr} {O : HO} {fs : NF} {ps fr : List Str} {ws : List V} {sp : List (Option V) → Sp} {us : List Value} {vs : List V} (C : Clo X.prog X.w X.K X.mg X.base k H f O fs ps fr ws sp) (hr : Room k X.A) (I : Inv X pins σ H s) (r : Vals vs us)
    (q : sp (ws.map some) vs (hide H (fs.cl.map (·.2))) (fun v H' => (∀ c ∈ fs.cl.map (·.2), H' c = none) → Q v (unhide H (fs.cl.map (·.2)) H')) (fun _ _ _ => False)) :
    wpAny (model X.prog X.w) X.A (call (.ref f) us) (EP X pins σ Q) X.xe s := by
  have nf : f ∉ fs.cl.map (·.2) := fun m => by
    obtain ⟨v, ev⟩ := C.clo.cel f m
    obtain ⟨⟨u, _, o, ho, hd⟩, _, _⟩ := I.hok f _ ev
    obtain ⟨_, _, _, _, hf, _⟩ := C.ok.isf H s.heap I.hok C.at_
    rw [ho] at hf
    cases hf
    cases hd
  have nc : fs.c ∉ fs.cl.map (·.2) := fun m => by
    obtain ⟨v, ev⟩ := C.clo.cel fs.c m
    obtain ⟨⟨u, _, o, ho, hd⟩, _, _⟩ := I.hok fs.c _ ev
    obtain ⟨⟨oc, vs', t', hc, hd2, _⟩, _, _⟩ := I.hok fs.c _ C.code
    rw [ho] at hc
    injection hc with hc
    rw [hc, hd2] at hd
    cases hd
  refine wpAny_call (codeAny_mono (C.ok.run X.A X.stack s (hide H (fs.cl.map (·.2))) us vs _ _ _ hr (hide_env I.env0 C.clo.cel) (by rw [hide_out nf]; exact C.at_) (by rw [hide_out nc]; exact C.code) (C.clo.cells I.hok) r q) fun r s' hq => ?_)
  cases r with
  | error e => exact False.elim hq
  | ok fl =>
    cases fl with
    | ret u => exact I.after (unhide_end I.env0 C.clo.cel hq)
    | next => exact False.elim hq
    | brk => exact False.elim hq
    | cont => exact False.elim hq
/-- f(..), f a name that holds a returned function -/
def tCallC (P : Program) (w : World) (K : PySem.W.Frag) (mg : Str → Option Value) (base : Heap) (k i : Nat) (t : TA) : TE := fun σ H Q => ∃ (f : Addr) (O : HO) (fs : NF) (ps fr : List Str) (ws : List V) (sp : List (Option V) → Sp), σ[i]? = some (some (.ref f)) ∧ COk P w K mg base k f O fs ps fr sp ∧ H f = some O ∧
  t σ H fun vs H1 => Clo P w K mg base k H1 f O fs ps fr ws sp ∧ sp (ws.map some) vs (hide H1 (fs.cl.map (·.2))) (fun v H' => (∀ c ∈ fs.cl.map (·.2), H' c = none) → Q v (unhide H1 (fs.cl.map (·.2)) H')) (fun _ _ _ => False)
theorem pe_callC {P : Program} {w : World} {K : PySem.W.Frag} {mg : Str → Option Value} {base : Heap} (e1 : X.prog = P) (e2 : X.w = w) (e3 : X.K = K) (e4 : X.mg = mg) (e5 : X.base = base) (hr : Room k X.A) (hN : X.N[i]? = some x) (hv : Vis X.env.scope x) (ha : PA X (e :: es) t)
    (hd : (x == ("__debug__" : Str)) = false := by decide) (hcd : (x == ("__classdict__" : Str)) = false := by decide)
    (he : starEach (e :: es) X.env = (false, eval e X.env) :: starEach es X.env := by rfl) (hpl : (backTo pos (starEach es X.env)).any (·.1) = false := by rfl) :
    PE X (.Call (.Name x p) (e :: es) [] pos) (tCallC P w K mg base k i t) := by
  subst e1 e2 e3 e4 e5
  refine ⟨fun pins s σ H Q I h => ?_⟩
  obtain ⟨f, O, fs, ps, fr, ws, sp, hs, hO, hf, ht⟩ := h
  refine wpAny_Call_Name_kw (thn ((pe_var (pos := p) hN hv hd hcd).run pins s σ H (fun v H1 => v = .ref f ∧ H1 = H) I ⟨.ref f, hs, rfl, rfl⟩) fun u s1 ⟨v, H1, I1, r1, q1⟩ => ?_)
  obtain ⟨ev, eH⟩ := q1
  subst ev
  rw [eH] at I1
  obtain rfl : u = Value.ref f := r1
  refine PySem.W.callWith_F (first := []) (let ⟨_, _, _, _, _, z⟩ := hO.isf H s1.heap I1.hok hf; z) (thn (ha.run pos pins s1 σ H _ I1 ht) fun us s2 ⟨vs, H2, I2, r, C, q⟩ => ⟨(let ⟨_, _, _, _, _, z⟩ := C.ok.isf H2 s2.heap I2.hok C.at_; z), ?_⟩) he hpl
  show wpAny _ _ (call (.ref f) us) _ _ _
  exact run_clo C hr I2 r q
end
end L2
set_option pp.maxSteps 1500
namespace L2
open PySem PySem.Spec PyProof.Rows PySem.GX NdefX LamX
section
variable {X : Cx} {pins : List (Addr × Obj)} {σ : L2.St} {H : Hp} {s : Shared}
/-- a lambda's object just made is known from now on -/
theorem inv_lamO {F : NF} {e : Expr} {t' : Nat} {pm ctv : Value} (I : Inv X pins σ H s) :
    Inv X pins σ (upd H s.heap.objs.size (LamO s.heap.objs.size F e)) { s with heap := s.heap.push (PySem.W.kla_obj F.name F.qual F.params e F.scope F.cl pm F.c ctv), toks := t' } := by
  refine I.laid (a := s.heap.objs.size) (fun b u e => Heap.get?_push_of_some _ e) (Nat.le_refl _) ?_
  have e' : (s.heap.push (PySem.W.kla_obj F.name F.qual F.params e F.scope F.cl pm F.c ctv)).get? s.heap.objs.size = some (PySem.W.kla_obj F.name F.qual F.params e F.scope F.cl pm F.c ctv) := Heap.get?_push_size _ rfl
  exact ⟨⟨pm, ctv, e'⟩, ⟨_, e'⟩, fun h1 h2 ⟨p, t, z⟩ st => ⟨p, t, st _ z⟩⟩
theorem lamO_make {T : List (Addr × Str)} {c P : Addr} {params : Arguments} {body : Expr} {scope : Scope} {pos : Pos} {E : Value → Shared → Prop} {Q : Value → Shared → Prop} (I : Inv X pins σ H s) (TB : TabB X.base X.mg c P) (hcode : X.env.code = .ref c)
    (hm : (P, X.env.qual ++ "<lambda>") ∈ T) (hu : ∀ p ∈ T, p.1 = P → p.2 = X.env.qual ++ "<lambda>") (hT : Tabs T H) (hdef : defaultsOf params X.env = ([], [])) (hfree : ∀ y ∈ scope.names, y.2 = .free → ∃ c, X.env.cells.lookup y.1 = some c)
    (h : ∀ (f c' : Addr) (H1 : Hp) (s' : Shared), Inv X pins σ H1 s' → ExtN H H1 → Tabs T H1 → H f = none → H1 f = some (LamO f ⟨"<lambda>", X.env.qual ++ "<lambda>", params, [], scope, cloFrom X.env.cells scope.names [], c'⟩ body) → H1 c' = some (CodeO c' (X.env.qual ++ "<lambda>")) → Q (.ref f) s') :
    wpAny (model X.prog X.w) X.A (eval (.Lambda params body scope pos) X.env) Q E s := by
  obtain ⟨ps, hP, ht, ha⟩ := hT _ hm
  refine PySem.W.kla_eval hdef ?_
  have bP : s.heap.BuiltinsAt X.mg P := TB.bm.keeps I.bk
  have hP' : s.heap.get? P = some { cls := .none, data := .fields ps } := I.hok P _ hP
  cases hc : codeAmong pos ps.toList with
  | none =>
    refine PySem.W.kla_makeFunction (mg := X.mg) (c := c) (P := P) (ps := ps) (closure_ok hfree) I.ok.glob (I.mod.glob.keeps I.bk) hcode (TB.code.keeps I.bk) hP' ht hc TB.gP bP fun c' ctv h' tk hx hge hlt hrec htb => ?_
    obtain ⟨c2, oc, vs, t, e2, hoc, hd, hv⟩ := hrec
    cases e2
    have nC : H c' = none := I.hok.fresh hge
    have I1 := inv_table (t' := tk) (more := #[rawInt pos.line, rawInt pos.col, .ref c']) (h' := h') I hP (fun b o hb e => hx b o hb e) htb hge ⟨oc, vs, t, hoc, hd, hv⟩
    have hE : ExtN H (upd (upd H P (.tbl (ps ++ #[rawInt pos.line, rawInt pos.col, .ref c']))) c' (CodeO c' (X.env.qual ++ "<lambda>"))) := fun b o e n => by
      rw [upd_ne (ne_of_none e nC), upd_ne (fun z => n ps (Option.some.inj (e.symm.trans (by rw [z]; exact hP))))]
      exact e
    have eL : (ps ++ #[rawInt pos.line, rawInt pos.col, .ref c']).toList = ps.toList ++ [rawInt pos.line, rawInt pos.col, .ref c'] := by simp
    have T1 : Tabs T (upd (upd H P (.tbl (ps ++ #[rawInt pos.line, rawInt pos.col, .ref c']))) c' (CodeO c' (X.env.qual ++ "<lambda>"))) := fun p hp => by
      by_cases hb : p.1 = P
      · rw [hu p hp hb, hb]
        refine ⟨_, by rw [upd_ne (ne_of_none hP nC), upd_same], by rw [eL]; exact PySem.TriplesOk_snoc _ _ _ _ ht, fun p' cv hcv => ?_⟩
        rw [eL] at hcv
        rcases among_app _ ht hcv with z | z
        · obtain ⟨c0, e1, e2⟩ := ha p' cv z
          exact ⟨c0, e1, hE _ _ e2 codeO_ne⟩
        · exact ⟨c', z, upd_same⟩
      · obtain ⟨ps', a1, a2, a3⟩ := hT p hp
        refine ⟨ps', by rw [upd_ne (ne_of_none a1 nC), upd_ne hb]; exact a1, a2, fun p' cv hcv => ?_⟩
        obtain ⟨c0, e1, e2⟩ := a3 p' cv hcv
        exact ⟨c0, e1, hE _ _ e2 codeO_ne⟩
    have nF := I1.hok.fresh (Nat.le_refl _)
    have I2 := inv_lamO (F := ⟨"<lambda>", X.env.qual ++ "<lambda>", params, [], scope, cloFrom X.env.cells scope.names [], c'⟩) (e := body) (t' := tk) (pm := (X.mg "__name__").getD .none) (ctv := ctv) I1
    refine h h'.objs.size c' _ _ I2 (fun b o e n => ?_) (T1.ext fun b o e => ?_) (I.hok.fresh (Nat.le_trans hge (Nat.le_of_lt hlt))) upd_same ?_
    · have e1 := hE b o e n
      exact (upd_ne (ne_of_none e1 nF)).trans e1
    · exact (upd_ne (ne_of_none e nF)).trans e
    · exact (upd_ne (Nat.ne_of_lt hlt)).trans upd_same
  | some cv =>
    obtain ⟨c', e, hco⟩ := ha pos cv hc
    subst e
    refine PySem.W.kla_makeFunctionHit (mg := X.mg) (c := c) (P := P) (ps := ps) (closure_ok hfree) I.ok.glob (I.mod.glob.keeps I.bk) hcode (TB.code.keeps I.bk) hP' ht hc bP fun ctv h' tk hx hsz => ?_
    have I1 : Inv X pins σ H { s with heap := h', toks := tk } := I.kept hx
    have nF : H h'.objs.size = none := I1.hok.fresh (Nat.le_refl _)
    have I2 := inv_lamO (F := ⟨"<lambda>", X.env.qual ++ "<lambda>", params, [], scope, cloFrom X.env.cells scope.names [], c'⟩) (e := body) (t' := tk) (pm := (X.mg "__name__").getD .none) (ctv := ctv) I1
    refine h h'.objs.size c' _ _ I2 (fun b o e n => ?_) (hT.ext fun b o e => ?_) nF upd_same ?_
    · exact (upd_ne (ne_of_none e nF)).trans e
    · exact (upd_ne (ne_of_none e nF)).trans e
    · exact (upd_ne (ne_of_none hco nF)).trans hco
end
end L2
set_option pp.maxSteps 1500
namespace L2
open PySem PySem.Spec PyProof.Rows PySem.GX NdefX LamX
/-! a frame is left, a function that it made goes out: its cells are known from now on -/
section
variable {X : Cx} {σ : L2.St} {H : Hp} {s : Shared} {cl : List (Str × Addr)} {fr : List Str} {ws : List V} {js : List Nat}
def CelV (cl : List (Str × Addr)) (fr : List Str) (ws : List V) (b : Addr) (v : V) : Prop := ∃ (i : Nat) (y : Str), fr[i]? = some y ∧ cl.lookup y = some b ∧ ws[i]? = some v
open Classical in
noncomputable def celV (cl : List (Str × Addr)) (fr : List Str) (ws : List V) (b : Addr) : V := if h : ∃ v, CelV cl fr ws b v then h.choose else .non
theorem celV_is (nd : fr.Nodup) (inj : ∀ x y c, cl.lookup x = some c → cl.lookup y = some c → x = y) {b : Addr} {v : V} (h : CelV cl fr ws b v) : celV cl fr ws b = v := by
  have ex : ∃ v, CelV cl fr ws b v := ⟨v, h⟩
  unfold celV
  rw [dif_pos ex]
  obtain ⟨i, y, e1, e2, e3⟩ := ex.choose_spec
  obtain ⟨j, z, g1, g2, g3⟩ := h
  have := inj y z b e2 g2
  subst this
  have hi := (List.getElem?_eq_some_iff.mp e1).1
  have : i = j := (List.getElem?_inj hi nd).mp (e1.trans g1.symm)
  subst this
  exact Option.some.inj (e3.symm.trans g3)
open Classical in
noncomputable def leaveH (cl : List (Str × Addr)) (fr : List Str) (ws : List V) (H : Hp) : Hp := fun b => if b ∈ cl.map (·.2) then some (CellX b (celV cl fr ws b)) else H b
theorem clo_leave (J : Inv X [] σ H s) (hex : X.ex = []) (hfn : ∀ x, X.fn x = true) (cp : Caps X cl fr js) (nd : fr.Nodup) (hws : js.map (NdefX.slotAt σ) = ws.map some) (hall : ∀ p ∈ cl, p.1 ∈ fr ∧ X.env.cells.lookup p.1 = some p.2) :
    Un X.fs [] X.H_0 (leaveH cl fr ws H) X.s_0.heap s.heap ∧ HOk X.prog X.w (leaveH cl fr ws H) s.heap ∧ (∀ b o, H b = some o → leaveH cl fr ws H b = some o) ∧ CloAt (leaveH cl fr ws H) cl fr ws ∧ (∀ b ∈ cl.map (·.2), H b = none) := by
  have C := cells_of J cp
  rw [hws] at C
  have inj := C.inj
  have clen : ws.length = fr.length := by have := C.len; rwa [List.length_map] at this
  have none' : ∀ b ∈ cl.map (·.2), H b = none := fun b hb => by
    obtain ⟨p, hp, rfl⟩ := List.mem_map.mp hb
    exact J.freeC p.1 p.2 (hall p hp).2
  have big : ∀ b ∈ cl.map (·.2), X.s_0.heap.get? b = none := fun b hb => by
    obtain ⟨p, hp, rfl⟩ := List.mem_map.mp hb
    have h := J.ok.cab p.1 p.2 (hfn _) (hall p hp).2
    cases e : X.s_0.heap.get? p.2 with
    | none => rfl
    | some o => exact absurd (Heap.lt_size e) (Nat.not_lt.mpr h)
  have inn : ∀ {b : Addr}, b ∈ cl.map (·.2) → leaveH cl fr ws H b = some (CellX b (celV cl fr ws b)) := fun {b} hb => by unfold leaveH; rw [if_pos hb]
  have out : ∀ {b : Addr}, b ∉ cl.map (·.2) → leaveH cl fr ws H b = H b := fun {b} hb => by unfold leaveH; rw [if_neg hb]
  have outs : ∀ {b : Addr} {o : HO}, H b = some o → b ∉ cl.map (·.2) := fun {b o} e hb => by rw [none' b hb] at e; cases e
  have keep : ∀ b o, H b = some o → leaveH cl fr ws H b = some o := fun b o e => by rw [out (outs e)]; exact e
  have look : ∀ p ∈ cl, cl.lookup p.1 = some p.2 := fun p hp => cp.sup p.1 (hall p hp).1 p.2 (hall p hp).2
  have val : ∀ b ∈ cl.map (·.2), ∃ v, CelV cl fr ws b v ∧ ∃ u, RelV v u ∧ s.heap.IsCell b (some u) := fun b hb => by
    obtain ⟨p, hp, rfl⟩ := List.mem_map.mp hb
    obtain ⟨i, hi⟩ := List.mem_iff_getElem?.mp (hall p hp).1
    have hil : i < fr.length := (List.getElem?_eq_some_iff.mp hi).1
    have hwi : ws[i]? = some (ws[i]'(by omega)) := List.getElem?_eq_getElem (by omega)
    obtain ⟨c, hc, hv⟩ := C.has i p.1 hi
    have ec : c = p.2 := Option.some.inj (hc.symm.trans (look p hp))
    subst ec
    obtain ⟨u, r, z⟩ := hv (ws[i]'(by omega)) (by rw [List.getElem?_map, hwi]; rfl)
    exact ⟨_, ⟨i, p.1, hi, look p hp, hwi⟩, u, r, z⟩
  have un := J.base
  rw [hex] at un
  refine ⟨?_, fun b o eb => ?_, keep, ⟨clen, fun c hc => ⟨_, inn hc⟩, inj, fun i y e => ?_⟩, none'⟩
  · refine { keep := un.keep, slot := un.slot, free := fun b o eo hb hx => ?_, there := un.there, tups := fun b xs eb => keep _ _ (un.tups b xs eb), frzs := fun b o u eb => keep _ _ (un.frzs b o u eb), tbls := fun b ps eb => ?_ }
    · have : b ∉ cl.map (·.2) := fun m => by rw [big b m] at eo; cases eo
      rw [out this]
      exact un.free b o eo hb hx
    · obtain ⟨more, e⟩ := un.tbls b ps eb
      exact ⟨more, keep _ _ e⟩
  · by_cases hb : b ∈ cl.map (·.2)
    · rw [inn hb] at eb
      cases eb
      obtain ⟨v, cv, u, r, z⟩ := val b hb
      rw [celV_is nd inj cv]
      obtain ⟨ob, ho, hd⟩ := id z
      exact ⟨⟨u, r, z⟩, ⟨ob, ho⟩, fun h1 h2 ⟨u', r', ob', ho', hd'⟩ st => ⟨u', r', ob', st _ ho', hd'⟩⟩
    · rw [out hb] at eb
      exact (J.hok b o eb).stay (fun _ _ _ q => q) (fun c q => keep _ _ q) fun c xs q => keep _ _ q
  · obtain ⟨c, hc, _⟩ := C.has i y e
    refine ⟨c, hc, fun v ev => ?_⟩
    rw [inn (lookup_in hc), celV_is nd inj ⟨i, y, e, hc, ev⟩]
end
end L2
set_option pp.maxSteps 1500
namespace L2
open PySem PySem.Spec PyProof.Rows PySem.GX NdefX LamX
/-! a def that returns a lambda over its own names -/
abbrev RetP := Value → L2.St → Hp → Prop
structure PSr (X : Cx) (sts : List Stmt) (t : RetP → L2.St → Hp → Prop) : Prop where
  run : ∀ (s : Shared) (σ : L2.St) (H : Hp) (R : RetP), Inv X [] σ H s → t R σ H → wpAny (model X.prog X.w) X.A (execs sts X.env) (fun fl s' => ∃ u σ' H', fl = .ret u ∧ Inv X [] σ' H' s' ∧ R u σ' H') X.xe s
section
variable {X : Cx}
theorem psr_cons {st : Stmt} {rest : List Stmt} {t : TS} {u : RetP → L2.St → Hp → Prop} (h1 : PS X st t) (h2 : PSr X rest u) : PSr X (st :: rest) (fun R σ H => t { nx := fun σ' H' => u R σ' H', rt := fun _ _ => False } σ H) := by
  refine ⟨fun s σ H R I h => ?_⟩
  refine wpAny_execs_cons (thn (h1.run [] s σ H { nx := fun σ' H' => u R σ' H', rt := fun _ _ => False } I h) fun f s1 q => ?_)
  cases f with
  | next =>
    obtain ⟨σ', H', I', q⟩ := q
    exact h2.run s1 σ' H' R I' q
  | ret v => obtain ⟨_, _, _, _, _, z⟩ := q; exact z.elim
  | brk => obtain ⟨_, _, _, z⟩ := q; exact z.elim
  | cont => obtain ⟨_, _, _, z⟩ := q; exact z.elim
/-- return lambda ..: .. -/
def tRetLam (T : List (Addr × Str)) (mk : Addr → NF) (body : Expr) : RetP → L2.St → Hp → Prop := fun R σ H => Tabs T H ∧ ∀ (f c' : Addr) (H1 : Hp), ExtN H H1 → Tabs T H1 → H f = none → H1 f = some (LamO f (mk c') body) → H1 c' = some (CodeO c' (mk c').qual) → R (.ref f) σ H1
theorem psr_lam {T : List (Addr × Str)} {c P : Addr} {params : Arguments} {body : Expr} {scope : Scope} {pos rpos : Pos} (TB : TabB X.base X.mg c P) (hcode : X.env.code = .ref c)
    (hm : (P, X.env.qual ++ "<lambda>") ∈ T) (hu : ∀ p ∈ T, p.1 = P → p.2 = X.env.qual ++ "<lambda>") (hdef : defaultsOf params X.env = ([], []))
    (hfree : ∀ y ∈ scope.names, y.2 = .free → X.env.scope.names.lookup y.1 = some .cell ∨ X.env.scope.names.lookup y.1 = some .free) :
    PSr X [.Return (some (.Lambda params body scope pos)) rpos] (tRetLam T (fun c' => ⟨"<lambda>", X.env.qual ++ "<lambda>", params, [], scope, cloFrom X.env.cells scope.names [], c'⟩) body) := by
  refine ⟨fun s σ H R I h => ?_⟩
  obtain ⟨hT, h⟩ := h
  have hfr : ∀ y ∈ scope.names, y.2 = .free → ∃ c, X.env.cells.lookup y.1 = some c := fun y hy e => (hfree y hy e).elim (fun z => I.ok.has _ (.inl z)) fun z => I.ok.has _ (.inr z)
  refine wpAny_execs_cons (thn (Q := fun fl s' => ∃ u σ' H', fl = .ret u ∧ Inv X [] σ' H' s' ∧ R u σ' H') (wpAny_Return_some (lamO_make I TB hcode hm hu hT hdef hfr fun f c' H1 s' I1 eN T1 f0 f1 c1 => ⟨_, σ, H1, rfl, I1, h f c' H1 eN T1 f0 f1 c1⟩)) fun f s1 q => ?_)
  obtain ⟨u, σ', H', rfl, J, r⟩ := q
  exact ⟨u, σ', H', rfl, J, r⟩
end
/-- none of these was known, tables aside -/
def NewC (H : Hp) (cs : List Addr) : Prop := ∀ c ∈ cs, ∀ o, H c = some o → ∃ ps, o = .tbl ps
theorem NewC.back {H H1 : Hp} {cs : List Addr} (n : NewC H1 cs) (s : ExtN H H1) : NewC H cs := fun c hc o e => Classical.byContradiction fun z => z (n c hc o (s c o e fun ps q => z ⟨ps, q⟩))
theorem NewC.hide {H H1 : Hp} {cs : List Addr} (n : NewC H cs) (s : ExtN H H1) : ExtN H (hide H1 cs) := fun b o e ne => by
  rw [hide_out fun m => let ⟨ps, q⟩ := n b m o e; ne ps q]
  exact s b o e ne
/-- the promise of a def that returns a lambda: the cells stand in the heap behind it -/
theorem fnL_of {P : Program} {w : World} {K : PySem.W.Frag} {mg : Str → Option Value} {base : Heap} {k : Nat} {f : Addr} {name qual : Str} {params : Arguments} {body : List Stmt} {scope lsc : Scope} {dV kV doc pm cdv ct oc : Value} {an od : Option Addr}
    {osl : Array (Option Value)} {N ps fr : List Str} {js : List Nat} {sp : Sp} (lk : K.lookup f = some ⟨oc, od, .func (PySem.W.fnOf name qual params body scope dV kV doc pm an cdv ct), osl⟩) (hcd : PySem.W.codeIn K cdv qual = true) (S : FnScope N ps scope)
    (len : ∀ vs H Q E, sp vs H Q E → vs.length = ps.length)
    (hfree : ∀ y ∈ lsc.names, y.2 = .free → scope.names.lookup y.1 = some .cell ∨ scope.names.lookup y.1 = some .free) (hfr : ∀ y ∈ fr, (y, NameKind.free) ∈ lsc.names) (hin : ∀ y ∈ lsc.names, y.2 = .free → y.1 ∈ fr) (nd : fr.Nodup) (hjs : js.map (fun j => N[j]?) = fr.map some)
    (hbody : ∀ (A : Around) (outer : List Env) (s : Shared) (H : Hp) (vs : List V) (Q : VK) (E : XK), Room k (A.deeper (envOfC qual scope s.heap.objs.size f cdv)) → sp vs H Q E →
      ∃ t, PSr (cxOf (fun _ _ _ _ _ _ => False) P w K mg base N qual scope f cdv A outer s H E) body t ∧
        t (fun u σ' H' => ∃ (g : Addr) (ws : List V), u = .ref g ∧ js.map (NdefX.slotAt σ') = ws.map some ∧ ∀ H2, (∀ b o, H' b = some o → H2 b = some o) → CloAt H2 (cloFrom (envOfC qual scope s.heap.objs.size f cdv).cells lsc.names []) fr ws → NewC H' ((cloFrom (envOfC qual scope s.heap.objs.size f cdv).cells lsc.names []).map (·.2)) → Q (.ref g) H2) (start N vs) H) :
    FnOk P w K mg base (fun _ _ _ _ _ _ => False) (k + 1) f (PySem.W.fnOf name qual params body scope dV kV doc pm an cdv ct) ps sp := by
  refine ⟨len, fun A outer s H args us vs Q E hr e0 hb r hsp => ?_⟩
  have hl := len _ _ _ _ hsp
  have KX : K.In s.heap := e0.mod.kin.keeps fun b o e => (e0.bs b o e).1
  have lim : s.heap.NoLimit := e0.mod.nolimit.keeps fun b o e => (e0.bs b o e).1
  have hkind : ∀ y ∈ ps.zip us, scope.names.lookup y.1 = some .local ∨ (scope.names.lookup y.1 = some .cell ∧ ((cellsFrom (s.heap.objs.size + 1) scope.names []).lookup y.1).isSome = true) := fun ⟨n, v⟩ hy => by
    rcases S.par n (List.of_mem_zip hy).1 with q | q
    · exact .inl q
    · exact .inr ⟨q, PySem.W.cellsFrom_some _ _ _ (.inl q)⟩
  refine codeAny_call_function hr.depth (KX _ _ lk) rfl S.co S.gen rfl (PySem.W.codeRec_of KX hcd) (hb _ _ _ _ ?_)
  refine wpAny_newFunctionEnv_cells S.kind hkind fun env he s1 x => ?_
  subst he
  refine ⟨lim.keeps x.toInCall.keep, codeAny_func ?_⟩
  obtain ⟨t, ht, hq⟩ := hbody A outer s H vs Q E (hr.deeper _) hsp
  have I : Inv (cxOf (fun _ _ _ _ _ _ => False) P w K mg base N qual scope f cdv A outer s H E) [] (start N vs) H s1 := inv_start S hr.hd e0 hl r x
  refine wpAny_mono (ht.run s1 (start N vs) H _ I hq) (fun fl s' hs => ?_) fun e s' hs => hs
  obtain ⟨u, σ', H', rfl, J, g, ws, rfl, hws, hk⟩ := hs
  have hf2 : ∀ y ∈ lsc.names, y.2 = .free → ∃ c, (envOfC qual scope s.heap.objs.size f cdv).cells.lookup y.1 = some c := fun y hy e => (hfree y hy e).elim (fun z => J.ok.has _ (.inl z)) fun z => J.ok.has _ (.inr z)
  have cp : Caps (cxOf (fun _ _ _ _ _ _ => False) P w K mg base N qual scope f cdv A outer s H E) (cloFrom (envOfC qual scope s.heap.objs.size f cdv).cells lsc.names []) fr js := Caps.made (scope := lsc) J.ok hfree hfr hjs
  have hall : ∀ p ∈ cloFrom (envOfC qual scope s.heap.objs.size f cdv).cells lsc.names [], p.1 ∈ fr ∧ (envOfC qual scope s.heap.objs.size f cdv).cells.lookup p.1 = some p.2 := fun p hp => by
    rcases cloFrom_mem hp with hm | ⟨h1, h2⟩
    · cases hm
    · obtain ⟨c1, hc⟩ := hf2 _ h1 rfl
      have hc : (envOfC qual scope s.heap.objs.size f cdv).cells.lookup p.1 = some c1 := hc
      have e2 : p.2 = c1 := by
        rw [h2, hc] <;> rfl
      exact ⟨hin _ h1 rfl, by rw [e2]; exact hc⟩
  obtain ⟨un, hok, keep, clo, nn⟩ := clo_leave J rfl (fun _ => rfl) cp nd hws hall
  exact ⟨.ref g, _, J.os, J.bare, un, hok, rfl, hk _ keep clo fun c hc o e => by rw [nn c hc] at e; cases e⟩
end L2
set_option pp.maxSteps 1500
namespace My
open PySem PySem.Spec PyProof.Rows L2 PySem.GX L2H NdefX LamX
/-! pair_step: a step of two rules at once -/
def lamOf : List Stmt → Arguments × Expr × Scope
  | [.Return (some (.Lambda a e s _)) _] => (a, e, s)
  | _ => (default, .Constant .none 0 ⟨0, 0, 0, 0⟩, default)
abbrev lamStep := lamOf (defBody sPairStep)
abbrev qStep : Str := ("pair_step.<locals>.<lambda>" : Str)
def mkStep (cl : List (Str × Addr)) (c' : Addr) : NF := ⟨"<lambda>", qStep, lamStep.1, [], lamStep.2.2, cl, c'⟩
abbrev nStep : List Str := ["pair", "sign", "one", "other"]
theorem scStep : NScope nStep ["pair", "sign"] ["one", "other"] lamStep.2.2 := nscope_by (by decide +kernel)
/-- one step of both -/
def spStep (C : Addr) : List (Option V) → Sp := fun ws vs H Q _ => ∃ (a b : Addr) (t1 t2 : Str) (p1 p2 : Parts) (q : Addr) (m1 m2 : Str) (x : Nat), ws = [some (.ref a), some (.ref b)] ∧ vs = [.ref q, .str (sg x)] ∧ RuleAt H C a t1 p1 ∧ PartsOk p1 ∧ RuleAt H C b t2 p2 ∧ PartsOk p2 ∧ H q = some (.tup [.str m1, .str m2]) ∧ m1 ∈ p1.ms ∧ m2 ∈ p2.ms ∧ x ∈ p1.sg.cps.toList ∧ x ∈ p2.sg.cps.toList ∧
  ∀ (r : Addr) (H' : Hp), Same H H' → H' r = some (.tup [.str (ledL p1 m1 x), .str (ledL p2 m2 x)]) → Q (.ref r) H'
def spPairStep (K : PySem.W.Frag) (P : Program) (w : World) (mg : Str → Option Value) (base : Heap) (T : List (Addr × Str)) (C : Addr) : Sp := fun vs H Q _ => ∃ a b : Addr, vs = [.ref a, .ref b] ∧ Tabs T H ∧
  ∀ (g : Addr) (O : HO) (F : NF) (H' : Hp), ExtN H H' → Tabs T H' → NewC H (F.cl.map (·.2)) → Clo P w K mg base 1 H' g O F ["pair", "sign"] ["one", "other"] [.ref a, .ref b] (spStep C) → Q (.ref g) H'
section
variable {P : Program} {w : World} {K : PySem.W.Frag} {mg : Str → Option Value} {base : Heap}
theorem run_step {f C : Addr} {F : NF} (hF : ∃ cl c', F = mkStep cl c') (T : RuC K C) : COk P w K mg base 1 f (LamO f F lamStep.2.1) F ["pair", "sign"] ["one", "other"] (spStep C) := by
  obtain ⟨cl, c', rfl⟩ := hF
  refine cok_lam (k := 0) (N := nStep) scStep (fun pm ctv us hl => ?_) (fun ws vs H Q E h => ?_) (fun A outer s H vs ws Q E hr hf hc hl h => ?_)
  · match us, hl with
    | [_, _], _ => rfl
  · obtain ⟨a, b, t1, t2, p1, p2, q, m1, m2, x, _, rfl, _⟩ := h
    rfl
  · obtain ⟨a, b, t1, t2, p1, p2, q, m1, m2, x, rfl, rfl, hA, ok1, hB, ok2, eq, i1, i2, x1, x2, k⟩ := h
    have hu : (A.deeper (envF (mkStep cl c') f s.heap.objs.size)).units + 1 < cLine := hu_of hr
    refine ⟨_, pe_tup (pa_cons (pe_dget hu (pe_fldK (K := K) rfl (pv 2) rfl) (pe_tup (pa_cons (pe_ix (ix_tupK (K := K) rfl) (pv 0) pe_int (fun _ _ => rfl)) (pa_cons (pv 1) pa_nil))) (fun _ _ => rfl)) (pa_cons (pe_dget hu (pe_fldK (K := K) rfl (pv 3) rfl) (pe_tup (pa_cons (pe_ix (ix_tupK (K := K) rfl) (pv 0) pe_int (fun _ _ => rfl)) (pa_cons (pv 1) pa_nil))) (fun _ _ => rfl)) pa_nil)), ?_⟩
    obtain ⟨dx, M, G, D, e1, e2, e3, e4⟩ := id hA
    obtain ⟨dx', M', G', D', g1, g2, g3, g4⟩ := id hB
    have z1 := ok1.goal i1 x1
    have z2 := ok2.goal i2 x2
    refine ⟨_, rfl, a, C, dx, _, .ref D, rfl, e1, T.cl, T.f5, rfl, _, rfl, q, _, _, V.str m1, rfl, rfl, SqT.of eq, atI_nat (j := 0) rfl, _, rfl, by show 2 ≤ sizeLine; decide, fun t ht => ⟨D, V.str (ledL p1 m1 x), rfl, ?_, ?_⟩⟩
    · have := DGet.t (k := kT m1 x) (keep1 e4 ht) (upd_same (o := .tup ((kT m1 x).map kV)))
      rw [z1.2] at this
      exact this
    have s1 := same_new (o := .tup ((kT m1 x).map kV)) ht
    refine ⟨_, rfl, b, C, dx', _, .ref D', rfl, s1 _ _ g1, T.cl, T.f5, rfl, _, rfl, q, _, _, V.str m2, rfl, rfl, SqT.of (s1 _ _ eq), atI_nat (j := 1) rfl, _, rfl, by show 2 ≤ sizeLine; decide, fun t' ht' => ⟨D', V.str (ledL p2 m2 x), rfl, ?_, ?_⟩⟩
    · have := DGet.t (k := kT m2 x) (keep1 (s1 _ _ g4) ht') (upd_same (o := .tup ((kT m2 x).map kV)))
      rw [z2.2] at this
      exact this
    refine ⟨by show 2 ≤ sizeLine; decide, fun r hr' => k r _ ((s1.trans (same_new (o := .tup ((kT m2 x).map kV)) ht')).trans (same_new hr')) upd_same⟩
theorem freeStep : ∀ y ∈ lamStep.2.2.names, y.2 = .free → (defScope sPairStep).names.lookup y.1 = some .cell ∨ (defScope sPairStep).names.lookup y.1 = some .free := by decide +kernel
theorem scPairStep : FnScope ["one", "other"] ["one", "other"] (defScope sPairStep) := ⟨rfl, rfl, rfl, by decide +kernel, rfl, by decide +kernel, by decide +kernel⟩
theorem ok_pairStep {g C cR PT : Addr} {od an : Option Addr} {oc kV dc pm ct : Value} {osl : Array (Option Value)} {T : List (Addr × Str)} (lk : K.lookup g = some ⟨oc, od, .func (PySem.W.fnOf "pair_step" "pair_step" (defArgs sPairStep) (defBody sPairStep) (defScope sPairStep) .none kV dc pm an (.ref cR) ct), osl⟩) (hcd : PySem.W.codeIn K (.ref cR) "pair_step" = true)
    (TB : TabB base mg cR PT) (hm : (PT, qStep) ∈ T) (hu : ∀ p ∈ T, p.1 = PT → p.2 = qStep) (R : RuC K C) :
    FnOk P w K mg base CX0 1 g (PySem.W.fnOf "pair_step" "pair_step" (defArgs sPairStep) (defBody sPairStep) (defScope sPairStep) .none kV dc pm an (.ref cR) ct) ["one", "other"] (spPairStep K P w mg base T C) := by
  refine fnL_of (k := 0) (N := ["one", "other"]) (lsc := lamStep.2.2) (fr := ["one", "other"]) (js := [0, 1]) lk hcd scPairStep (fun vs H Q E h => ?_) freeStep (by decide +kernel) (by decide +kernel) (by decide) rfl (fun A outer s H vs Q E hr h => ?_)
  · obtain ⟨a, b, rfl, _⟩ := h
    rfl
  · obtain ⟨a, b, rfl, hT, k⟩ := h
    refine ⟨_, psr_lam (T := T) (c := cR) (P := PT) TB rfl hm hu rfl freeStep, hT, fun f c' H1 eN T1 f0 f1 c1 => ?_⟩
    refine ⟨f, [.ref a, .ref b], rfl, rfl, fun H2 s2 clo nn => ?_⟩
    exact k f _ _ H2 (fun b o e n => s2 _ _ (eN b o e n)) (T1.ext s2) (nn.back eN) ⟨run_step ⟨_, c', rfl⟩ R, lamO_ne, s2 _ _ f1, s2 _ _ c1, clo⟩
end
end My
namespace My
open PySem PySem.Spec PyProof.Rows L2
abbrev menuX : List (List Str) := [["a", "b", "z"], ["ab", "by", "az"], ["abc", "bxz", "cde"]]
/-- the goals of these pairs are told, and are words of ws -/
def Cv (kvs : List (List Key × V)) (ws : List Str) (done : List (Str × Nat)) : Prop := kvs.length ≤ done.length ∧ ∀ d ∈ done, ∃ y ∈ ws, valV kvs (kT d.1 d.2) = some (.str y)
theorem Cv.put {kvs : List (List Key × V)} {ws : List Str} {done : List (Str × Nat)} (h : Cv kvs ws done) {t y : Str} {c : Nat} (hy : y ∈ ws) : Cv (putK kvs (kT t c) (.str y)) ws (done ++ [(t, c)]) := by
  refine ⟨?_, fun d hd => ?_⟩
  · have := length_putK kvs (kT t c) (V.str y)
    have := h.1
    rw [List.length_append]
    simp
    omega
  · rw [valV_put]
    by_cases e : kT d.1 d.2 = kT t c
    · rw [if_pos e]
      exact ⟨y, hy, rfl⟩
    · rw [if_neg e]
      rcases List.mem_append.mp hd with m | m
      · exact h.2 d m
      · simp at m
        subst m
        exact absurd rfl e
def doneL (ws : List Str) (x : Str) : List (Str × Nat) := ws.flatMap fun t => x.cps.toList.map fun c => (t, c)
theorem done_take {x : Str} {ws : List Str} {i : Nat} {m : Str} (h : ws[i]? = some m) : doneL (ws.take (i + 1)) x = doneL (ws.take i) x ++ x.cps.toList.map fun c => (m, c) := by
  unfold doneL
  rw [List.take_add_one, h, List.flatMap_append]
  simp
theorem done_len (ws : List Str) (x : Str) : (doneL ws x).length = ws.length * x.length := by
  unfold doneL
  induction ws with
  | nil => simp
  | cons m t ih =>
    rw [List.flatMap_cons, List.length_append, ih, List.length_map, Array.length_toList, List.length_cons, Nat.succ_mul]
    show x.length + _ = _
    omega
def SkAt (H : Hp) (q : Addr) (x : Str) (ws fs : List Str) (kvs : List (List Key × V)) : Prop := ∃ lw lf g, H q = some (.lst [.str x, .ref lw, .ref lf, .ref g]) ∧ H lw = some (.lst (ws.map V.str)) ∧ H lf = some (.lst (fs.map V.str)) ∧ H g = some (.dT kvs)
end My
namespace My
open PySem PySem.Spec PyProof.Rows L2
/-- the goal that the dict tells -/
def lineL (kvs : List (List Key × V)) (t : Str) (c : Nat) : Str := t ++ sp ++ sg c ++ sp ++ gf kvs t c
def headL (x : Str) (ws fs : List Str) : List Str := [("signs " : Str) ++ x, Txt.join sp (("moods" : Str) :: ws), Txt.join sp (("good" : Str) :: fs)]
def bodyL (x : Str) (ws : List Str) (kvs : List (List Key × V)) : List Str := ws.flatMap fun t => x.cps.toList.map fun c => lineL kvs t c
def linesL (x : Str) (ws fs : List Str) (kvs : List (List Key × V)) : List Str := headL x ws fs ++ bodyL x ws kvs
def textL (x : Str) (ws fs : List Str) (kvs : List (List Key × V)) : Str := Txt.join nl (linesL x ws fs kvs)
/-- all words are short -/
structure Short (x : Str) (ws fs : List Str) (kvs : List (List Key × V)) : Prop where
  hx : x.length ≤ 3
  nw : ws.length ≤ 20
  nf : fs.length ≤ 20
  lw : ∀ y ∈ ws, y.length ≤ 8
  lf : ∀ y ∈ fs, y.length ≤ 8
  gl : ∀ t ∈ ws, ∀ c ∈ x.cps.toList, ∃ y : Str, y.length ≤ 8 ∧ valV kvs (kT t c) = some (.str y)
def spText : Sp := fun vs H Q _ => ∃ (q : Addr) (x : Str) (ws fs : List Str) (kvs : List (List Key × V)), vs = [.ref q] ∧ SkAt H q x ws fs kvs ∧ Short x ws fs kvs ∧ ∀ H', Same H H' → Q (.str (textL x ws fs kvs)) H'
theorem sum_le {M : Nat} : ∀ {l : List Str}, (∀ y ∈ l, y.length ≤ M) → (l.map (·.length)).sum ≤ l.length * M
  | [], _ => Nat.zero_le _
  | y :: t, h => by
    have h1 := h y (by simp)
    have h2 := sum_le (l := t) fun z hz => h z (by simp [hz])
    rw [List.map_cons, List.sum_cons, List.length_cons, Nat.succ_mul]
    omega
theorem body_take {x : Str} {ws : List Str} {kvs : List (List Key × V)} {i : Nat} {m : Str} (h : ws[i]? = some m) : bodyL x (ws.take (i + 1)) kvs = bodyL x (ws.take i) kvs ++ x.cps.toList.map fun c => lineL kvs m c := by
  unfold bodyL
  rw [List.take_add_one, h, List.flatMap_append]
  simp
theorem body_len (x : Str) (ws : List Str) (kvs : List (List Key × V)) : (bodyL x ws kvs).length = ws.length * x.length := by
  unfold bodyL
  induction ws with
  | nil => simp
  | cons m t ih =>
    rw [List.flatMap_cons, List.length_append, ih, List.length_map, Array.length_toList, List.length_cons, Nat.succ_mul]
    show x.length + _ = _
    omega
theorem join_len (ps : List Str) : (Txt.join sp ps).length ≤ (ps.map (·.length)).sum + ps.length := by
  rw [TL.join_eq]
  cases ps with
  | nil => exact Nat.zero_le _
  | cons a l =>
    rw [len_join_cons, List.length_cons]
    have : (sp : Str).length = 1 := rfl
    rw [this]
    omega
theorem lines_short {x : Str} {ws fs : List Str} {kvs : List (List Key × V)} (h : Short x ws fs kvs) : (linesL x ws fs kvs).length ≤ 63 ∧ ∀ y ∈ linesL x ws fs kvs, y.length ≤ 200 := by
  have z := h.hx
  have z1 := h.nw
  have z2 := h.nf
  refine ⟨?_, fun y hy => ?_⟩
  · unfold linesL
    rw [List.length_append, body_len]
    have : ws.length * x.length ≤ 20 * 3 := Nat.mul_le_mul z1 z
    show 3 + _ ≤ 63
    omega
  · unfold linesL at hy
    rcases List.mem_append.mp hy with m | m
    · unfold headL at m
      simp only [List.mem_cons, List.not_mem_nil, or_false] at m
      rcases m with rfl | rfl | rfl
      · rw [len_app]
        have : ("signs " : Str).length = 6 := by decide +kernel
        omega
      · have a := join_len (("moods" : Str) :: ws)
        have b := sum_le h.lw
        have c : ("moods" : Str).length = 5 := by decide +kernel
        rw [List.map_cons, List.sum_cons, List.length_cons, c] at a
        omega
      · have a := join_len (("good" : Str) :: fs)
        have b := sum_le h.lf
        have c : ("good" : Str).length = 4 := by decide +kernel
        rw [List.map_cons, List.sum_cons, List.length_cons, c] at a
        omega
    · unfold bodyL at m
      obtain ⟨t, ht, m⟩ := List.mem_flatMap.mp m
      obtain ⟨c, hc, rfl⟩ := List.mem_map.mp m
      obtain ⟨g, lg, eg⟩ := h.gl t ht c hc
      unfold lineL
      rw [gf_is eg, len_app, len_app, len_app, len_app]
      have := h.lw t ht
      have e1 : (sp : Str).length = 1 := rfl
      have e2 : (sg c).length = 1 := rfl
      omega
end My
namespace My
open PySem PySem.Spec PyProof.Rows L2
/-- letters alone -/
def Ltr (y : Str) : Prop := ∀ c ∈ y.cps.toList, 97 ≤ c
theorem ltr_only {y : Str} (h : madeL y abc = true) : Ltr y := fun c hc => by
  unfold madeL at h
  rw [List.all_map, List.all_eq_true] at h
  have := h c hc
  have m : c ∈ abc.cps.toList := by simpa using this
  have all : ∀ d ∈ abc.cps.toList, 97 ≤ d := by decide +kernel
  exact all c m
theorem ltr_word {y : Str} (h : isWordL y = true) : Ltr y := ltr_only (Bool.and_eq_true_iff.mp h).2
theorem ltr_signs {x : Str} (h : areSignsL [x] = true) : Ltr x := by
  rw [areS1] at h
  simp only [Bool.and_eq_true] at h
  exact ltr_only h.1.2
theorem ltr_sg {x : Str} (h : Ltr x) {c : Nat} (hc : c ∈ x.cps.toList) : Ltr (sg c) := fun d hd => by
  have : d = c := by simpa using hd
  rw [this]
  exact h c hc
theorem join_from (y : Str) : ∀ (ps : List Str) (c : Nat), c ∈ (Str.join y ps).cps.toList → c ∈ y.cps.toList ∨ ∃ p ∈ ps, c ∈ p.cps.toList
  | [], _, h => by cases h
  | [x], _, h => .inr ⟨x, by simp, h⟩
  | x :: z :: r, c, h => by
    have h' : c ∈ (x ++ y ++ Str.join y (z :: r)).cps.toList := h
    rw [cps_app, cps_app] at h'
    simp only [List.mem_append] at h'
    rcases h' with (h' | h') | h'
    · exact .inr ⟨x, by simp, h'⟩
    · exact .inl h'
    · rcases join_from y (z :: r) c h' with h' | ⟨p, hp, h'⟩
      · exact .inl h'
      · exact .inr ⟨p, by simp [hp], h'⟩
/-- a line of words, split -/
theorem split_line {ps : List Str} (hne : ps ≠ []) (h : ∀ p ∈ ps, Ltr p) : Txt.split (Txt.join sp ps) sp = ps := by
  refine TL.split_join (s := 32) (S := []) rfl (by decide +kernel) hne fun p hp => ?_
  intro m
  have := h p hp 32 m
  omega
theorem line_no {ps : List Str} (h : ∀ p ∈ ps, Ltr p) : (10 : Nat) ∉ (Txt.join sp ps).cps.toList := fun m => by
  rw [TL.join_eq] at m
  rcases join_from sp ps 10 m with m | ⟨p, hp, m⟩
  · simp at m
  · have := h p hp 10 m
    omega
theorem join2 (a b : Str) : Txt.join sp [a, b] = a ++ sp ++ b := by rw [TL.join_eq]; rfl
theorem str_app_assoc (a b c : Str) : a ++ b ++ c = a ++ (b ++ c) := str_ext (by rw [cps_app, cps_app, cps_app, cps_app, List.append_assoc])
theorem join3 (a b c : Str) : Txt.join sp [a, b, c] = a ++ sp ++ b ++ sp ++ c := by
  rw [TL.join_eq]
  show a ++ sp ++ (b ++ sp ++ c) = _
  rw [str_app_assoc b sp c, str_app_assoc (a ++ sp ++ b) sp c, str_app_assoc (a ++ sp) b (sp ++ c)]
/-- the rows of goals of a drawn rule -/
def rsL (x : Str) (ws : List Str) (kvs : List (List Key × V)) : List (List Str) := ws.flatMap fun t => x.cps.toList.map fun c => [t, sg c, gf kvs t c]
structure Fine (x : Str) (ws fs : List Str) (kvs : List (List Key × V)) : Prop where
  sgs : areSignsL [x] = true
  mds : areMoodsL ws = true
  sub : fs.Sublist ws
  gl : ∀ t ∈ ws, ∀ c ∈ x.cps.toList, ∃ y ∈ ws, valV kvs (kT t c) = some (.str y)
theorem moods_word {ws : List Str} (h : areMoodsL ws = true) : ∀ y ∈ ws, isWordL y = true := by
  unfold areMoodsL at h
  simp only [Bool.and_eq_true] at h
  exact List.all_eq_true.mp h.1.2
theorem moods_nd {ws : List Str} (h : areMoodsL ws = true) : ws.Nodup := by
  unfold areMoodsL at h
  simp only [Bool.and_eq_true] at h
  exact of_decide_eq_true h.2
theorem sub_filter : ∀ {ws fs : List Str}, ws.Nodup → fs.Sublist ws → ws.filter (fun m => decide (m ∈ fs)) = fs
  | [], fs, _, h => by
    have := List.sublist_nil.mp h
    subst this
    rfl
  | y :: t, fs, nd, h => by
    have nd' := List.nodup_cons.mp nd
    cases h with
    | cons _ h =>
      have hy : y ∉ fs := fun m => nd'.1 (h.subset m)
      rw [List.filter_cons, if_neg (by simpa using hy)]
      exact sub_filter nd'.2 h
    | cons_cons _ h =>
      rename_i gs
      rw [List.filter_cons, if_pos (by simp)]
      congr 1
      have e : t.filter (fun m => decide (m ∈ y :: gs)) = t.filter (fun m => decide (m ∈ gs)) := by
        apply List.filter_congr
        intro z hz
        have : z ≠ y := fun e => nd'.1 (e ▸ hz)
        simp [this]
      rw [e]
      exact sub_filter nd'.2 h
theorem fine_rows {x : Str} {ws fs : List Str} {kvs : List (List Key × V)} (h : Fine x ws fs kvs) : rowsL (textL x ws fs kvs) = [(("signs" : Str)), x] :: (("moods" : Str) :: ws) :: (("good" : Str) :: fs) :: rsL x ws kvs := by
  have lx := ltr_signs h.sgs
  have lw : ∀ y ∈ ws, Ltr y := fun y hy => ltr_word (moods_word h.mds y hy)
  have lf : ∀ y ∈ fs, Ltr y := fun y hy => lw y (h.sub.subset hy)
  have lg : ∀ t ∈ ws, ∀ c ∈ x.cps.toList, Ltr (gf kvs t c) := fun t ht c hc => by
    obtain ⟨y, hy, e⟩ := h.gl t ht c hc
    rw [gf_is e]
    exact lw y hy
  have l1 : Ltr ("signs" : Str) := ltr_only (by decide +kernel)
  have l2 : Ltr ("moods" : Str) := ltr_only (by decide +kernel)
  have l3 : Ltr ("good" : Str) := ltr_only (by decide +kernel)
  let pss : List (List Str) := [("signs" : Str), x] :: (("moods" : Str) :: ws) :: (("good" : Str) :: fs) :: rsL x ws kvs
  have e : linesL x ws fs kvs = pss.map (Txt.join sp) := by
    show headL x ws fs ++ bodyL x ws kvs = Txt.join sp [("signs" : Str), x] :: Txt.join sp (("moods" : Str) :: ws) :: Txt.join sp (("good" : Str) :: fs) :: (rsL x ws kvs).map (Txt.join sp)
    have e1 : Txt.join sp [("signs" : Str), x] = ("signs " : Str) ++ x := by
      rw [join2]
      rfl
    have e2 : (rsL x ws kvs).map (Txt.join sp) = bodyL x ws kvs := by
      unfold rsL bodyL
      rw [List.map_flatMap]
      congr 1
      funext t
      rw [List.map_map]
      exact List.map_congr_left fun c _ => join3 t (sg c) (gf kvs t c)
    rw [e1, e2]
    rfl
  have all : ∀ ps ∈ pss, ps ≠ [] ∧ ∀ p ∈ ps, Ltr p := by
    intro ps hps
    have hps' : ps = [("signs" : Str), x] ∨ ps = ("moods" : Str) :: ws ∨ ps = ("good" : Str) :: fs ∨ ps ∈ rsL x ws kvs := by simpa [pss] using hps
    rcases hps' with rfl | rfl | rfl | hm
    · exact ⟨by simp, fun p hp => by
        rcases List.mem_cons.mp hp with rfl | hp
        · exact l1
        · have : p = x := by simpa using hp
          rw [this]; exact lx⟩
    · exact ⟨by simp, fun p hp => by
        rcases List.mem_cons.mp hp with rfl | hp
        · exact l2
        · exact lw p hp⟩
    · exact ⟨by simp, fun p hp => by
        rcases List.mem_cons.mp hp with rfl | hp
        · exact l3
        · exact lf p hp⟩
    · unfold rsL at hm
      obtain ⟨t, ht, hm⟩ := List.mem_flatMap.mp hm
      obtain ⟨c, hc, rfl⟩ := List.mem_map.mp hm
      refine ⟨by simp, fun p hp => ?_⟩
      have : p = t ∨ p = sg c ∨ p = gf kvs t c := by simpa using hp
      rcases this with rfl | rfl | rfl
      · exact lw _ ht
      · exact ltr_sg lx hc
      · exact lg t ht c hc
  unfold rowsL textL
  rw [TL.split_join (s := 10) (S := []) rfl (by decide +kernel) (by rw [e]; simp [pss]) (fun p hp m => by
    rw [e] at hp
    obtain ⟨ps, hps, rfl⟩ := List.mem_map.mp hp
    exact line_no (all ps hps).2 m), e, List.map_map]
  have : pss.map ((fun y => Txt.split y sp) ∘ Txt.join sp) = pss.map id := by
    apply List.map_congr_left
    intro ps hps
    exact split_line (all ps hps).1 (all ps hps).2
  rw [this, List.map_id]
theorem fine_goals {x : Str} {ws fs : List Str} {kvs : List (List Key × V)} (h : Fine x ws fs kvs) : goalsOkL x ws (rsL x ws kvs) = true := by
  unfold goalsOkL
  rw [Bool.and_eq_true_iff]
  refine ⟨decide_eq_true ?_, List.all_eq_true.mpr fun r hr => ?_⟩
  · unfold rsL pairsL
    rw [List.map_flatMap]
    congr 1
    funext t
    rw [List.map_map]
    rfl
  · unfold rsL at hr
    obtain ⟨t, ht, hr⟩ := List.mem_flatMap.mp hr
    obtain ⟨c, hc, rfl⟩ := List.mem_map.mp hr
    obtain ⟨y, hy, e⟩ := h.gl t ht c hc
    unfold rowOkL
    rw [Bool.and_eq_true_iff]
    refine ⟨rfl, decide_eq_true ?_⟩
    show gf kvs t c ∈ ws
    rw [gf_is e]
    exact hy
/-- the text of a drawn rule is read as what it was drawn -/
theorem fine_parse {x : Str} {ws fs : List Str} {kvs : List (List Key × V)} (h : Fine x ws fs kvs) : parseL (textL x ws fs kvs) = some ⟨x, ws, fs, rsL x ws kvs⟩ := by
  unfold parseL
  rw [fine_rows h, parts_is, if_pos]
  · rfl
  · refine ⟨h.sgs, h.mds, ?_, fine_goals h⟩
    unfold areGoodL
    exact decide_eq_true (sub_filter (moods_nd h.mds) h.sub).symm
theorem dOf_const {α κ : Type} [DecidableEq κ] {key : α → κ} {val : α → V} {k : κ} {v : V} : ∀ (xs : List α), (∀ a ∈ xs, key a = k → val a = v) → (∃ a ∈ xs, key a = k) → valV (dOf key val xs) k = some v := by
  suffices h : ∀ (n : Nat) (xs : List α), xs.length = n → (∀ a ∈ xs, key a = k → val a = v) → (∃ a ∈ xs, key a = k) → valV (dOf key val xs) k = some v from fun xs => h _ xs rfl
  intro n
  induction n with
  | zero =>
    intro xs h _ ⟨a, ha, _⟩
    have : xs = [] := List.eq_nil_of_length_eq_zero h
    subst this
    cases ha
  | succ n ih =>
    intro xs h h1 h2
    have hne : xs ≠ [] := by intro z; subst z; cases h
    obtain ⟨ys, a, rfl⟩ : ∃ ys a, xs = ys ++ [a] := ⟨xs.dropLast, xs.getLast hne, (List.dropLast_concat_getLast hne).symm⟩
    have hl : ys.length = n := by rw [List.length_append] at h; simpa using h
    rw [dOf_snoc, valV_put]
    by_cases e : k = key a
    · rw [if_pos e, h1 a (by simp) e.symm]
    · rw [if_neg e]
      refine ih ys hl (fun b hb => h1 b (by simp [hb])) ?_
      obtain ⟨b, hb, eb⟩ := h2
      rcases List.mem_append.mp hb with m | m
      · exact ⟨b, m, eb⟩
      · have : b = a := by simpa using m
        exact absurd (this ▸ eb.symm) e
/-- the goals that are read are those that were drawn -/
theorem fine_val {x : Str} {ws fs : List Str} {kvs : List (List Key × V)} (h : Fine x ws fs kvs) {t : Str} (ht : t ∈ ws) {c : Nat} (hc : c ∈ x.cps.toList) : valV (goalsD (rsL x ws kvs)) (kT t c) = some (.str (gf kvs t c)) := by
  unfold goalsD
  refine dOf_const _ (fun r hr e => ?_) ⟨[t, sg c, gf kvs t c], ?_, rfl⟩
  · unfold rsL at hr
    obtain ⟨t', ht', hr⟩ := List.mem_flatMap.mp hr
    obtain ⟨c', hc', rfl⟩ := List.mem_map.mp hr
    have e' : [(Sum.inr t' : Key), Sum.inr (sg c')] = [Sum.inr t, Sum.inr (sg c)] := e
    injection e' with e1 e2
    injection e2 with e2 _
    have e1' : t' = t := Sum.inr.inj e1
    have e2' : c' = c := sg_inj (Sum.inr.inj e2)
    subst e1' e2'
    rfl
  · unfold rsL
    exact List.mem_flatMap.mpr ⟨t, ht, List.mem_map.mpr ⟨c, hc, rfl⟩⟩
/-- a sketch is fine -/
theorem Fine.short {x : Str} {ws fs : List Str} {kvs : List (List Key × V)} (h : Fine x ws fs kvs) (hn : ws.length ≤ 20) : Short x ws fs kvs := by
  have w8 : ∀ y ∈ ws, y.length ≤ 8 := fun y hy => by
    have := moods_word h.mds y hy
    unfold isWordL at this
    simp only [Bool.and_eq_true] at this
    exact of_decide_eq_true this.1.2
  refine ⟨?_, hn, Nat.le_trans h.sub.length_le hn, w8, fun y hy => w8 y (h.sub.subset hy), fun t ht c hc => ?_⟩
  · have := h.sgs
    rw [areS1] at this
    simp only [Bool.and_eq_true] at this
    exact of_decide_eq_true this.1.1.2
  · obtain ⟨y, hy, e⟩ := h.gl t ht c hc
    exact ⟨y, w8 y hy, e⟩
theorem text_small {x : Str} {ws fs : List Str} {kvs : List (List Key × V)} (h : Short x ws fs kvs) : (textL x ws fs kvs).length ≤ 1000000 := by
  unfold textL
  rw [TL.join_eq]
  have hs := lines_short h
  have b := sum_le hs.2
  have e : (linesL x ws fs kvs).length * 200 ≤ 63 * 200 := Nat.mul_le_mul_right _ hs.1
  cases hl : linesL x ws fs kvs with
  | nil => exact Nat.zero_le _
  | cons a l =>
    rw [hl] at b e hs
    rw [len_join_cons]
    have : (nl : Str).length = 1 := rfl
    rw [this]
    have := hs.1
    rw [List.length_cons] at this
    omega
theorem low_only {y : Str} (h : madeL y abc = true) : ∀ c ∈ y.cps.toList, c < 256 := fun c hc => by
  unfold madeL at h
  rw [List.all_map, List.all_eq_true] at h
  have := h c hc
  have m : c ∈ abc.cps.toList := by simpa using this
  have all : ∀ d ∈ abc.cps.toList, d < 256 := by decide +kernel
  exact all c m
theorem text_low {x : Str} {ws fs : List Str} {kvs : List (List Key × V)} (h : Fine x ws fs kvs) : ∀ c ∈ (textL x ws fs kvs).cps.toList, c < 256 := by
  have wl : ∀ y ∈ ws, ∀ c ∈ y.cps.toList, c < 256 := fun y hy => low_only (Bool.and_eq_true_iff.mp (moods_word h.mds y hy)).2
  have xl : ∀ c ∈ x.cps.toList, c < 256 := by
    have := h.sgs
    rw [areS1] at this
    simp only [Bool.and_eq_true] at this
    exact low_only this.1.2
  intro c hc
  unfold textL at hc
  rw [TL.join_eq] at hc
  rcases join_from nl _ c hc with m | ⟨p, hp, m⟩
  · have : c = 10 := by simpa using m
    omega
  · unfold linesL at hp
    rcases List.mem_append.mp hp with hp | hp
    · unfold headL at hp
      simp only [List.mem_cons, List.not_mem_nil, or_false] at hp
      rcases hp with rfl | rfl | rfl
      · rw [cps_app, List.mem_append] at m
        rcases m with m | m
        · have : ∀ d ∈ ("signs " : Str).cps.toList, d < 256 := by decide +kernel
          exact this c m
        · exact xl c m
      · rw [TL.join_eq] at m
        rcases join_from sp _ c m with m | ⟨p, hp, m⟩
        · have : c = 32 := by simpa using m
          omega
        · rcases List.mem_cons.mp hp with rfl | hp
          · have : ∀ d ∈ ("moods" : Str).cps.toList, d < 256 := by decide +kernel
            exact this c m
          · exact wl p hp c m
      · rw [TL.join_eq] at m
        rcases join_from sp _ c m with m | ⟨p, hp, m⟩
        · have : c = 32 := by simpa using m
          omega
        · rcases List.mem_cons.mp hp with rfl | hp
          · have : ∀ d ∈ ("good" : Str).cps.toList, d < 256 := by decide +kernel
            exact this c m
          · exact wl p (h.sub.subset hp) c m
    · unfold bodyL at hp
      obtain ⟨t, ht, hp⟩ := List.mem_flatMap.mp hp
      obtain ⟨d, hd, rfl⟩ := List.mem_map.mp hp
      obtain ⟨y, hy, e⟩ := h.gl t ht d hd
      unfold lineL at m
      rw [gf_is e, cps_app, cps_app, cps_app, cps_app] at m
      simp only [List.mem_append] at m
      rcases m with (((m | m) | m) | m) | m
      · exact wl t ht c m
      · have : c = 32 := by simpa using m
        omega
      · have : c = d := by simpa using m
        rw [this]; exact xl d hd
      · have : c = 32 := by simpa using m
        omega
      · exact wl y hy c m
theorem text_ok {x : Str} {ws fs : List Str} {kvs : List (List Key × V)} (h : Fine x ws fs kvs) : PyData.strOk (textL x ws fs kvs) = true := ok_low (text_low h)
end My
namespace My
open PySem PySem.Spec PyProof.Rows L2
theorem ShAll.get {K : PySem.W.Frag} {H : Hp} : ∀ {xs : List V} {ds : List PyData} {i : Nat} {v : V}, ShAll K H xs ds → xs[i]? = some v → ∃ d, d ∈ ds ∧ Sh K H v d
  | _, _, _, _, .nil, e => by simp at e
  | _, _, 0, _, .cons r _, e => by simp at e; subst e; exact ⟨_, List.mem_cons_self .., r⟩
  | _, _, i + 1, v, .cons _ t, e => by
    obtain ⟨d, h1, h2⟩ := ShAll.get (i := i) (v := v) t (by simpa using e)
    exact ⟨d, List.mem_cons_of_mem _ h1, h2⟩
theorem delk {H : Hp} {p t : Addr} {o u : HO} (e : H t = some u) (h : t ≠ p) : del (upd H p o) p t = some u := by
  rw [del_ne h, upd_ne h]
  exact e
theorem same_del_upd {H : Hp} {p : Addr} {o : HO} : Same (del H p) (del (upd H p o) p) := fun b u e => by
  by_cases hb : b = p
  · rw [hb, del_same] at e; cases e
  · rw [del_ne hb] at e ⊢
    rw [upd_ne hb]; exact e
end My
namespace My
open PySem PySem.Spec PyProof.Rows L2 PySem.GX L2H LamX
open Builtin.Str (reprChar)
/-- all but the tables and what is at p stays -/
def Kp (p : Addr) (H H' : Hp) : Prop := ∀ b o, b ≠ p → (∀ ps, o ≠ .tbl ps) → H b = some o → H' b = some o
theorem Kp.refl (p : Addr) (H : Hp) : Kp p H H := fun _ _ _ _ h => h
theorem Kp.trans {p : Addr} {H H1 H2 : Hp} (a : Kp p H H1) (b : Kp p H1 H2) : Kp p H H2 := fun c o n t h => b c o n t (a c o n t h)
theorem Kp.sb {p : Addr} {H H' : Hp} (s : Sb p H H') : Kp p H H' := fun b o n _ h => s b o n h
theorem Kp.of {p : Addr} {H H' : Hp} (s : Same H H') : Kp p H H' := fun b o _ _ h => s b o h
theorem Kp.ext {p : Addr} {H H' : Hp} (s : ExtN H H') : Kp p H H' := fun b o _ t h => s b o h t
theorem Tabs.sb_ {T : List (Addr × Str)} {p : Addr} {H H' : Hp} (t : Tabs T H) (w : Wl H p) (s : Sb p H H') : Tabs T H' := fun q hq => by
  obtain ⟨ps, h1, h2, h3⟩ := t q hq
  refine ⟨ps, s _ _ (w.ne h1 fun a b c z => by cases z) h1, h2, fun pos cv hc => ?_⟩
  obtain ⟨c, e1, e2⟩ := h3 pos cv hc
  exact ⟨c, e1, s _ _ (w.ne e2 fun a b c z => by cases z) e2⟩
theorem Wl.ext_ {H H' : Hp} {p : Addr} (w : Wl H p) (s : ExtN H H') : Wl H' p := by
  obtain ⟨w0, w1, w2, a0, a1, e⟩ := w
  exact ⟨w0, w1, w2, a0, a1, s _ _ e fun _ z => by cases z⟩
theorem call_reprLK {X : Cx} {K : PySem.W.Frag} (h : X.K = K) (hg : X.A.guards = some []) (hu : X.A.units + 64 < cLine) : CallR X (.builtin "repr") (rRepr K) := by subst h; exact call_reprL hg hu
def Low (y : Str) : Prop := ∀ c ∈ y.cps.toList, c < 256
theorem Low.app {a b : Str} (h1 : Low a) (h2 : Low b) : Low (a ++ b) := fun c hc => by
  rw [cps_app] at hc
  rcases List.mem_append.mp hc with m | m
  · exact h1 c m
  · exact h2 c m
theorem reprChar_low : ∀ c, c < 256 → ∀ q ∈ [39, 34], (reprChar q c).all (fun e => decide (e < 256)) = true := by decide +kernel
theorem fold_low (q : Nat) (hq : q ∈ [39, 34]) : ∀ (l : List Nat) (acc : Array Nat), (∀ c ∈ l, c < 256) → (∀ c ∈ acc.toList, c < 256) → ∀ c ∈ (l.foldl (fun out c => out ++ (reprChar q c).toArray) acc).toList, c < 256
  | [], acc, _, h => h
  | d :: r, acc, h1, h2 => by
    refine fold_low q hq r _ (fun c hc => h1 c (by simp [hc])) fun c hc => ?_
    simp only [Array.toList_append, List.mem_append] at hc
    rcases hc with m | m
    · exact h2 c m
    · exact of_decide_eq_true (List.all_eq_true.mp (reprChar_low d (h1 d (by simp)) q hq) c m)
theorem repr_low {x : Str} (h : Low x) : Low (reprText x) := fun c hc => by
  have hq : reprQuote x ∈ [39, 34] := by
    unfold reprQuote
    split <;> simp
  unfold reprText at hc
  simp only [Array.toList_push, List.mem_append, List.mem_singleton] at hc
  have q0 : reprQuote x < 256 := by
    simp only [List.mem_cons, List.not_mem_nil, or_false] at hq
    omega
  rcases hc with m | m
  · rw [← Array.foldl_toList] at m
    exact fold_low _ hq _ _ h (fun d hd => by
      have : d = reprQuote x := by simpa using hd
      rw [this]; exact q0) c m
  · rw [m]; exact q0
theorem repr_short {x : Str} (h : Low x) : (reprText x).length ≤ 10 * x.length + 2 := StrLaws.reprText_len x fun c hc => Nat.lt_trans (h c hc) (by decide)
mutual
theorem Sh.ext {K : PySem.W.Frag} {H H' : Hp} (s : ExtN H H') : ∀ {v : V} {d : PyData}, Sh K H v d → Sh K H' v d
  | _, _, .fl f => .fl f
  | _, _, .lst h t => .lst (by
      rcases h with (h | ⟨o, h⟩) | h
      · exact .inl (.inl (s _ _ h fun _ z => by cases z))
      · exact .inl (.inr ⟨o, s _ _ h fun _ z => by cases z⟩)
      · exact .inr h) (ShAll.ext s t)
  | _, _, .tup h t => .tup (by
      rcases h with (h | ⟨o, h⟩) | h
      · exact .inl (.inl (s _ _ h fun _ z => by cases z))
      · exact .inl (.inr ⟨o, s _ _ h fun _ z => by cases z⟩)
      · exact .inr h) (ShAll.ext s t)
  | _, _, .dic h a b => .dic (s _ _ h fun _ z => by cases z) a b
theorem ShAll.ext {K : PySem.W.Frag} {H H' : Hp} (s : ExtN H H') : ∀ {vs : List V} {ds : List PyData}, ShAll K H vs ds → ShAll K H' vs ds
  | _, _, .nil => .nil
  | _, _, .cons a b => .cons (Sh.ext s a) (ShAll.ext s b)
end
theorem Kp.cut {p : Addr} {H H' : Hp} (s : Kp p H H') : ExtN (del H p) (del H' p) := fun b o e t => by
  by_cases hb : b = p
  · rw [hb, del_same] at e; cases e
  · rw [del_ne hb] at e ⊢
    exact s b o hb t e
theorem ext_of_del {H : Hp} {p : Addr} : ExtN (del H p) H := fun b o e _ => by
  by_cases hb : b = p
  · rw [hb, del_same] at e; cases e
  · rw [del_ne hb] at e; exact e
theorem Tabs.off {T : List (Addr × Str)} {l : Addr} {H : Hp} {xs : List V} {o : HO} (t : Tabs T H) (e : H l = some (.lst xs)) : Tabs T (upd H l o) := fun q hq => by
  obtain ⟨ps, h1, h2, h3⟩ := t q hq
  refine ⟨ps, by rw [upd_ne (ne_of h1 e (by intro z; cases z))]; exact h1, h2, fun pos cv hc => ?_⟩
  obtain ⟨c, e1, e2⟩ := h3 pos cv hc
  exact ⟨c, e1, by rw [upd_ne (ne_of e2 e (by intro z; cases z))]; exact e2⟩
end My
namespace L2
open PySem PySem.Spec PyProof.Rows PySem.GX
/-! a set comprehension whose members are texts -/
section
variable {w : World} {J : It} {G : Hp → Prop} {Y : Nat → Hp → V → Hp → Prop} {g : TG} {tt : TT} {te : TE} {vs : List Nat} {σ : St} {H1 : Hp} {D : Addr} {Qd : Hp → Prop}
/-- {e for x in ..}, xs the texts that e is, one after another -/
theorem scG (xs : List Str) (wk : Walk J xs.length G Y) (hz : xs.length < 4000) (hD : H1 D = none) (hY : ∀ i H x H', Y i H x H' → Same H H') (hG : ∀ H', Same H1 H' → G H')
    (turn : ∀ (i : Nat) (a : Str) (x : V) (H' H'' : Hp) (k : V → Hp → Prop) (k0 : Hp → Prop), xs[i]? = some a → Same H1 H' → Y i H' x H'' → (∀ H4, Same H'' H4 → k (.str a) H4) →
      g x (wipe σ vs) H'' fun σ2 H2 => wipe σ2 vs = wipe σ vs ∧ tt σ2 H2 fun b H3 => if b = true then te σ2 H3 fun y H4 => k y H4 else k0 H3)
    (hd : ∀ H', Same H1 H' → H' D = some (SetTx w D (setFold xs)) → Qd H') :
    ∃ W : Nat → Nat → Hp → Prop, (∃ m, W 0 m (upd H1 D (SetTx w D []))) ∧ ∀ i m H, W i m H →
      (J.stop i H ∧ Qd H) ∨ (J.go i H ∧ ∃ On : Hp → Prop, (∀ H', On H' → ∃ m', m' < m ∧ W (i + 1) m' H') ∧ ∀ x H', J.yld i H x H' → g x (wipe σ vs) H' fun σ2 H2 => wipe σ2 vs = wipe σ vs ∧ tt σ2 H2 fun b H3 =>
        if b = true then te σ2 H3 fun y H4 => ∃ ys k, y = .str k ∧ H4 D = some (SetTx w D ys) ∧ ys.length + 1 < scanBound ∧ On (upd H4 D (SetTx w D (ins ys k))) else On H3) := by
  refine dc_it wk (nx := fun i H' => Same H1 H' ∧ H' D = some (SetTx w D (setFold (xs.take i)))) (body := fun i x H' On => g x (wipe σ vs) H' fun σ2 H2 => wipe σ2 vs = wipe σ vs ∧ tt σ2 H2 fun b H3 =>
        if b = true then te σ2 H3 fun y H4 => ∃ ys k, y = .str k ∧ H4 D = some (SetTx w D ys) ∧ ys.length + 1 < scanBound ∧ On (upd H4 D (SetTx w D (ins ys k))) else On H3)
    ⟨same_new hD, upd_same⟩ (fun i H _ h => hG H h.1) (fun i x H H' hi h hy => ?_) (fun H h => hd H h.1 (by rw [h.2, List.take_length]))
  have ei : xs[i]? = some xs[i] := List.getElem?_eq_getElem hi
  have sy := hY _ _ _ _ hy
  refine turn i xs[i] x H H' (fun y H5 => ∃ ys k, y = .str k ∧ H5 D = some (SetTx w D ys) ∧ ys.length + 1 < scanBound ∧ _) _ ei h.1 hy fun H4 s4 => ⟨_, _, rfl, s4 _ _ (sy _ _ h.2), ?_, fun b o z => ?_, ?_⟩
  · have := setFold_len i (xs.take i) (by rw [List.length_take]; omega)
    unfold scanBound
    omega
  · rw [upd_ne (ne_of_none z hD)]
    exact s4 _ _ (sy _ _ (h.1 b o z))
  · rw [upd_same, List.take_add_one, ei]
    show some (SetTx w D _) = some (SetTx w D (setFold (xs.take i ++ [xs[i]])))
    rw [setFold_snoc]
end
end L2
namespace PySem.SeqAt
open AutoSeq1 (wpAny_loadPart')
open MeetsSeq
end PySem.SeqAt
namespace L2
open PySem PySem.Spec PyProof.Rows PySem.GX
/-- what is compared can be shown -/
theorem Dp.sh {K : PySem.W.Frag} {H : Hp} : ∀ {d : PyData} {v : V}, Dp K H v d → Sh K H v d := by
  intro d v h
  exact Dp.rec (motive_1 := fun v d _ => Sh K H v d) (motive_2 := fun vs ds _ => ShAll K H vs ds) (.fl .non) (fun b => .fl (.bl b)) (fun i => .fl (.int i)) (fun x => .fl (.str x)) (fun h _ i => .lst h i) (fun h _ i => .tup h i) .nil (fun _ _ i j => .cons i j) h
end L2
namespace My
open PySem PySem.Spec PyProof.Rows L2 PySem.GX L2H LamX
/-- an integer in bounds -/
def inb (d : PyData) (lo hi : Int) : Bool := match d with
  | .int i => decide (lo ≤ i) && decide (i ≤ hi)
  | _ => false
def isI : PyData → Bool
  | .int _ => true
  | .bool _ => true
  | _ => false
def isB : PyData → Bool
  | .bool _ => true
  | _ => false
def isS : PyData → Bool
  | .str _ => true
  | _ => false
theorem sh_kit {K : PySem.W.Frag} {H : Hp} {v : V} {d : PyData} (h : Sh K H v d) : ∃ ty, TyX K H v ty ∧ PySem.W.kitOne K ty (.type "int") = some (isI d) ∧ PySem.W.kitOne K ty (.type "bool") = some (isB d) ∧ PySem.W.kitOne K ty (.type "str") = some (isS d) := by
  cases h with
  | fl f =>
    cases f with
    | non => exact ⟨_, .base .non, kit_ty (show _ = some false by decide +kernel), kit_ty (show _ = some false by decide +kernel), kit_ty (show _ = some false by decide +kernel)⟩
    | bl b => exact ⟨_, .base (.bl b), kit_ty (show _ = some true by decide +kernel), kit_ty (show _ = some true by decide +kernel), kit_ty (show _ = some false by decide +kernel)⟩
    | int i => exact ⟨_, .base (.int i), kit_ty (show _ = some true by decide +kernel), kit_ty (show _ = some false by decide +kernel), kit_ty (show _ = some false by decide +kernel)⟩
    | str x => exact ⟨_, .base (.str x), kit_ty (show _ = some false by decide +kernel), kit_ty (show _ = some false by decide +kernel), kit_ty (show _ = some true by decide +kernel)⟩
  | lst h t =>
    rcases h with (h | ⟨o, h⟩) | ⟨o, its, n, hk, hc, _⟩
    · exact ⟨_, .base (.lst h), kit_ty (show _ = some false by decide +kernel), kit_ty (show _ = some false by decide +kernel), kit_ty (show _ = some false by decide +kernel)⟩
    · exact ⟨_, .base (.frz h), kit_ty (show _ = some false by decide +kernel), kit_ty (show _ = some false by decide +kernel), kit_ty (show _ = some false by decide +kernel)⟩
    · exact ⟨_, .kList hk hc, kit_ty (show _ = some false by decide +kernel), kit_ty (show _ = some false by decide +kernel), kit_ty (show _ = some false by decide +kernel)⟩
  | tup h t =>
    rcases h with (h | ⟨o, h⟩) | ⟨o, its, n, hk, hc, _⟩
    · exact ⟨_, .base (.tup h), kit_ty (show _ = some false by decide +kernel), kit_ty (show _ = some false by decide +kernel), kit_ty (show _ = some false by decide +kernel)⟩
    · exact ⟨_, .fTuple h, kit_ty (show _ = some false by decide +kernel), kit_ty (show _ = some false by decide +kernel), kit_ty (show _ = some false by decide +kernel)⟩
    · exact ⟨_, .kTuple hk hc, kit_ty (show _ = some false by decide +kernel), kit_ty (show _ = some false by decide +kernel), kit_ty (show _ = some false by decide +kernel)⟩
  | dic h a b => exact ⟨_, .base (.dK h), kit_ty (show _ = some false by decide +kernel), kit_ty (show _ = some false by decide +kernel), kit_ty (show _ = some false by decide +kernel)⟩
theorem sh_int {K : PySem.W.Frag} {H : Hp} {v : V} {i : Int} (h : Sh K H v (.int i)) : v = .int i := by
  cases h with
  | fl f => cases f; rfl
/-- raises C with v as what is given -/
def Rz (C : Addr) (v : V) (H : Hp) (E : XK) : Prop := ∀ da H', Same H H' → H' da = some (exd da [("given", v)]) → E (.ref C) (some da) H'
theorem Rz.same {C : Addr} {v : V} {H H1 : Hp} {E : XK} (h : Rz C v H E) (s : Same H H1) : Rz C v H1 E := fun da H' s' e => h da H' (s.trans s') e
/-- what is known of a class that is raised -/
structure RzC (P : Program) (w : World) (K : PySem.W.Frag) (mg : Str → Option Value) (base : Heap) (x : Str) (C : Addr) : Prop where
  mk1 : Mk1 P w K mg base x C "given"
  b1 : PySem.W.subIn K (.ref C) (.type "BaseException") = some true
  b2 : PySem.W.typeIn K (.ref C) = some (.type "type")
/-- the def x is there, and keeps the promise; it may raise -/
structure HvX (P : Program) (w : World) (K : PySem.W.Frag) (mg : Str → Option Value) (base : Heap) (k : Nat) (x : Str) (ps : List Str) (sp : Sp) : Prop where
  ex : ∃ (f : Addr) (fd : FuncData), FnOk P w K mg base (L2N.CX P w) k f fd ps sp ∧ Binds K fd ps [] ∧ mg x = some (.ref f) ∧ PySem.W.keepIn K (.ref f) = true
theorem pe_clX {X : Cx} {k : Nat} {x : Str} {ps : List Str} {sp : Sp} {p pos : Pos} {e : Expr} {es : List Expr} {t : TA} {E : XK} (h : HvX X.prog X.w X.K X.mg X.base k x ps sp) (hr : Room k X.A) (hg : Gl X x) (hx : Passes (L2N.CX X.prog X.w) X E) (ha : PA X (e :: es) t)
    (hdb : (x == ("__debug__" : Str)) = false := by decide) (he : starEach (e :: es) X.env = (false, eval e X.env) :: starEach es X.env := by rfl) (hpl : (backTo pos (starEach es X.env)).any (·.1) = false := by rfl) :
    PE X (.Call (.Name x p) (e :: es) [] pos) (tCall sp [] E t) := by
  obtain ⟨f, fd, F, b, g, kp⟩ := h.ex
  exact pe_call F hr hg g kp b .nil hx ha hdb he hpl
end My
namespace My
open PySem PySem.Spec PyProof.Rows L2 PySem.GX L2H LamX
/-- a list beside an empty one -/
def rEqNil (K : PySem.W.Frag) (neg : Bool) : R2 := fun x y H Q => ∃ (a b : Addr) (xs : List V), x = .ref a ∧ y = .ref b ∧ SqL K H a xs ∧ SqL K H b [] ∧ Q (.bl (if neg then !xs.isEmpty else xs.isEmpty)) H
theorem op_neNil {X : Cx} (hu : X.A.units < cLine) : OpR X (compareOp .NotEq) (rEqNil X.K true) := by
  intro pins s σ H x y v u Q I rx ry ⟨a, b, xs, ex, ey, ha, hb, q⟩
  subst ex ey
  cases rx
  cases ry
  obtain ⟨its, rv, ⟨o, n, ho, hc, _, hd⟩, _⟩ := I.list ha
  obtain ⟨its2, rv2, ⟨o2, n2, ho2, hc2, _, hd2⟩, _⟩ := I.list hb
  cases rv2
  cases rv with
  | nil => exact SeqAt.RcNeAt.lists (e := fun _ => true) ⟨o, ho, hc, n, hd⟩ ⟨o2, ho2, hc2, n2, hd2⟩ rfl hu (fun j h1 _ => absurd h1 (Nat.not_lt_zero j)) _ _ _ _ ⟨.bl _, H, I, rfl, q⟩
  | cons r1 r2 => exact SeqAt.RcNeAt.lists_lengths ⟨o, ho, hc, n, hd⟩ ⟨o2, ho2, hc2, n2, hd2⟩ (by simp) hu _ _ _ _ ⟨.bl _, H, I, rfl, q⟩
/-- f(k = e, ..), keywords alone -/
def tCallKw (sp : Sp) (gV : List V → List V → List V) (n : Nat) (E : XK) (tk : TA) : TE := fun σ H Q => tk σ H fun zs H2 => zs.length = n ∧ sp (gV [] zs) H2 Q E
theorem pe_callKw {X : Cx} {CX : CXT} {k : Nat} {f : Addr} {fd : FuncData} {x : Str} {ps ks : List Str} {sp : Sp} {p pos : Pos} {kws : List Keyword} {tk : TA} {E : XK} {g : List Value → List Value → List Value} {gV : List V → List V → List V}
    (F : FnOk X.prog X.w X.K X.mg X.base CX k f fd ps sp) (hr : Room k X.A) (hg : Gl X x) (hm : X.mg x = some (.ref f)) (hk : PySem.W.keepIn X.K (.ref f) = true) (hb : KBn X.K fd ps 0 ks g gV) (hx : Passes CX X E) (hkw : PK X kws tk)
    (hdb : (x == ("__debug__" : Str)) = false := by decide) (hall : (backToKw pos (keywordEach kws X.env)).all (·.1.isSome) = true := by rfl) (hks : (backToKw pos (keywordEach kws X.env)).filterMap (·.1) = ks := by rfl)
    (hpl : ((backTo pos (starEach [] X.env)).any (·.1) || (backToKw pos (keywordEach kws X.env)).any (·.1.isNone)) = false := by rfl) :
    PE X (.Call (.Name x p) [] kws pos) (tCallKw sp gV ks.length E tk) := by
  refine ⟨fun pins s σ H Q I want => wpAny_Call_Name_kw (ld_glob I hg hm ?_ hdb)⟩
  refine PySem.W.callWith_KW0 (first := []) (h₀ := X.base) I.ok.mod.kin hk hall (thn (hkw.run pos pins s σ H _ I want) fun ws s2 ⟨zs, H2, I2, rz, lz, q2⟩ => ⟨I2.kIn, ?_⟩) hpl
  rw [hks]
  exact run_fnN (us := []) (vs := []) (n := 0) (ks := ks) F hr hb hx I2 .nil rz rfl lz q2
theorem if_false_of {c : Bool} {A B : Prop} (hc : c = false) (h : B) : if c = true then A else B := by
  rw [hc, if_neg Bool.false_ne_true]
  exact h
theorem PT_imp {X : Cx} {e : Expr} {t t' : L2.St → Hp → (Bool → Hp → Prop) → Prop} (h : PT X e t) (m : ∀ σ H Q, t' σ H Q → t σ H Q) : PT X e t' := ⟨fun pins s σ H Q I q => h.run pins s σ H Q I (m σ H Q q)⟩
theorem Dp.ext {K : PySem.W.Frag} {H H' : Hp} (s : Same H H') {v : V} {d : PyData} (h : Dp K H v d) : Dp K H' v d := by
  have sl : ∀ {a : Addr} {xs : List V}, SqL K H a xs → SqL K H' a xs := fun h => by
    rcases h with (h | ⟨o, h⟩) | h
    · exact .inl (.inl (s _ _ h))
    · exact .inl (.inr ⟨o, s _ _ h⟩)
    · exact .inr h
  have st : ∀ {a : Addr} {xs : List V}, SqT K H a xs → SqT K H' a xs := fun h => by
    rcases h with (h | ⟨o, h⟩) | h
    · exact .inl (.inl (s _ _ h))
    · exact .inl (.inr ⟨o, s _ _ h⟩)
    · exact .inr h
  exact Dp.rec (motive_1 := fun v d _ => Dp K H' v d) (motive_2 := fun vs ds _ => DpAll K H' vs ds) .non .bl .int .str (fun h _ i => .lst (sl h) i) (fun h _ i => .tup (st h) i) .nil (fun _ _ i j => .cons i j) h
end My
namespace My
open PySem PySem.Spec PyProof.Rows L2 PySem.GX L2H LamX
def PrF (P : Program) (w : World) (K : PySem.W.Frag) (mg : Str → Option Value) (base : Heap) (C : Addr) (x y : Str) : Prop := ∃ (p g : Addr) (fd : FuncData), PropOf K C x p g ∧ FnOk P w K mg base CX0 1 g fd ["self"] (getSp C y) ∧ Binds K fd ["self"] []
end My
namespace My
open PySem PySem.Spec PyProof.Rows L2 PySem.GX L2H LamX
def spInB (K : PySem.W.Frag) : Sp := fun vs H Q _ => ∃ (v : V) (d : PyData) (lo hi : Int), vs = [v, .int lo, .int hi] ∧ Sh K H v d ∧ Q (.bl (inb d lo hi)) H
section
variable {P : Program} {w : World} {K : PySem.W.Frag} {mg : Str → Option Value} {base : Heap}
theorem scInB : FnScope ["value", "low", "high"] ["value", "low", "high"] (defScope sBounds) := ⟨rfl, rfl, rfl, by decide +kernel, rfl, by decide +kernel, by decide +kernel⟩
theorem ok_inb {f : Addr} {fd : FuncData} (F : Fun K "in_bounds" "in_bounds" sBounds f fd) (hIs : mg "isinstance" = none) (hI : mg "int" = none) (hB : mg "bool" = none) : FnOk P w K mg base CX0 1 f fd ["value", "low", "high"] (spInB K) := by
  refine F.ok scInB (fun vs H Q E h => ?_) (fun cdv A outer s H vs Q E hr h => ?_)
  · obtain ⟨v, d, lo, hi, rfl, _⟩ := h
    rfl
  · obtain ⟨v, d, lo, hi, rfl, hd, k⟩ := h
    refine ⟨_, pss_one (ps_ret (pe_and (pe_callB call_isi (by rfl) hIs (by decide +kernel) (pa_cons (pv 0) (pa_cons (pe_bltn (v := .ty "int") (by rfl) hI (by decide +kernel) rfl) pa_nil)))
        (pe_and (pe_not (pe_callB call_isi (by rfl) hIs (by decide +kernel) (pa_cons (pv 0) (pa_cons (pe_bltn (v := .ty "bool") (by rfl) hB (by decide +kernel) rfl) pa_nil))))
        (pe_one (pe_chain op_le op_le (pv 1) (pv 0) (pv 2)))))), ?_⟩
    obtain ⟨ty, hty, k1, k2, _⟩ := sh_kit hd
    refine ⟨_, rfl, v, .ty "int", ty, .type "int", isI d, rfl, .ty _, hty, k1, _, rfl, ite2 (fun c1 => ?_) (fun c1 => ?_)⟩
    · refine ⟨_, rfl, v, .ty "bool", ty, .type "bool", isB d, rfl, .ty _, hty, k2, _, rfl, _, rfl, ite2 (fun c2 => ?_) (fun c2 => ?_)⟩
      · match d, hd, c1, c2, k with
        | .int i, hd, _, _, k =>
          obtain rfl := sh_int hd
          refine ⟨_, rfl, _, rfl, _, _, rfl, rfl, _, rfl, ite2 (fun c3 => ⟨_, rfl, _, _, rfl, rfl, ?_⟩) (fun c3 => ?_)⟩
          · have e : inb (.int i) lo hi = decide (i ≤ hi) := by
              show (decide (lo ≤ i) && decide (i ≤ hi)) = _
              rw [c3, Bool.true_and]
            rw [e] at k
            exact k
          · have e : inb (.int i) lo hi = false := by
              show (decide (lo ≤ i) && decide (i ≤ hi)) = _
              rw [Bool.eq_false_iff.mpr c3, Bool.false_and]
            rw [e] at k
            exact k
      · have e : inb d lo hi = false := by
          match d, c2 with
          | .bool b, _ => rfl
          | .int i, c2 => exact absurd rfl c2
          | .none, _ => rfl
          | .str _, _ => rfl
          | .list _, _ => rfl
          | .tuple _, _ => rfl
          | .dict _, _ => rfl
        rw [e] at k
        exact k
    · have e : inb d lo hi = false := by
        match d, c1 with
        | .int i, c1 => exact absurd rfl c1
        | .bool b, _ => rfl
        | .none, _ => rfl
        | .str _, _ => rfl
        | .list _, _ => rfl
        | .tuple _, _ => rfl
        | .dict _, _ => rfl
      rw [e] at k
      exact k
end
end My
namespace My
open PySem PySem.Spec PyProof.Rows L2 PySem.GX L2H LamX
theorem walkT {α : Type} {K : PySem.W.Frag} {a : Addr} (xs : List α) (f : α → V) : Walk (Itt K a) xs.length (fun H => SqT K H a (xs.map f)) (YAt (xs.map f)) := by
  have := walk_tup (K := K) (a := a) (xs := xs.map f)
  rw [List.length_map] at this
  exact this
end My
set_option pp.maxSteps 1500
namespace My
open PySem PySem.Spec PyProof.Rows L2 PySem.GX L2H NdefX LamX
/-! pair_test: whether a pair of moods is what is looked for -/
theorem unhide_same {H H' : Hp} {cs : List Addr} (s : Same (hide H cs) H') : Same H (unhide H cs H') := fun b o e => by
  by_cases h : b ∈ cs
  · rw [unhide_in h]; exact e
  · rw [unhide_out h]; exact s b o (by rw [hide_out h]; exact e)
/-- a test of two Bools -/
def spB (ft : Bool → Bool → Bool) : List (Option V) → Sp := fun _ vs H Q _ => ∃ x y : Bool, vs = [.bl x, .bl y] ∧ ∀ H', Same H H' → Q (.bl (ft x y)) H'
abbrev lamTest := lamOf ((defBody sPairTest).drop 2)
abbrev qTest : Str := ("pair_test.<locals>.<lambda>" : Str)
def mkTest (cl : List (Str × Addr)) (c' : Addr) : NF := ⟨"<lambda>", qTest, lamTest.1, [], lamTest.2.2, cl, c'⟩
abbrev nTest : List Str := ["pair", "good_one", "good_other", "test"]
theorem scTest : NScope nTest ["pair"] ["good_one", "good_other", "test"] lamTest.2.2 := nscope_by (by decide +kernel)
def TrueAt (H : Hp) (d : Addr) (gs : List Str) : Prop := H d = some (.dK (dOf (fun x : Str => (Sum.inr x : Key)) (fun _ => V.bl true) gs))
def IsTest (P : Program) (w : World) (K : PySem.W.Frag) (mg : Str → Option Value) (base : Heap) (H : Hp) (t : Addr) (ft : Bool → Bool → Bool) : Prop := ∃ (O : HO) (F : NF) (ps fr : List Str) (ws : List V), Clo P w K mg base 1 H t O F ps fr ws (spB ft)
theorem IsTest.same {P : Program} {w : World} {K : PySem.W.Frag} {mg : Str → Option Value} {base : Heap} {H H' : Hp} {t : Addr} {ft : Bool → Bool → Bool} (h : IsTest P w K mg base H t ft) (s : Same H H') : IsTest P w K mg base H' t ft := by
  obtain ⟨O, F, ps, fr, ws, c⟩ := h
  exact ⟨O, F, ps, fr, ws, c.same s⟩
theorem IsTest.ext {P : Program} {w : World} {K : PySem.W.Frag} {mg : Str → Option Value} {base : Heap} {H H' : Hp} {t : Addr} {ft : Bool → Bool → Bool} (h : IsTest P w K mg base H t ft) (s : ExtN H H') : IsTest P w K mg base H' t ft := by
  obtain ⟨O, F, ps, fr, ws, c⟩ := h
  exact ⟨O, F, ps, fr, ws, c.ext s⟩
def spTest (P : Program) (w : World) (K : PySem.W.Frag) (mg : Str → Option Value) (base : Heap) (ft : Bool → Bool → Bool) (g1 g2 : List Str) : List (Option V) → Sp := fun ws vs H Q _ => ∃ (d1 d2 t q : Addr) (m1 m2 : Str), ws = [some (.ref d1), some (.ref d2), some (.ref t)] ∧ vs = [.ref q] ∧ TrueAt H d1 g1 ∧ TrueAt H d2 g2 ∧ IsTest P w K mg base H t ft ∧ H q = some (.tup [.str m1, .str m2]) ∧
  ∀ H', Same H H' → Q (.bl (ft (decide (m1 ∈ g1)) (decide (m2 ∈ g2)))) H'
section
variable {P : Program} {w : World} {K : PySem.W.Frag} {mg : Str → Option Value} {base : Heap}
theorem run_test {f : Addr} {F : NF} {ft : Bool → Bool → Bool} {g1 g2 : List Str} (hF : ∃ cl c', F = mkTest cl c') : COk P w K mg base 2 f (LamO f F lamTest.2.1) F ["pair"] ["good_one", "good_other", "test"] (spTest P w K mg base ft g1 g2) := by
  obtain ⟨cl, c', rfl⟩ := hF
  refine cok_lam (k := 1) (N := nTest) scTest (fun pm ctv us hl => ?_) (fun ws vs H Q E h => ?_) (fun A outer s H vs ws Q E hr hf hc hl h => ?_)
  · match us, hl with
    | [_], _ => rfl
  · obtain ⟨d1, d2, t, q, m1, m2, _, rfl, _⟩ := h
    rfl
  · obtain ⟨d1, d2, t, q, m1, m2, rfl, rfl, h1, h2, hT, eq, k⟩ := h
    have hu : (A.deeper (envF (mkTest cl c') f s.heap.objs.size)).units + 1 < cLine := hu_of hr
    refine ⟨_, pe_callC (k := 1) (i := 3) (P := P) (w := w) (K := K) (mg := mg) (base := base) rfl rfl rfl rfl rfl hr rfl (Or.inr (Or.inr rfl)) (pa_cons (pe_cmp (pc_din hu (pe_ix (ix_tupK (K := K) rfl) (pv 0) pe_int (fun _ _ => rfl)) (pv 1))) (pa_cons (pe_cmp (pc_din hu (pe_ix (ix_tupK (K := K) rfl) (pv 0) pe_int (fun _ _ => rfl)) (pv 2))) pa_nil)), ?_⟩
    obtain ⟨O, F', ps, fr, ws, C⟩ := hT
    refine ⟨t, O, F', ps, fr, ws, spB ft, rfl, C.ok, C.at_, ?_⟩
    refine ⟨_, rfl, q, _, _, V.str m1, rfl, rfl, SqT.of eq, atI_nat (j := 0) rfl, _, rfl, d1, _, rfl, DGet.k (k := Sum.inr m1) h1, _, rfl, q, _, _, V.str m2, rfl, rfl, SqT.of eq, atI_nat (j := 1) rfl, _, rfl, d2, _, rfl, DGet.k (k := Sum.inr m2) h2, C, ?_⟩
    rw [dTrue_val, dTrue_val]
    exact ⟨_, _, rfl, fun H' s' _ => k _ (unhide_same s')⟩
theorem freeTest : ∀ y ∈ lamTest.2.2.names, y.2 = .free → (defScope sPairTest).names.lookup y.1 = some .cell ∨ (defScope sPairTest).names.lookup y.1 = some .free := by decide +kernel
abbrev nPT : List Str := ["one", "other", "test", "good_one", "good_other", "mood"]
theorem scPairTest : FnScope nPT ["one", "other", "test"] (defScope sPairTest) := ⟨rfl, rfl, rfl, by decide +kernel, rfl, by decide +kernel, by decide +kernel⟩
def spPairTest (K : PySem.W.Frag) (P : Program) (w : World) (mg : Str → Option Value) (base : Heap) (T : List (Addr × Str)) (C : Addr) : Sp := fun vs H Q _ => ∃ (a b t : Addr) (t1 t2 : Str) (p1 p2 : Parts) (ft : Bool → Bool → Bool), vs = [.ref a, .ref b, .ref t] ∧ Tabs T H ∧ RuleAt H C a t1 p1 ∧ RuleAt H C b t2 p2 ∧ p1.gs.length ≤ 1000 ∧ p2.gs.length ≤ 1000 ∧ IsTest P w K mg base H t ft ∧
  ∀ (g d1 d2 : Addr) (O : HO) (F : NF) (H' : Hp), ExtN H H' → Tabs T H' → NewC H (F.cl.map (·.2)) → d1 ∉ F.cl.map (·.2) → d2 ∉ F.cl.map (·.2) → TrueAt H' d1 p1.gs → TrueAt H' d2 p2.gs → IsTest P w K mg base H' t ft → Clo P w K mg base 2 H' g O F ["pair"] ["good_one", "good_other", "test"] [.ref d1, .ref d2, .ref t] (spTest P w K mg base ft p1.gs p2.gs) → Q (.ref g) H'
theorem ok_pairTest {g C cR PT : Addr} {od an : Option Addr} {oc kV dc pm ct : Value} {osl : Array (Option Value)} {T : List (Addr × Str)} (lk : K.lookup g = some ⟨oc, od, .func (PySem.W.fnOf "pair_test" "pair_test" (defArgs sPairTest) (defBody sPairTest) (defScope sPairTest) .none kV dc pm an (.ref cR) ct), osl⟩) (hcd : PySem.W.codeIn K (.ref cR) "pair_test" = true)
    (TB : TabB base mg cR PT) (hm : (PT, qTest) ∈ T) (hu : ∀ p ∈ T, p.1 = PT → p.2 = qTest) (R : RuC K C) (pG : PrF P w K mg base C "good" "chosen") :
    FnOk P w K mg base CX0 3 g (PySem.W.fnOf "pair_test" "pair_test" (defArgs sPairTest) (defBody sPairTest) (defScope sPairTest) .none kV dc pm an (.ref cR) ct) ["one", "other", "test"] (spPairTest K P w mg base T C) := by
  obtain ⟨pp, gp, fdp, PP, GP, bP⟩ := pG
  refine fnL_of (k := 2) (N := nPT) (lsc := lamTest.2.2) (fr := ["good_one", "good_other", "test"]) (js := [3, 4, 2]) lk hcd scPairTest (fun vs H Q E h => ?_) freeTest (by decide +kernel) (by decide +kernel) (by decide) rfl (fun A outer s H vs Q E hr h => ?_)
  · obtain ⟨a, b, t, t1, t2, p1, p2, ft, rfl, _⟩ := h
    rfl
  · obtain ⟨a, b, t, t1, t2, p1, p2, ft, rfl, hT, hA, hB, z1, z2, hI, k⟩ := h
    refine ⟨_, psr_cons (ps_set (i := 3) scPairTest.nd rfl (Or.inr rfl) (pe_dc (own := [("mood", 5)]) (g := gName 5) (tt := tYes) rfl scPairTest.nd (pi_tup (pe_prop (pv 0) R.cl PP GP hr bP .nil pass0 (by rfl)))
          (blkOk_by (N := nPT) (sc := defScope sPairTest) (by decide +kernel)) (fun _ _ _ _ _ => pg_name (i := 5) scPairTest.nd rfl (Or.inl rfl)) (fun _ _ _ _ _ => pts_nil) (fun _ _ _ _ _ => pv 5) (fun _ _ _ _ _ => pe_bl)))
      (psr_cons (ps_set (i := 4) scPairTest.nd rfl (Or.inr rfl) (pe_dc (own := [("mood", 5)]) (g := gName 5) (tt := tYes) rfl scPairTest.nd (pi_tup (pe_prop (pv 1) R.cl PP GP hr bP .nil pass0 (by rfl)))
          (blkOk_by (N := nPT) (sc := defScope sPairTest) (by decide +kernel)) (fun _ _ _ _ _ => pg_name (i := 5) scPairTest.nd rfl (Or.inl rfl)) (fun _ _ _ _ _ => pts_nil) (fun _ _ _ _ _ => pv 5) (fun _ _ _ _ _ => pe_bl)))
      (psr_lam (T := T) (c := cR) (P := PT) TB rfl hm hu rfl freeTest)), ?_⟩
    obtain ⟨dx, M, G, D, e1, e2, e3, e4⟩ := id hA
    obtain ⟨dx', M', G', D', g1, g2, g3, g4⟩ := id hB
    refine ⟨_, rfl, a, dx, _, rfl, e1, a, dx, _, .ref G, rfl, e1, rfl, G, rfl, ⟨_, SqT.of e3⟩, fun D1 hD1 => ?_⟩
    refine dcG p1.gs (fun x => (Sum.inr x : Key)) (fun _ => V.bl true) (walkT p1.gs V.str) (by omega) hD1 (yat_same _) (fun H' s => SqT.of (s _ _ e3)) (fun i x y H' H'' k1 k0 hx s1 hy k2 => ?_) (fun H1 s1 f1 => ?_)
    · obtain ⟨rfl, hy⟩ := hy
      obtain rfl := map_get hx hy
      exact ⟨rfl, _, rfl, k2 _ (Same.refl _)⟩
    refine ⟨_, rfl, b, dx', _, rfl, s1 _ _ g1, b, dx', _, .ref G', rfl, s1 _ _ g1, rfl, G', rfl, ⟨_, SqT.of (s1 _ _ g3)⟩, fun D2 hD2 => ?_⟩
    refine dcG p2.gs (fun x => (Sum.inr x : Key)) (fun _ => V.bl true) (walkT p2.gs V.str) (by omega) hD2 (yat_same _) (fun H' s => SqT.of (s _ _ (s1 _ _ g3))) (fun i x y H' H'' k1 k0 hx s1 hy k2 => ?_) (fun H2 s2 f2 => ?_)
    · obtain ⟨rfl, hy⟩ := hy
      obtain rfl := map_get hx hy
      exact ⟨rfl, _, rfl, k2 _ (Same.refl _)⟩
    have s12 := s1.trans s2
    refine ⟨hT.ext s12, fun f c' H3 eN T1 h0 h1 c1 => ⟨f, [.ref D1, .ref D2, .ref t], rfl, rfl, fun H4 s4 clo nn => ?_⟩⟩
    have eX : ∀ b o, H2 b = some o → (∀ ps, o ≠ .tbl ps) → H4 b = some o := fun b o e n => s4 _ _ (eN b o e n)
    refine k f D1 D2 _ _ H4 (fun b o e n => eX b o (s12 _ _ e) n) (T1.ext s4) (nn.back fun b o e n => eN b o (s12 _ _ e) n) (fun m => let ⟨ps, z⟩ := nn D1 m _ (eN _ _ (s2 _ _ f1) fun ps z => by cases z); (by cases z)) (fun m => let ⟨ps, z⟩ := nn D2 m _ (eN _ _ f2 fun ps z => by cases z); (by cases z)) (eX _ _ (s2 _ _ f1) fun ps z => by cases z) (eX _ _ f2 fun ps z => by cases z) ?_ ⟨run_test ⟨_, c', rfl⟩, lamO_ne, s4 _ _ h1, s4 _ _ c1, clo⟩
    exact ((hI.same s12).ext eN).same s4
end
end My
set_option pp.maxSteps 1500
namespace My
open PySem PySem.Spec PyProof.Rows L2 PySem.GX L2H NdefX LamX
def spFirstMo (C : Addr) : Sp := fun vs H Q _ => ∃ (a b : Addr) (t1 t2 : Str) (p1 p2 : Parts), vs = [.ref a, .ref b] ∧ RuleAt H C a t1 p1 ∧ PartsOk p1 ∧ RuleAt H C b t2 p2 ∧ PartsOk p2 ∧ ∀ (r : Addr) (H' : Hp), Same H H' → H r = none → H' r = some (.tup [.str (firstL p1), .str (firstL p2)]) → Q (.ref r) H'
section
variable {P : Program} {w : World} {K : PySem.W.Frag} {mg : Str → Option Value} {base : Heap}
theorem scFirstMo : FnScope ["one", "other"] ["one", "other"] (defScope sFirstMo) := ⟨rfl, rfl, rfl, by decide +kernel, rfl, by decide +kernel, by decide +kernel⟩
theorem ok_firstMo {f C : Addr} {fd : FuncData} (F : Fun K "first_moods" "first_moods" sFirstMo f fd) (R : RuC K C) (pM : PrF P w K mg base C "moods" "words") : FnOk P w K mg base CX0 3 f fd ["one", "other"] (spFirstMo C) := by
  obtain ⟨pp, gp, fdp, PP, GP, bP⟩ := pM
  refine F.ok scFirstMo (fun vs H Q E h => ?_) (fun cdv A outer s H vs Q E hr h => ?_)
  · obtain ⟨a, b, t1, t2, p1, p2, rfl, _⟩ := h
    rfl
  · obtain ⟨a, b, t1, t2, p1, p2, rfl, hA, ok1, hB, ok2, k⟩ := h
    refine ⟨_, pss_one (ps_ret (pe_tup (pa_cons (pe_ix ix_tup (pe_prop (pv 0) R.cl PP GP hr bP .nil pass0 (by rfl)) pe_int (fun _ _ => rfl)) (pa_cons (pe_ix ix_tup (pe_prop (pv 1) R.cl PP GP hr bP .nil pass0 (by rfl)) pe_int (fun _ _ => rfl)) pa_nil)))), ?_⟩
    obtain ⟨dx, M, G, D, e1, e2, e3, e4⟩ := id hA
    obtain ⟨dx', M', G', D', g1, g2, g3, g4⟩ := id hB
    obtain ⟨ms, em⟩ := ok1.first
    obtain ⟨ms', em'⟩ := ok2.first
    have f1 : (p1.ms.map V.str)[0]? = some (.str (firstL p1)) := by rw [em]; rfl
    have f2 : (p2.ms.map V.str)[0]? = some (.str (firstL p2)) := by rw [em']; rfl
    exact ⟨_, rfl, a, dx, _, rfl, e1, a, dx, _, .ref M, rfl, e1, rfl, M, _, _, _, rfl, rfl, SqT.of e2, atI_nat (j := 0) f1, _, rfl, b, dx', _, rfl, g1, b, dx', _, .ref M', rfl, g1, rfl, M', _, _, _, rfl, rfl, SqT.of g2, atI_nat (j := 0) f2, by show 2 ≤ sizeLine; decide, fun r hr' => k r _ (same_new hr') hr' upd_same⟩
end
end My
set_option pp.maxSteps 1500
namespace My
open PySem PySem.Spec PyProof.Rows L2 PySem.GX L2H NdefX LamX
/-! row_back: the row to a state, from where each came -/
/-- a state that came: its key, its row, where it stands, what the dict tells of it -/
structure Cm where
  key : List Key
  row : Row
  addr : Addr
  val : V
abbrev stK (k : List Key) : HO := .tup (k.map kV)
abbrev cameD (E : List Cm) : List (List Key × V) := E.map fun e => (e.key, e.val)
abbrev cameR (E : List Cm) : List V := E.map fun e => V.ref e.addr
abbrev cameL (E : List Cm) : List (List Key × Row) := E.map fun e => (e.key, e.row)
/-- how the i-th came -/
def CmAt (H : Hp) (E : List Cm) (i : Nat) (e : Cm) : Prop := H e.addr = some (stK e.key) ∧ ((i = 0 ∧ e.val = .non ∧ e.row = []) ∨ ∃ (j : Nat) (y : Cm) (t : Addr) (s : Nat), j < i ∧ E[j]? = some y ∧ e.val = .ref t ∧ H t = some (.tup [.ref y.addr, .str (sg s)]) ∧ e.row = y.row ++ [s])
structure Cms (H : Hp) (E : List Cm) : Prop where
  nd : (E.map Cm.key).Nodup
  at_ : ∀ i e, E[i]? = some e → CmAt H E i e
theorem Cms.same {H H' : Hp} {E : List Cm} (h : Cms H E) (s : ∀ b xs, H b = some (.tup xs) → H' b = some (.tup xs)) : Cms H' E :=
  ⟨h.nd, fun i e q => let ⟨a, b⟩ := h.at_ i e q; ⟨s _ _ a, b.imp id fun ⟨j, y, t, c, h1, h2, h3, h4, h5⟩ => ⟨j, y, t, c, h1, h2, h3, s _ _ h4, h5⟩⟩⟩
theorem came_val : ∀ {E : List Cm}, (E.map Cm.key).Nodup → ∀ e ∈ E, valV (cameD E) e.key = some e.val
  | [], _, e, h => by cases h
  | y :: E, nd, e, h => by
    rw [List.map_cons, List.nodup_cons] at nd
    show valV ((y.key, y.val) :: cameD E) e.key = _
    rcases List.mem_cons.mp h with rfl | h
    · exact valV_pos rfl
    · have ne : ¬ y.key = e.key := fun q => nd.1 (q ▸ List.mem_map.mpr ⟨e, h, rfl⟩)
      rw [valV_neg ne]
      exact came_val nd.2 e h
theorem came_has (k : List Key) : ∀ E : List Cm, (valV (cameD E) k).isSome = true ↔ k ∈ E.map Cm.key
  | [] => ⟨fun h => (by cases h), fun h => (by cases h)⟩
  | y :: E => by
    have ih := came_has k E
    show (valV ((y.key, y.val) :: cameD E) k).isSome = true ↔ _
    rw [List.map_cons, List.mem_cons]
    by_cases q : y.key = k
    · rw [valV_pos q]
      exact ⟨fun _ => .inl q.symm, fun _ => rfl⟩
    · rw [valV_neg q, ih]
      exact ⟨.inr, fun h => h.elim (fun z => absurd z.symm q) id⟩
theorem came_not {k : List Key} {E : List Cm} (h : k ∉ E.map Cm.key) : (valV (cameD E) k).isSome = false := by
  rw [← Bool.not_eq_true]
  exact fun z => h ((came_has k E).mp z)
def spRowBack (K : PySem.W.Frag) : Sp := fun vs H Q _ => ∃ (d : Addr) (E : List Cm) (i : Nat) (e : Cm), vs = [.ref d, .ref e.addr] ∧ H d = some (.dT (cameD E)) ∧ Cms H E ∧ E[i]? = some e ∧ e.row.length ≤ 1000000 ∧ ∀ H', Same H H' → Q (.str ⟨e.row.toArray⟩) H'
theorem join_row (cs : List Nat) : Txt.join Str.empty (cs.map sg) = ⟨cs.toArray⟩ := str_ext (by rw [TL.join_eq, join_signs])
theorem rev_sgs (cs : List Nat) : (cs.map sg).reverse = (cs.reverse.map sg) := by rw [List.map_reverse]
section
variable {P : Program} {w : World} {K : PySem.W.Frag} {mg : Str → Option Value} {base : Heap}
abbrev nRowBack : List Str := ["came", "state", "signs", "sign"]
theorem scRowBack : FnScope nRowBack ["came", "state"] (defScope sRowBack) := ⟨rfl, rfl, rfl, by decide +kernel, rfl, by decide +kernel, by decide +kernel⟩
/-- how far it has come -/
def atB (σ : List (Option V)) (H : Hp) : Nat := match σ[2]? with
  | some (some (V.ref l)) => (match H l with
    | some (.lst xs) => 1000001 - xs.length
    | _ => 0)
  | _ => 0
theorem sum_sgs (cs : List Nat) : ((cs.map sg).map (·.length)).sum = cs.length := by
  induction cs with
  | nil => rfl
  | cons a t ih =>
    rw [List.map_cons, List.map_cons, List.sum_cons, ih, List.length_cons]
    show 1 + _ = _
    omega
theorem ok_rowBack {f : Addr} {fd : FuncData} (F : Fun K "row_back" "row_back" sRowBack f fd) (hRv : mg "reversed" = none) : FnOk P w K mg base CX0 1 f fd ["came", "state"] (spRowBack K) := by
  refine F.ok scRowBack (fun vs H Q E h => ?_) (fun cdv A outer s H vs Q E hr h => ?_)
  · obtain ⟨d, E, i, e, rfl, _⟩ := h
    rfl
  · obtain ⟨d, E, i0, e0, rfl, ed, hC, ei0, hz, k⟩ := h
    have hu := hu_of hr
    refine ⟨_, pss_cons (ps_set (i := 2) scRowBack.nd rfl (Or.inl rfl) (pe_lst pa_nil))
      (pss_cons (ps_while PassesOwn.never (pt_cmpR op_notN (pe_dget hu (pv 0) (pv 1) (fun _ _ => rfl)) pe_non (nomark _))
        (pss_cons (ps_asg (pe_dget hu (pv 0) (pv 1) (fun _ _ => rfl)) (pg_tup rfl (pgs_cons (pg_name (i := 1) scRowBack.nd rfl (Or.inl rfl)) (pgs_cons (pg_name (i := 3) scRowBack.nd rfl (Or.inl rfl)) pgs_nil))))
        (pss_one (ps_expr (pe_bm PySem.F.plainAttrs_list PySem.F.slot_list_append PySem.F.type_list_append mt_append (pv 2) (pa_cons (pv 3) pa_nil))))))
      (pss_one (ps_ret (pe_joinRev rfl pe_str (by rfl) hRv (pv 2))))), ?_⟩
    refine ⟨by show 0 ≤ sizeLine; decide, fun l hl => ?_⟩
    have ed1 := keep1 (o := .lst []) ed hl
    have nld : l ≠ d := (ne_of_none ed hl).symm
    refine while_by (fun σ H' => ∃ (i : Nat) (e : Cm) (v3 : Option V) (cs : List Nat), σ = [some (.ref d), some (.ref e.addr), some (.ref l), v3] ∧ E[i]? = some e ∧ e0.row = e.row ++ cs.reverse ∧ H' l = some (.lst ((cs.map sg).map V.str)) ∧ ∀ b o, b ≠ l → H b = some o → H' b = some o) (fun σ H' => atB σ H')
      ⟨i0, e0, none, [], rfl, ei0, by simp, upd_same, fun b o n e => by rw [upd_ne n]; exact e⟩ (fun σ H2 h => ?_) ?mono
    case mono =>
      rintro σ H Q Q' m ⟨a1, a2, a3, a4, a5, a6, a7, a8, a9, a10, a11, q⟩
      exact ⟨a1, a2, a3, a4, a5, a6, a7, a8, a9, a10, a11, m _ _ q⟩
    obtain ⟨i, e, v3, cs, rfl, ei, er, el, st⟩ := h
    have hC2 : Cms H2 E := hC.same fun b xs q => st _ _ (ne_of_none q hl) q
    have ed2 := st _ _ nld.symm ed
    obtain ⟨ea, hv⟩ := hC2.at_ i e ei
    have dg := DGet.t (k := e.key) ed2 ea
    rw [came_val hC2.nd e (List.mem_of_getElem? ei)] at dg
    have lr := congrArg List.length er
    rw [List.length_append, List.length_reverse] at lr
    refine ⟨_, rfl, _, rfl, d, _, rfl, dg, ?_⟩
    rcases hv with ⟨rfl, hv, hr0⟩ | ⟨j, y, t, c, hj, ej, hv, et, hrow⟩
    · rw [hv]
      refine ⟨rfl, _, rfl, iteF ?_⟩
      refine ⟨⟨_, rfl⟩, _, rfl, _, l, cs.map sg, rfl, rfl, SqL.of el, ?_, ?_⟩
      · rw [sum_sgs, List.length_map]
        have e0 : (Str.ofString "").length = 0 := rfl
        rw [e0]
        omega
      · have e1 : (Str.ofString "") = Str.empty := rfl
        rw [e1, rev_sgs, join_row]
        rw [hr0, List.nil_append] at er
        rw [← er]
        exact k _ fun b o q => st _ _ (ne_of_none q hl) q
    · rw [hv]
      refine ⟨rfl, _, rfl, iteT ?_⟩
      rw [hv] at dg
      refine ⟨_, rfl, _, rfl, d, V.ref t, rfl, dg, t, _, rfl, SqT.of et, rfl, _, _, rfl, _, _, rfl, rfl, ?_⟩
      refine ⟨_, rfl, .inl ⟨rfl, _, SqL.of el⟩, _, rfl, l, _, _, rfl, rfl, el, ?_, ?_⟩
      · rw [List.length_map, List.length_map, sizeLine_eq]
        omega
      refine ⟨⟨j, y, _, cs ++ [c], rfl, ej, ?_, ?_, fun b o n q => ?_⟩, ?_⟩
      · rw [er, hrow, List.reverse_append, List.append_assoc]
        rfl
      · rw [upd_same, List.map_append, List.map_append]
        rfl
      · rw [upd_ne n]
        exact st b o n q
      · show (match upd H2 l (.lst ((cs.map sg).map V.str ++ [V.str (sg c)])) l with | some (.lst xs) => 1000001 - xs.length | _ => 0) < (match H2 l with | some (.lst xs) => 1000001 - xs.length | _ => 0)
        rw [upd_same, el]
        show 1000001 - ((cs.map sg).map V.str ++ [V.str (sg c)]).length < 1000001 - ((cs.map sg).map V.str).length
        rw [List.length_append, List.length_map, List.length_map]
        show 1000001 - (cs.length + 1) < _
        omega
end
end My
/-! {k: v}, k a tuple -/
namespace L2
open PySem PySem.Spec PyProof.Rows
def tDisp1T (tk tv : TE) : TE := fun σ H Q => ∀ p, H p = none → tk σ (upd H p (.dT [])) fun x H1 => tv σ H1 fun y H2 => ∃ (b : Addr) (key : List Key), x = .ref b ∧ H2 b = some (.tup (key.map kV)) ∧ H2 p = some (.dT []) ∧ Q (.ref p) (upd H2 p (.dT [(key, y)]))
theorem pe_disp1T {X : Cx} {k v : Expr} {tk tv : TE} {pos : Pos} (hu : X.A.units + 1 < cLine) (hk : PE X k tk) (hv : PE X v tv) : PE X (.Dict [some k] [v] pos) (tDisp1T tk tv) := by
  refine ⟨fun pins s σ H Q I q => ?_⟩
  have hn := I.hok.fresh (Nat.le_refl s.heap.objs.size)
  have I1 := I.laid (a := s.heap.objs.size) (o := .dT []) (h' := s.heap.push { cls := .type "dict", data := .dict #[] }) (t' := s.toks) (fun _ _ q => Heap.get?_push_of_some _ q) (Nat.le_refl _) (dt_empty s.heap I.big)
  rw [arm_eval_Dict]
  have hz := zip_pairTrees [some k] [v] X.env pos rfl rfl
  rw [hz, dictDisplay_pairs _ (by simp [pairTrees]) (by simp [pairTrees])]
  refine wpAny_bind (wpAny_standAt (wpAny_bind (wpAny_subDictH (knd := tupleKind (mixKind X.prog X.w)) (Q := fun d s' => wpAny (model X.prog X.w) X.A (pure (Value.ref d)) (EP X pins σ Q) X.xe s') (show (tupleKind (mixKind X.prog X.w)).room X.A from Nat.lt_of_succ_lt hu) (by simp [pairTrees]) ?_)))
  refine pairTrees_cons_walk (thn (hk.run pins _ σ _ _ I1 (q _ hn)) fun kv s1 ⟨x, H1, I2, r1, q1⟩ => thn (hv.run pins s1 σ H1 _ I2 q1) fun vv s2 ⟨y, H2, I3, r2, q2⟩ => pairTrees_nil_walk ?_)
  obtain ⟨b, key, rfl, eb, ep, q3⟩ := q2
  obtain rfl : kv = Value.ref b := r1
  obtain ⟨z, hd, xs, rel, dd⟩ := dt_of I3.hok ep
  cases rel
  refine ⟨[(key, b, vv)], ⟨rfl, rfl, key_of I3.hok eb, True.intro⟩, dd, fun h' tk dd' hs => wpAny_pure ⟨.ref s.heap.objs.size, _, ?_, rfl, q3⟩⟩
  obtain ⟨ob, es, ep', hq, h2, h3, h4, _, h5⟩ := dd'
  refine d_write I3 (by rw [ep]; exact True.intro) hs ⟨ob, hq⟩ ⟨by show 1 ≤ sizeLine; decide, hd, _, ?_, ob, es, ep', hq, h2, h3, h4, h5⟩
  refine .cons ⟨rfl, ?_, r2⟩ .nil
  rw [upd_ne (ne_of eb ep (fun z => nomatch z))]
  exact eb
end L2
namespace L2
open PySem PySem.Spec PyProof.Rows PySem.GX NdefX LamX
/-- lambda ..: .. as a value -/
def tLamO (T : List (Addr × Str)) (mk : Addr → NF) (body : Expr) : TE := fun _ H Q => Tabs T H ∧ ∀ (f c' : Addr) (H1 : Hp), ExtN H H1 → Tabs T H1 → H f = none → H1 f = some (LamO f (mk c') body) → H1 c' = some (CodeO c' (mk c').qual) → Q (.ref f) H1
theorem pe_lamO {X : Cx} {T : List (Addr × Str)} {c P : Addr} {params : Arguments} {body : Expr} {scope : Scope} {pos : Pos} (TB : TabB X.base X.mg c P) (hcode : X.env.code = .ref c)
    (hm : (P, X.env.qual ++ "<lambda>") ∈ T) (hu : ∀ p ∈ T, p.1 = P → p.2 = X.env.qual ++ "<lambda>") (hdef : defaultsOf params X.env = ([], []))
    (hfree : ∀ y ∈ scope.names, y.2 = .free → X.env.scope.names.lookup y.1 = some .cell ∨ X.env.scope.names.lookup y.1 = some .free) :
    PE X (.Lambda params body scope pos) (tLamO T (fun c' => ⟨"<lambda>", X.env.qual ++ "<lambda>", params, [], scope, cloFrom X.env.cells scope.names [], c'⟩) body) := by
  refine ⟨fun pins s σ H Q I h => ?_⟩
  obtain ⟨hT, h⟩ := h
  have hfr : ∀ y ∈ scope.names, y.2 = .free → ∃ c, X.env.cells.lookup y.1 = some c := fun y hy e => (hfree y hy e).elim (fun z => I.ok.has _ (.inl z)) fun z => I.ok.has _ (.inr z)
  exact lamO_make I TB hcode hm hu hT hdef hfr fun f c' H1 s' I1 eN T1 f0 f1 c1 => ⟨.ref f, H1, I1, rfl, h f c' H1 eN T1 f0 f1 c1⟩
/-- a lambda that captures nothing -/
theorem clo_nil {P : Program} {w : World} {K : PySem.W.Frag} {mg : Str → Option Value} {base : Heap} {k : Nat} {H : Hp} {f : Addr} {F : NF} {e : Expr} {ps : List Str} {sp : List (Option V) → Sp} (hcl : F.cl = []) (ok : COk P w K mg base k f (LamO f F e) F ps [] sp) (h1 : H f = some (LamO f F e)) (h2 : H F.c = some (CodeO F.c F.qual)) : Clo P w K mg base k H f (LamO f F e) F ps [] [] sp := by
  refine ⟨ok, lamO_ne, h1, h2, ⟨rfl, fun c hc => ?_, fun x y c e1 => ?_, fun i y e => by simp at e⟩⟩
  · rw [hcl] at hc
    cases hc
  · rw [hcl] at e1
    cases e1
end L2
set_option pp.maxSteps 1500
namespace L2
open PySem PySem.Spec PyProof.Rows PySem.GX NdefX LamX
/-! a function that is called again and again: what it promises over any heap that keeps the first one -/
def NoX : XK := fun _ _ _ => False
structure CallT (P : Program) (w : World) (K : PySem.W.Frag) (mg : Str → Option Value) (base : Heap) (k : Nat) (H0 : Hp) (f : Addr) (sp' : Sp) : Prop where
  has : ∃ (O : HO) (F : NF) (ps fr : List Str) (ws : List V) (sp : List (Option V) → Sp), Clo P w K mg base k H0 f O F ps fr ws sp ∧
    ∀ (vs : List V) (H : Hp) (Q : VK), Same H0 H → sp' vs H Q NoX → sp (ws.map some) vs (hide H (F.cl.map (·.2))) (fun v H' => (∀ c ∈ F.cl.map (·.2), H' c = none) → Q v (unhide H (F.cl.map (·.2)) H')) (fun _ _ _ => False)
theorem CallT.same {P : Program} {w : World} {K : PySem.W.Frag} {mg : Str → Option Value} {base : Heap} {k : Nat} {H0 H1 : Hp} {f : Addr} {sp' : Sp} (c : CallT P w K mg base k H0 f sp') (s : Same H0 H1) : CallT P w K mg base k H1 f sp' := by
  obtain ⟨O, F, ps, fr, ws, sp, C, h⟩ := c.has
  exact ⟨O, F, ps, fr, ws, sp, C.same s, fun vs H Q s' q => h vs H Q (s.trans s') q⟩
theorem PA_up {X : Cx} {es : List Expr} {t : TA} (h : PA X es t) : PA X es (fun σ H Q => ∃ Qc : List V → Hp → Prop, t σ H Qc ∧ ∀ vs H', Qc vs H' → Q vs H') :=
  ⟨fun pos pins s σ H Q I ⟨Qc, q, m⟩ => wpAny_mono (h.run pos pins s σ H Qc I q) (fun us s' ⟨vs, H1, I1, r, z⟩ => ⟨vs, H1, I1, r, m vs H1 z⟩) fun _ _ z => z⟩
/-- f(..), f a name that holds such a function -/
def tCallT (P : Program) (w : World) (K : PySem.W.Frag) (mg : Str → Option Value) (base : Heap) (k i : Nat) (t : TA) : TE := fun σ H Q => ∃ (f : Addr) (H0 : Hp) (sp' : Sp), σ[i]? = some (some (.ref f)) ∧ CallT P w K mg base k H0 f sp' ∧ Same H0 H ∧ t σ H fun vs H1 => Same H0 H1 ∧ sp' vs H1 Q NoX
theorem pe_callT {X : Cx} {P : Program} {w : World} {K : PySem.W.Frag} {mg : Str → Option Value} {base : Heap} {k i : Nat} {x : Str} {p pos : Pos} {e : Expr} {es : List Expr} {t : TA} (e1 : X.prog = P) (e2 : X.w = w) (e3 : X.K = K) (e4 : X.mg = mg) (e5 : X.base = base) (hr : Room k X.A) (hN : X.N[i]? = some x) (hv : Vis X.env.scope x) (ha : PA X (e :: es) t)
    (hd : (x == ("__debug__" : Str)) = false := by decide) (hcd : (x == ("__classdict__" : Str)) = false := by decide)
    (he : starEach (e :: es) X.env = (false, eval e X.env) :: starEach es X.env := by rfl) (hpl : (backTo pos (starEach es X.env)).any (·.1) = false := by rfl) :
    PE X (.Call (.Name x p) (e :: es) [] pos) (tCallT P w K mg base k i t) := by
  refine ⟨fun pins s σ H Q I h => ?_⟩
  obtain ⟨f, H0, sp', hs, C, s0, ht⟩ := h
  obtain ⟨O, F, ps, fr, ws, sp, c, hq⟩ := C.has
  refine (pe_callC (p := p) (pos := pos) e1 e2 e3 e4 e5 hr hN hv (PA_up ha) hd hcd he hpl).run pins s σ H Q I ⟨f, O, F, ps, fr, ws, sp, hs, c.ok, s0 _ _ c.at_, _, ht, fun vs H1 q => ⟨c.same q.1, hq vs H1 _ q.1 q.2⟩⟩
end L2
namespace My
open PySem PySem.Spec PyProof.Rows L2 PySem.GX L2H LamX
theorem nodup_len {α : Type} [DecidableEq α] : ∀ {l m : List α}, l.Nodup → (∀ x ∈ l, x ∈ m) → l.length ≤ m.length
  | [], _, _, _ => Nat.zero_le _
  | a :: t, m, nd, h => by
    have ha := h a (by simp)
    have nd' := List.nodup_cons.mp nd
    have i := nodup_len (m := m.erase a) nd'.2 (fun x hx => (List.mem_erase_of_ne (by rintro rfl; exact nd'.1 hx)).mpr (h x (by simp [hx])))
    rw [List.length_erase_of_mem ha] at i
    have : 0 < m.length := List.length_pos_of_mem ha
    rw [List.length_cons]
    omega
abbrev k2 (a b : Str) : List Key := [Sum.inr a, Sum.inr b]
/-- all but two stays -/
def Ks (l d : Addr) (H H' : Hp) : Prop := ∀ b o, b ≠ l → b ≠ d → H b = some o → H' b = some o
end My
set_option pp.maxSteps 1500
namespace My
open PySem PySem.Spec PyProof.Rows L2 PySem.GX L2H NdefX LamX
/-! first_row: the first row that leads to a state that is wanted -/
def spStepK (D : List (List Key)) (cs : Row) (step : List Key → Nat → List Key) : Sp := fun vs H Q _ => ∃ (a : Addr) (k : List Key) (x : Nat), vs = [.ref a, .str (sg x)] ∧ H a = some (stK k) ∧ k ∈ D ∧ x ∈ cs ∧ ∀ (r : Addr) (H' : Hp), Same H H' → H' r = some (stK (step k x)) → Q (.ref r) H'
def spWantK (D : List (List Key)) (W : List Key → Bool) : Sp := fun vs H Q _ => ∃ (a : Addr) (k : List Key), vs = [.ref a] ∧ H a = some (stK k) ∧ k ∈ D ∧ ∀ H', Same H H' → Q (.bl (W k)) H'
def rowV : Option Row → V
  | some r => .str ⟨r.toArray⟩
  | none => .non
def spFirstRow (P : Program) (w : World) (K : PySem.W.Frag) (mg : Str → Option Value) (base : Heap) : Sp := fun vs H Q _ => ∃ (x : Str) (a fs fw : Addr) (k0 : List Key) (D : List (List Key)) (step : List Key → Nat → List Key) (W : List Key → Bool), vs = [.str x, .ref a, .ref fs, .ref fw] ∧ H a = some (stK k0) ∧ k0 ∈ D ∧ D.length ≤ 100000 ∧ (∀ k ∈ D, ∀ c ∈ x.cps.toList, step k c ∈ D) ∧ x.cps.toList.Pairwise (· < ·) ∧
  CallT P w K mg base 1 H fs (spStepK D x.cps.toList step) ∧ CallT P w K mg base 2 H fw (spWantK D W) ∧ ∀ (o : Option Row) (H' : Hp), Same H H' → IsFirst x.cps.toList (fun r => W (runL step k0 r) = true) o → Q (rowV o) H'
structure FRow (H1 H : Hp) (l d : Addr) (E : List Cm) : Prop where
  ks : Ks l d H1 H
  el : H l = some (.lst (cameR E))
  ed : H d = some (.dT (cameD E))
  cm : Cms H E
section
variable {H1 H : Hp} {l d : Addr} {E : List Cm}
theorem FRow.new (h : FRow H1 H l d E) {H' : Hp} (s : Same H H') : FRow H1 H' l d E :=
  ⟨fun b o n1 n2 e => s _ _ (h.ks b o n1 n2 e), s _ _ h.el, s _ _ h.ed, h.cm.same fun b xs e => s _ _ e⟩
theorem cameD_app (E : List Cm) (e : Cm) : cameD (E ++ [e]) = cameD E ++ [(e.key, e.val)] := by
  show List.map _ _ = _
  rw [List.map_append]
  rfl
theorem cameR_app (E : List Cm) (e : Cm) : cameR (E ++ [e]) = cameR E ++ [V.ref e.addr] := by
  show List.map _ _ = _
  rw [List.map_append]
  rfl
theorem cameL_app (E : List Cm) (e : Cm) : cameL (E ++ [e]) = cameL E ++ [(e.key, e.row)] := by
  show List.map _ _ = _
  rw [List.map_append]
  rfl
theorem Cms.len (h : Cms H E) : ∀ (i : Nat) (e : Cm), E[i]? = some e → e.row.length ≤ i := by
  intro i
  induction i using Nat.strongRecOn with
  | _ i ih =>
    intro e he
    rcases (h.at_ i e he).2 with ⟨_, _, hr⟩ | ⟨j, y, t, s, hj, ey, _, _, hr⟩
    · rw [hr]; exact Nat.zero_le _
    · have := ih j hj y ey
      rw [hr, List.length_append]
      show y.row.length + 1 ≤ i
      omega
theorem FRow.put (h : FRow H1 H l d E) {k : List Key} (hn : k ∉ E.map Cm.key) {n : Nat} {y : Cm} (ey : E[n]? = some y) {c : Nat} {H2 : Hp} {r t : Addr} (s : Ks l d H H2) (el : H2 l = some (.lst (cameR (E ++ [⟨k, y.row ++ [c], r, .ref t⟩])))) (ed : H2 d = some (.dT (cameD (E ++ [⟨k, y.row ++ [c], r, .ref t⟩]))))
    (er : H2 r = some (stK k)) (et : H2 t = some (.tup [.ref y.addr, .str (sg c)])) : FRow H1 H2 l d (E ++ [⟨k, y.row ++ [c], r, .ref t⟩]) := by
  have up : ∀ b xs, H b = some (.tup xs) → H2 b = some (.tup xs) := fun b xs e => s b _ (ne_of e h.el (by intro z; cases z)) (ne_of e h.ed (by intro z; cases z)) e
  have lt := (List.getElem?_eq_some_iff.mp ey).1
  refine ⟨fun b o n1 n2 e => s b o n1 n2 (h.ks b o n1 n2 e), el, ed, ⟨?_, fun i e ei => ?_⟩⟩
  · rw [List.map_append, List.nodup_append]
    refine ⟨h.cm.nd, by simp, fun x hx z hz q => ?_⟩
    have : z = k := by simpa using hz
    exact hn (this ▸ q ▸ hx)
  · rw [List.getElem?_append] at ei
    split at ei
    · obtain ⟨q1, q2⟩ := h.cm.at_ i e ei
      refine ⟨up _ _ q1, q2.imp id fun ⟨j, y', t', c', h1, h2, h3, h4, h5⟩ => ⟨j, y', t', c', h1, ?_, h3, up _ _ h4, h5⟩⟩
      rw [List.getElem?_append_left (List.getElem?_eq_some_iff.mp h2).1]
      exact h2
    · rename_i hi
      have : i = E.length ∧ e = ⟨k, y.row ++ [c], r, .ref t⟩ := by
        cases hz : i - E.length with
        | zero => rw [hz] at ei; exact ⟨by omega, (Option.some.inj ei).symm⟩
        | succ m => rw [hz] at ei; cases ei
      obtain ⟨rfl, rfl⟩ := this
      refine ⟨er, .inr ⟨n, y, t, c, lt, ?_, rfl, et, rfl⟩⟩
      rw [List.getElem?_append_left lt]
      exact ey
end
section
variable {P : Program} {w : World} {K : PySem.W.Frag} {mg : Str → Option Value} {base : Heap}
abbrev nFirstRow : List Str := ["signs", "start", "step", "wanted", "came", "states", "at", "state", "sign", "goal"]
theorem scFirstRow : FnScope nFirstRow ["signs", "start", "step", "wanted"] (defScope sFirstRow) := ⟨rfl, rfl, rfl, by decide +kernel, rfl, by decide +kernel, by decide +kernel⟩
def atF (σ : List (Option V)) : Nat := match σ[6]? with
  | some (some (V.int n)) => 200000 - n.toNat
  | _ => 0
theorem ok_firstRow {f : Addr} {fd : FuncData} (F : Fun K "first_row" "first_row" sFirstRow f fd) (hB : Hv P w K mg base 1 "row_back" ["came", "state"] (spRowBack K)) (hL : mg "len" = none) : FnOk P w K mg base CX0 3 f fd ["signs", "start", "step", "wanted"] (spFirstRow P w K mg base) := by
  refine F.ok scFirstRow (fun vs H Q E h => ?_) (fun cdv A outer s H vs Q E hr h => ?_)
  · obtain ⟨x, a, fs, fw, k0, D, step, W, rfl, _⟩ := h
    rfl
  · obtain ⟨x, a, fs, fw, k0, D, step, W, rfl, ha, hk0, zD, cl, asc, hS, hW, kk⟩ := h
    have hu := hu_of hr
    have hr1 := hr.mono (by decide : 1 ≤ 2)
    refine ⟨_, pss_cons (ps_set (i := 4) scFirstRow.nd rfl (Or.inl rfl) (pe_disp1T hu (pv 1) pe_non))
      (pss_cons (ps_set (i := 5) scFirstRow.nd rfl (Or.inl rfl) (pe_lst (pa_cons (pv 1) pa_nil)))
      (pss_cons (ps_set (i := 6) scFirstRow.nd rfl (Or.inl rfl) pe_int)
      (pss_cons (ps_while PassesOwn.never (pt_cmpR op_lt (pv 6) (pe_callB call_len_seq (by rfl) hL PySem.boot_len (pa_cons (pv 5) pa_nil)) (nomark _))
        (pss_cons (ps_set (i := 7) scFirstRow.nd rfl (Or.inl rfl) (pe_ix ix_list (pv 5) (pv 6) (fun _ _ => rfl)))
        (pss_cons (ps_if (pt_val (pe_callT (k := 2) (i := 3) (P := P) (w := w) (K := K) (mg := mg) (base := base) rfl rfl rfl rfl rfl hr rfl (Or.inl rfl) (pa_cons (pv 7) pa_nil))) (pss_one (ps_ret (pe_cl hB hr1 rfl pass0 (pa_cons (pv 4) (pa_cons (pv 7) pa_nil))))) pss_nil)
        (pss_cons (ps_for PassesOwn.never rfl (pi_str (pv 0)) (pg_name (i := 8) scFirstRow.nd rfl (Or.inl rfl))
          (pss_cons (ps_set (i := 9) scFirstRow.nd rfl (Or.inl rfl) (pe_callT (k := 1) (i := 2) (P := P) (w := w) (K := K) (mg := mg) (base := base) rfl rfl rfl rfl rfl hr1 rfl (Or.inl rfl) (pa_cons (pv 7) (pa_cons (pv 8) pa_nil))))
          (pss_one (ps_if (pt_cmp (pc_dnotin hu (pv 9) (pv 4))) (pss_cons (ps_dput hu (pv 4) (pv 9) (pe_tup (pa_cons (pv 7) (pa_cons (pv 8) pa_nil))) rfl) (pss_one (ps_expr (pe_bm PySem.F.plainAttrs_list PySem.F.slot_list_append PySem.F.type_list_append mt_append (pv 5) (pa_cons (pv 9) pa_nil))))) pss_nil))))
        (pss_one (ps_aug (i := 6) scFirstRow.nd rfl (Or.inl rfl) pe_int ip_add))))))
      (pss_one (ps_ret pe_non))))), ?_⟩
    refine fun d hd => ⟨_, rfl, a, k0, rfl, keep1 ha hd, upd_same, ?_⟩
    rw [upd_upd]
    refine ⟨_, rfl, by show 1 ≤ sizeLine; decide, fun l hl => ?_⟩
    have sH := (same_new (o := .dT [(k0, V.non)]) hd).trans (same_new (o := .lst [.ref a]) hl)
    have ed := keep1 (o := .lst [.ref a]) (upd_same (a := d) (H := H) (o := .dT [(k0, V.non)])) hl
    have el := upd_same (a := l) (H := upd H d (.dT [(k0, V.non)])) (o := .lst [.ref a])
    have fl : ∀ b o, H b = some o → b ≠ l := fun b o e => ne_of_none (keep1 (o := .dT [(k0, V.non)]) e hd) hl
    have fd' : ∀ b o, H b = some o → b ≠ d := fun b o e => ne_of_none e hd
    generalize upd (upd H d (.dT [(k0, V.non)])) l (.lst [.ref a]) = H1 at sH el ed ⊢
    clear hd hl
    have nld : l ≠ d := ne_of el ed (by intro z; cases z)
    have b0 : FRow H1 H1 l d [⟨k0, [], a, .non⟩] := ⟨fun _ _ _ _ e => e, el, ed, ⟨by simp, fun i e ei => by
      cases i with
      | zero =>
        have : e = ⟨k0, [], a, .non⟩ := (Option.some.inj ei).symm
        subst this
        exact ⟨sH _ _ ha, .inl ⟨rfl, rfl, rfl⟩⟩
      | succ n => cases ei⟩⟩
    have fin : ∀ H', Ks l d H1 H' → Same H H' := fun H' ks b o e => ks _ _ (fl _ _ e) (fd' _ _ e) (sH _ _ e)
    refine while_by (fun σ H' => ∃ (n : Nat) (v7 v8 v9 : Option V) (E : List Cm), σ = [some (.str x), some (.ref a), some (.ref fs), some (.ref fw), some (.ref d), some (.ref l), some (.int (n : Int)), v7, v8, v9] ∧ FRow H1 H' l d E ∧ n ≤ E.length ∧ (∀ e ∈ E, e.key ∈ D) ∧ Bfs x.cps.toList step k0 (cameL E) n [] ∧ ∀ (i : Nat) (e : Cm), i < n → E[i]? = some e → W e.key = false) (fun σ _ => atF σ)
      ⟨0, none, none, none, _, rfl, b0, Nat.zero_le _, fun e he => by rw [List.mem_singleton.mp he]; exact hk0, bfs_start, fun i e hi => absurd hi (Nat.not_lt_zero _)⟩ (fun σ H2 h => ?_) ?mono
    case mono =>
      rintro σ H Q Q' m ⟨a1, a2, a3, a4, a5, a6, a7, a8, a9, a10, a11, a12, a13, a14, q⟩
      exact ⟨a1, a2, a3, a4, a5, a6, a7, a8, a9, a10, a11, a12, a13, a14, m _ _ q⟩
    obtain ⟨n, v7, v8, v9, E, rfl, S2, hn, hD, hB2, hno⟩ := h
    have few : ∀ {E' : List Cm} {H' : Hp}, FRow H1 H' l d E' → (∀ e ∈ E', e.key ∈ D) → E'.length ≤ 100000 := fun {E' H'} S hD => by
      have := nodup_len S.cm.nd (m := D) (fun k hk => by obtain ⟨e, he, rfl⟩ := List.mem_map.mp hk; exact hD e he)
      rw [List.length_map] at this
      omega
    refine ⟨_, rfl, _, rfl, l, _, rfl, .inl (SqL.of S2.el), _, _, rfl, rfl, _, rfl, ite2 (fun c => ?_) (fun c => ?_)⟩
    · have c1 : (n : Int) < ((cameR E).length : Int) := of_decide_eq_true c
      rw [List.length_map] at c1
      have hlt : n < E.length := by omega
      clear c c1
      have he : E[n]? = some E[n] := List.getElem?_eq_getElem hlt
      generalize E[n] = e at he
      have em := List.mem_of_getElem? he
      obtain ⟨ea, _⟩ := S2.cm.at_ n e he
      have hLn : (cameL E)[n]? = some (e.key, e.row) := by rw [List.getElem?_map, he]; rfl
      refine ⟨_, rfl, _, rfl, l, _, _, V.ref e.addr, rfl, rfl, SqL.of S2.el, atI_nat (by rw [List.getElem?_map, he]; rfl), ?_⟩
      refine ⟨fw, H, spWantK D W, rfl, hW, fin _ S2.ks, _, rfl, fin _ S2.ks, e.addr, e.key, rfl, ea, hD e em, fun H3 s3 => ?_⟩
      have S3 := S2.new s3
      refine ⟨_, rfl, ite2 (fun c => ?_) (fun c => ?_)⟩
      · have hz := S3.cm.len n e he
        have hfew := few S2 hD
        refine ⟨_, rfl, _, rfl, d, E, n, e, rfl, S3.ed, S3.cm, he, by omega, fun H4 s4 => ?_⟩
        refine kk (some e.row) _ ((fin _ S3.ks).trans s4) ?_
        refine hB2.found hLn (W := fun k => W k = true) c fun i y hi ey hw => ?_
        rw [List.getElem?_map] at ey
        obtain ⟨e', ee, rfl⟩ := Option.map_eq_some_iff.mp ey
        rw [hno i e' hi ee] at hw
        cases hw
      · have eW : W e.key = false := by simpa using c
        refine ⟨_, rfl, x, rfl, ?_⟩
        refine for_it walk_str (fun i σ H' => ∃ (v8 v9 : Option V) (E' : List Cm), σ = [some (.str x), some (.ref a), some (.ref fs), some (.ref fw), some (.ref d), some (.ref l), some (.int (n : Int)), some (.ref e.addr), v8, v9] ∧ FRow H1 H' l d E' ∧ (∀ e ∈ E', e.key ∈ D) ∧ Bfs x.cps.toList step k0 (cameL E') n (x.cps.toList.take i) ∧ E'[n]? = some e ∧ ∀ (i : Nat) (e : Cm), i < n → E'[i]? = some e → W e.key = false)
          ⟨v8, v9, E, rfl, S3, hD, by simpa using hB2, he, hno⟩ (fun _ _ _ _ _ => trivial) (fun i y σ H4 H5 hi h hy => ?_) (fun σ H4 h => ?_)
        · obtain ⟨rfl, c, hc, rfl⟩ := hy
          obtain ⟨v8, v9, E', rfl, S5, hD5, hB5, he5, hno5⟩ := h
          rw [← Array.getElem?_toList] at hc
          have hc1 : c ∈ x.cps.toList := List.mem_of_getElem? hc
          have em5 := List.mem_of_getElem? he5
          obtain ⟨ea5, _⟩ := S5.cm.at_ n e he5
          have hLn5 : (cameL E')[n]? = some (e.key, e.row) := by rw [List.getElem?_map, he5]; rfl
          have etake : x.cps.toList.take (i + 1) = x.cps.toList.take i ++ [c] := by rw [List.take_add_one, hc]; rfl
          have low : ∀ b ∈ x.cps.toList.take i, b < c := fun b hb => by
            obtain ⟨j, hj⟩ := List.mem_iff_getElem?.mp hb
            have hji : j < i := by
              have := (List.getElem?_eq_some_iff.mp hj).1
              rw [List.length_take] at this
              omega
            rw [List.getElem?_take_of_lt hji] at hj
            obtain ⟨q1, q2⟩ := List.getElem?_eq_some_iff.mp hj
            obtain ⟨q3, q4⟩ := List.getElem?_eq_some_iff.mp hc
            have := List.pairwise_iff_getElem.mp asc j i q1 q3 hji
            rw [q2, q4] at this
            exact this
          refine ⟨fs, H, spStepK D x.cps.toList step, rfl, hS, fin _ S5.ks, _, rfl, _, rfl, fin _ S5.ks, e.addr, e.key, c, rfl, ea5, hD5 e em5, hc1, fun r H6 s6 er => ?_⟩
          have S6 := S5.new s6
          have ck : step e.key c ∈ D := cl _ (hD5 e em5) c hc1
          generalize hk : step e.key c = k at er ck
          refine ⟨_, rfl, _, rfl, d, _, rfl, DGet.t (k := k) S6.ed er, _, rfl, ?_⟩
          by_cases hm : k ∈ E'.map Cm.key
          · rw [(came_has _ _).mpr hm]
            obtain ⟨z, hz, ez⟩ := List.mem_map.mp hm
            refine iteF ⟨_, _, E', rfl, S6, hD5, ?_, he5, hno5⟩
            rw [etake]
            exact hB5.old hLn5 low (z := (z.key, z.row)) (List.mem_map.mpr ⟨z, hz, rfl⟩) (ez.trans hk.symm)
          · have hnot := came_not hm
            rw [hnot]
            refine iteT ?_
            refine ⟨_, rfl, _, rfl, by show 2 ≤ sizeLine; decide, fun t ht => ?_⟩
            have S7 := S6.new (same_new (o := .tup [.ref e.addr, .str (sg c)]) ht)
            have er7 := same_new (o := .tup [.ref e.addr, .str (sg c)]) ht _ _ er
            have et7 := upd_same (a := t) (H := H6) (o := .tup [.ref e.addr, .str (sg c)])
            have hfew := few S7 hD5
            show ∃ _, _
            generalize upd H6 t (.tup [.ref e.addr, .str (sg c)]) = H7 at S7 er7 et7 ⊢
            refine ⟨_, rfl, _, rfl, d, upd H7 d (.dT (cameD (E' ++ [⟨k, e.row ++ [c], r, .ref t⟩]))), rfl, ?_, ?_⟩
            · have pk : putK (cameD E') k (.ref t) = cameD (E' ++ [⟨k, e.row ++ [c], r, .ref t⟩]) := by
                rw [putK_new _ (Option.isNone_iff_eq_none.mp (by simpa using hnot)), cameD_app]
              rw [← pk]
              exact DPut.t (k := k) S7.ed er7 (by rw [List.length_map, sizeLine_eq]; omega)
            have nr : r ≠ d := ne_of er7 S7.ed (by intro z; cases z)
            have nt : t ≠ d := ne_of et7 S7.ed (by intro z; cases z)
            have nrl : r ≠ l := ne_of er7 S7.el (by intro z; cases z)
            have ntl : t ≠ l := ne_of et7 S7.el (by intro z; cases z)
            have el8 : upd H7 d (.dT (cameD (E' ++ [⟨k, e.row ++ [c], r, .ref t⟩]))) l = some (.lst (cameR E')) := by rw [upd_ne nld]; exact S7.el
            refine ⟨_, rfl, .inl ⟨rfl, _, SqL.of el8⟩, _, rfl, l, _, _, rfl, rfl, el8, by rw [List.length_map, sizeLine_eq]; omega, ?_⟩
            have lt5 := (List.getElem?_eq_some_iff.mp he5).1
            refine ⟨_, _, E' ++ [⟨k, e.row ++ [c], r, .ref t⟩], rfl, S7.put hm he5 (fun b o n1 n2 q => by rw [upd_ne n1, upd_ne n2]; exact q) (by rw [upd_same, cameR_app]) (by rw [upd_ne nld.symm]; exact upd_same) (by rw [upd_ne nrl, upd_ne nr]; exact er7) (by rw [upd_ne ntl, upd_ne nt]; exact et7), fun e' he' => ?_, ?_, ?_, fun i' e' hi' ei' => ?_⟩
            · rcases List.mem_append.mp he' with q | q
              · exact hD5 e' q
              · rw [List.mem_singleton.mp q]; exact ck
            · rw [etake, cameL_app]
              have := hB5.new hLn5 low hc1
              rw [hk] at this
              exact this
            · rw [List.getElem?_append_left lt5]; exact he5
            · rw [List.getElem?_append_left (by omega)] at ei'
              exact hno5 i' e' hi' ei'
        · obtain ⟨v8, v9, E', rfl, S5, hD5, hB5, he5, hno5⟩ := h
          have lt5 := (List.getElem?_eq_some_iff.mp he5).1
          have hfew := few S5 hD5
          rw [show x.cps.size = x.cps.toList.length from (Array.length_toList ..).symm, List.take_length] at hB5
          refine ⟨_, rfl, _, _, rfl, rfl, ⟨n + 1, _, _, _, E', by rw [show ((n + 1 : Nat) : Int) = (n : Int) + 1 by omega]; rfl, S5, by omega, hD5, hB5.next fun c hc => hc, fun i e' hi ei => ?_⟩, ?_⟩
          · by_cases q : i = n
            · subst q
              rw [he5] at ei
              rw [← Option.some.inj ei]
              exact eW
            · exact hno5 i e' (by omega) ei
          · show 200000 - ((n : Int) + 1).toNat < 200000 - (n : Int).toNat
            omega
    · have hge : E.length ≤ n := by
        have : ¬ ((n : Int) < ((cameR E).length : Int)) := of_decide_eq_false (by simpa using c)
        rw [List.length_map] at this
        omega
      refine kk none _ (fin _ S2.ks) (hB2.none (by rw [List.length_map]; exact hge) (W := fun k => W k = true) fun y hy => ?_)
      obtain ⟨e, he, rfl⟩ := List.mem_map.mp hy
      obtain ⟨i, ei⟩ := List.mem_iff_getElem?.mp he
      have := (List.getElem?_eq_some_iff.mp ei).1
      rw [hno i e (by omega) ei]
      simp
end
end My
set_option pp.maxSteps 1500
namespace My
open PySem PySem.Spec PyProof.Rows L2 PySem.GX L2H NdefX LamX
/-! first_shown: two rules walked at once -/
abbrev pairsD (p1 p2 : Parts) : List (List Key) := p1.ms.flatMap fun a => p2.ms.map fun b => k2 a b
def stepP (p1 p2 : Parts) (k : List Key) (c : Nat) : List Key := match k with
  | [Sum.inr a, Sum.inr b] => k2 (ledL p1 a c) (ledL p2 b c)
  | k => k
def wantP (ft : Bool → Bool → Bool) (g1 g2 : List Str) (k : List Key) : Bool := match k with
  | [Sum.inr a, Sum.inr b] => ft (decide (a ∈ g1)) (decide (b ∈ g2))
  | _ => false
/-- whether a row of signs is good -/
def goodOf (p : Parts) (r : Row) : Bool := decide (walkL p (firstL p) r ∈ p.gs)
theorem run_pair (p1 p2 : Parts) : ∀ (r : Row) (a b : Str), runL (stepP p1 p2) (k2 a b) r = k2 (walkL p1 a r) (walkL p2 b r)
  | [], _, _ => rfl
  | c :: r, a, b => run_pair p1 p2 r (ledL p1 a c) (ledL p2 b c)
theorem pairsD_len (as bs : List Str) : (as.flatMap fun a => bs.map fun b => k2 a b).length = as.length * bs.length := by
  induction as with
  | nil => simp
  | cons m t ih =>
    rw [List.flatMap_cons, List.length_append, ih, List.length_map, List.length_cons, Nat.succ_mul]
    omega
theorem in_pairs {p1 p2 : Parts} {k : List Key} : k ∈ pairsD p1 p2 ↔ ∃ a ∈ p1.ms, ∃ b ∈ p2.ms, k = k2 a b := by
  rw [List.mem_flatMap]
  exact ⟨fun ⟨a, ha, h⟩ => let ⟨b, hb, e⟩ := List.mem_map.mp h; ⟨a, ha, b, hb, e.symm⟩, fun ⟨a, ha, b, hb, e⟩ => ⟨a, ha, List.mem_map.mpr ⟨b, hb, e.symm⟩⟩⟩
theorem PartsOk.few {p : Parts} (h : PartsOk p) : p.ms.length ≤ 300 := by
  have := h.mds
  unfold areMoodsL at this
  simp only [Bool.and_eq_true, decide_eq_true_eq] at this
  omega
theorem PartsOk.asc {p : Parts} (h : PartsOk p) : p.sg.cps.toList.Pairwise (· < ·) := by
  have := h.sgs
  rw [areS1] at this
  simp only [Bool.and_eq_true, decide_eq_true_eq] at this
  exact this.2
theorem RuleAt.ext {H H' : Hp} {C a : Addr} {t : Str} {p : Parts} (h : RuleAt H C a t p) (s : ExtN H H') : RuleAt H' C a t p := by
  obtain ⟨dx, M, G, D, e1, e2, e3, e4⟩ := h
  exact ⟨dx, M, G, D, s _ _ e1 (fun _ z => by cases z), s _ _ e2 (fun _ z => by cases z), s _ _ e3 (fun _ z => by cases z), s _ _ e4 (fun _ z => by cases z)⟩
theorem ext_same {H H1 H2 : Hp} (s : ExtN H H1) (s' : Same H1 H2) : ExtN H H2 := fun b o e n => s' _ _ (s b o e n)
theorem ext_trans {H H1 H2 : Hp} (s : ExtN H H1) (s' : ExtN H1 H2) : ExtN H H2 := fun b o e n => s' b o (s b o e n) n
theorem ext_of {H H1 : Hp} (s : Same H H1) : ExtN H H1 := fun b o e _ => s b o e
section
variable {P : Program} {w : World} {K : PySem.W.Frag} {mg : Str → Option Value} {base : Heap} {H0 H : Hp} {g CU : Addr} {O : HO} {F : NF} {p1 p2 : Parts}
theorem callT_step {a b : Addr} {t1 t2 : Str} (C : Clo P w K mg base 1 H g O F ["pair", "sign"] ["one", "other"] [.ref a, .ref b] (spStep CU)) (e : ExtN H0 H) (nn : NewC H0 (F.cl.map (·.2))) (hA : RuleAt H0 CU a t1 p1) (ok1 : PartsOk p1) (hB : RuleAt H0 CU b t2 p2) (ok2 : PartsOk p2) (es : p1.sg = p2.sg) :
    CallT P w K mg base 1 H g (spStepK (pairsD p1 p2) p1.sg.cps.toList (stepP p1 p2)) := by
  refine ⟨O, F, _, _, _, _, C, fun vs H' Q s q => ?_⟩
  obtain ⟨qa, k, x, rfl, eq, hk, hx, kk⟩ := q
  obtain ⟨m1, h1, m2, h2, rfl⟩ := in_pairs.mp hk
  have hE := nn.hide (ext_same e s)
  have C' := C.same s
  refine ⟨a, b, t1, t2, p1, p2, qa, m1, m2, x, rfl, rfl, hA.ext hE, ok1, hB.ext hE, ok2, ?_, h1, h2, hx, by rw [← es]; exact hx, fun r H2 s2 er no => ?_⟩
  · rw [hide_out (C'.clo.cel.out eq fun v z => cellX_tup z.symm)]
    exact eq
  · refine kk r _ (unhide_same s2) ?_
    rw [unhide_out fun m => by rw [no r m] at er; cases er]
    exact er
theorem callT_test {ft : Bool → Bool → Bool} {d1 d2 t : Addr} {g1 g2 : List Str} (C : Clo P w K mg base 2 H g O F ["pair"] ["good_one", "good_other", "test"] [.ref d1, .ref d2, .ref t] (spTest P w K mg base ft g1 g2)) (e : ExtN H0 H) (nn : NewC H0 (F.cl.map (·.2))) (n1 : d1 ∉ F.cl.map (·.2)) (n2 : d2 ∉ F.cl.map (·.2)) (h1 : TrueAt H d1 g1) (h2 : TrueAt H d2 g2) (it : IsTest P w K mg base H0 t ft) :
    CallT P w K mg base 2 H g (spWantK (pairsD p1 p2) (wantP ft g1 g2)) := by
  refine ⟨O, F, _, _, _, _, C, fun vs H' Q s q => ?_⟩
  obtain ⟨qa, k, rfl, eq, hk, kk⟩ := q
  obtain ⟨m1, _, m2, _, rfl⟩ := in_pairs.mp hk
  have hE := nn.hide (ext_same e s)
  have C' := C.same s
  refine ⟨d1, d2, t, qa, m1, m2, rfl, rfl, ?_, ?_, it.ext hE, ?_, fun H2 s2 no => kk _ (unhide_same s2)⟩
  · unfold TrueAt
    rw [hide_out n1]
    exact s _ _ h1
  · unfold TrueAt
    rw [hide_out n2]
    exact s _ _ h2
  · rw [hide_out (C'.clo.cel.out eq fun v z => cellX_tup z.symm)]
    exact eq
end
def spFirstSh (K : PySem.W.Frag) (P : Program) (w : World) (mg : Str → Option Value) (base : Heap) (T : List (Addr × Str)) (C : Addr) : Sp := fun vs H Q _ => ∃ (a b t : Addr) (t1 t2 : Str) (p1 p2 : Parts) (ft : Bool → Bool → Bool), vs = [.ref a, .ref b, .ref t] ∧ Tabs T H ∧ RuleAt H C a t1 p1 ∧ PartsOk p1 ∧ RuleAt H C b t2 p2 ∧ PartsOk p2 ∧ p1.sg = p2.sg ∧ IsTest P w K mg base H t ft ∧
  ∀ (o : Option Row) (H' : Hp), ExtN H H' → Tabs T H' → IsFirst p1.sg.cps.toList (fun r => ft (goodOf p1 r) (goodOf p2 r) = true) o → Q (rowV o) H'
section
variable {P : Program} {w : World} {K : PySem.W.Frag} {mg : Str → Option Value} {base : Heap}
theorem PartsOk.goods {p : Parts} (h : PartsOk p) : p.gs.length ≤ 300 := by
  have := h.gds
  unfold areGoodL at this
  rw [of_decide_eq_true this]
  exact Nat.le_trans (List.length_filter_le ..) h.few
theorem scFirstSh : FnScope ["one", "other", "test"] ["one", "other", "test"] (defScope sFirstSh) := ⟨rfl, rfl, rfl, by decide +kernel, rfl, by decide +kernel, by decide +kernel⟩
theorem ok_firstSh {f C : Addr} {fd : FuncData} {T : List (Addr × Str)} (F : Fun K "first_shown" "first_shown" sFirstSh f fd) (R : RuC K C) (pG : PrF P w K mg base C "signs" "letters") (hFR : Hv P w K mg base 3 "first_row" ["signs", "start", "step", "wanted"] (spFirstRow P w K mg base)) (hFM : Hv P w K mg base 3 "first_moods" ["one", "other"] (spFirstMo C)) (hPS : Hv P w K mg base 1 "pair_step" ["one", "other"] (spPairStep K P w mg base T C)) (hPT : Hv P w K mg base 3 "pair_test" ["one", "other", "test"] (spPairTest K P w mg base T C)) :
    FnOk P w K mg base CX0 4 f fd ["one", "other", "test"] (spFirstSh K P w mg base T C) := by
  obtain ⟨pp, gp, fdp, PP, GP, bP⟩ := pG
  refine F.ok scFirstSh (fun vs H Q E h => ?_) (fun cdv A outer s H vs Q E hr h => ?_)
  · obtain ⟨a, b, t, t1, t2, p1, p2, ft, rfl, _⟩ := h
    rfl
  · obtain ⟨a, b, t, t1, t2, p1, p2, ft, rfl, hT, hA, ok1, hB, ok2, es, hI, k⟩ := h
    have hr1 := hr.mono (by decide : 1 ≤ 3)
    have hr2 := hr.mono (by decide : 2 ≤ 3)
    refine ⟨_, pss_one (ps_ret (pe_cl hFR hr rfl pass0 (pa_cons (pe_prop (pv 0) R.cl PP GP hr2 bP .nil pass0 (by rfl)) (pa_cons (pe_cl hFM hr rfl pass0 (pa_cons (pv 0) (pa_cons (pv 1) pa_nil))) (pa_cons (pe_cl hPS hr1 rfl pass0 (pa_cons (pv 0) (pa_cons (pv 1) pa_nil))) (pa_cons (pe_cl hPT hr rfl pass0 (pa_cons (pv 0) (pa_cons (pv 1) (pa_cons (pv 2) pa_nil)))) pa_nil)))))), ?_⟩
    obtain ⟨dx, M, G, D, e1, e2, e3, e4⟩ := id hA
    refine ⟨_, rfl, a, dx, _, rfl, e1, a, dx, _, .str p1.sg, rfl, e1, rfl, _, rfl, _, rfl, a, b, t1, t2, p1, p2, rfl, hA, ok1, hB, ok2, fun r H1 s1 hr' er => ?_⟩
    refine ⟨_, rfl, _, rfl, a, b, rfl, hT.ext s1, fun g O F' H2 eN T2 nn clo => ?_⟩
    have x2 := ext_trans (ext_of s1) eN
    have hA2 := hA.ext x2
    have hB2 := hB.ext x2
    refine ⟨_, rfl, _, rfl, _, rfl, a, b, t, t1, t2, p1, p2, ft, rfl, T2, hA2, hB2, by have := ok1.goods; omega, by have := ok2.goods; omega, hI.ext x2, fun g' d1 d2 O' F'' H3 eN3 T3 nn3 n1 n2 tr1 tr2 it clo' => ?_⟩
    have cS := callT_step (clo.ext eN3) (ext_trans eN eN3) nn (hA.same s1) ok1 (hB.same s1) ok2 es
    have cT := callT_test (p1 := p1) (p2 := p2) clo' eN3 nn3 n1 n2 tr1 tr2 (hI.ext x2)
    obtain ⟨ms, em⟩ := ok1.first
    obtain ⟨ms', em'⟩ := ok2.first
    have m1 : firstL p1 ∈ p1.ms := by rw [em]; simp
    have m2 : firstL p2 ∈ p2.ms := by rw [em']; simp
    refine ⟨p1.sg, r, g, g', k2 (firstL p1) (firstL p2), pairsD p1 p2, stepP p1 p2, wantP ft p1.gs p2.gs, rfl, eN3 _ _ (eN _ _ er fun _ z => by cases z) (fun _ z => by cases z), in_pairs.mpr ⟨_, m1, _, m2, rfl⟩, ?_, fun kx hk c hc => ?_, ok1.asc, cS, cT, fun o H4 s4 ho => ?_⟩
    · rw [pairsD_len]
      have : p1.ms.length * p2.ms.length ≤ 300 * 300 := Nat.mul_le_mul ok1.few ok2.few
      omega
    · obtain ⟨x, hx, y, hy, rfl⟩ := in_pairs.mp hk
      exact in_pairs.mpr ⟨_, (ok1.goal hx hc).1, _, (ok2.goal hy (by rw [← es]; exact hc)).1, rfl⟩
    · refine k o H4 (ext_same (ext_trans x2 eN3) s4) (T3.ext s4) (ho.imp fun r _ => ?_)
      rw [run_pair]
      exact Iff.rfl
end
end My
namespace L2
open PySem PySem.Spec PyProof.Rows PySem.GX
end L2
namespace L2
open PySem PySem.Spec PyProof.Rows PySem.GX
section
variable {X : Cx}
/-- name = {k: v for ..} on one line, the name a local -/
theorem ps_setDc {i : Nat} {y : Str} {py : Pos} {kx vx tg iter : Expr} {ifs : List Expr} {scope : Scope} {own : List (Str × Nat)} {pos spos : Pos} {wi : TI} {g : TG} {tt : TT} {tk tv : TE} (hc : X.calm = true) (hN : X.N.Nodup) (hy : X.N[i]? = some y) (hyl : X.env.scope.names.lookup y = some .local)
    (hsw : swapsWith (.DictComp kx vx [⟨tg, iter, ifs, 0⟩] scope pos) (some (.Name y py)) spos.line X.env = pure true) (hi : PI X tg iter wi) (ok : BlkOk X.N X.env.scope scope own)
    (hg : ∀ (s : Shared) (H : Hp) (C : Addr) (cl : List (Str × Addr)) (fp : List Addr), PG (X.blk s H scope (compEnvC scope cl C X.env) fp) tg g) (ht : ∀ (s : Shared) (H : Hp) (C : Addr) (cl : List (Str × Addr)) (fp : List Addr), PTs (X.blk s H scope (compEnvC scope cl C X.env) fp) ifs tt)
    (hk : ∀ (s : Shared) (H : Hp) (C : Addr) (cl : List (Str × Addr)) (fp : List Addr), PE (X.blk s H scope (compEnvC scope cl C X.env) fp) kx tk)
    (he : ∀ (s : Shared) (H : Hp) (C : Addr) (cl : List (Str × Addr)) (fp : List Addr), PE (X.blk s H scope (compEnvC scope cl C X.env) fp) vx tv) (hs : ∀ x, foldedSetIterable iter X.env x = pure x := by intro _; rfl) :
    PS X (.Assign [.Name y py] (.DictComp kx vx [⟨tg, iter, ifs, 0⟩] scope pos) spos) (tAsg (tDc wi g tt tk tv (own.map (·.2))) (gName i)) := by
  refine ⟨fun pins s σ H D I h => ?_⟩
  rw [exec_Assign_Name_used _ _ _ _ hsw]
  refine wpAny_bind (wpAny_standAt (wpAny_bind ?_))
  show wpAny _ X.A (do let _ ← comprehension (.DictComp kx vx [⟨tg, iter, ifs, 0⟩] scope pos) scope X.env (firstIterPos [⟨tg, iter, ifs, 0⟩] pos) newDict false (eval iter X.env) (some (assign (.Name y py) X.env))) _ _ s
  have h : tDc wi g tt tk tv (own.map (·.2)) σ H (fun x H1 => gName i x σ H1 D.nx) := h
  refine wpAny_bind (thn (dc_core (Qf := fun _ s' => SP X pins D .next s') hc hN I hi ok hg ht hk he hs h fun L C s' m H' I' q hn f => ?_) fun _ s' hq => wpAny_pure (wpAny_pure hq))
  show wpAny _ _ (assign (.Name y py) X.env (.ref L)) _ _ _
  refine wpAny_assign_Name (store_ok2 (v := V.ref L) I' hN hy (.inl hyl) rfl (fun s2 I2 ⟨a, sb, ha⟩ => ?_) (.inr hyl))
  obtain ⟨f0, f1, f2, f3, f4, f5⟩ := f
  have haC : C ≠ a := by
    rcases ha with z | z
    · rw [z]; exact f1
    · exact fun e => f4 y a z e.symm
  refine ⟨m, hn.sameBut sb haC, fun h3 sb3 => ?_⟩
  exact ⟨_, H', I2.turned (t' := s2.toks) (fun b o hb e => (sb3.2 b hb).trans e) f0 f1 f3 f4 f5, q⟩
theorem sw_trueD {kx vx : Expr} {gs : List Comprehension} {scope : Scope} {pos py : Pos} {y : Str} {l : Nat} {env : Env} (hk : env.scope.kind = .function) (hy : env.scope.names.lookup y = some .local) (hl : (py.line == pos.line) = true)
    (ha : (scope.names.any fun (n, k) => n == y && (k == .local || k == .cell)) = false) : swapsWith (.DictComp kx vx gs scope pos) (some (.Name y py)) l env = pure true := by
  have ky : env.kindOf y = some .local := hy
  have hb : env.blockKind = .function := by unfold Env.blockKind; rw [hk]; rfl
  unfold swapsWith
  simp only [hb, ky, ha, Expr.pos, hl]
  rfl
end
end L2
/-! numbers as sets: any of numbers, x[i] |= e, bits -/
namespace L2
open PySem PySem.Spec PyProof.Rows
section
variable {X : Cx}
/-- any of a list of numbers -/
theorem cr_sumK {K : PySem.W.Frag} (h : X.K = K) (hc : X.calm = true) : CallR X (.builtin "sum") (rSum K) := by subst h; exact cr_sum hc
end
/-! bits -/
end L2
set_option pp.maxSteps 1500
namespace L2
open PySem PySem.Spec PyProof.Rows
/-- d[k] of an augmented assignment -/
theorem get_dictD {X : Cx} (hu : X.A.units + 1 < cLine) : PGet X (fun o i H Q => ∃ a v, o = .ref a ∧ DGet H a i (some v) ∧ Q v H) := by
  intro pins s σ H o i ov iv Q I ro ri h
  obtain ⟨a, v, eo, g, q⟩ := h
  subst eo
  cases (show ov = Value.ref a from ro)
  exact d_getItem hu I g ri fun w' s' I' r => ⟨v, H, I', r, q⟩
end L2
namespace My
open PySem PySem.Spec PyProof.Rows L2 PySem.GX L2H LamX
/-! many: good rows counted by moods -/
abbrev cntD (ms : List Str) (c : Str → Nat) : List (Key × V) := ms.map fun m => ((Sum.inr m : Key), V.int ((c m : Nat) : Int))
theorem cnt_val {c : Str → Nat} {m : Str} : ∀ {ms : List Str}, m ∈ ms → valV (cntD ms c) (Sum.inr m) = some (.int ((c m : Nat) : Int))
  | [], h => by cases h
  | a :: t, h => by
    show valV (((Sum.inr a : Key), V.int ((c a : Nat) : Int)) :: cntD t c) _ = _
    by_cases e : a = m
    · subst e; exact valV_pos rfl
    · rw [valV_neg fun z => e (Sum.inr.inj z)]
      rcases List.mem_cons.mp h with q | q
      · exact absurd q.symm e
      · exact cnt_val q
theorem cnt_put {c : Str → Nat} {m : Str} {v : Nat} {ms : List Str} (h : m ∈ ms) : putK (cntD ms c) (Sum.inr m) (.int (v : Int)) = cntD ms fun x => if x = m then v else c x := by
  unfold putK
  have ha : ((cntD ms c).any fun kv => decide (kv.1 = (Sum.inr m : Key))) = true := List.any_eq_true.mpr ⟨_, List.mem_map.mpr ⟨m, h, rfl⟩, decide_eq_true rfl⟩
  rw [if_pos ha]
  show List.map _ (List.map _ ms) = _
  rw [List.map_map]
  refine List.map_congr_left fun x _ => ?_
  show (if (Sum.inr x : Key) = Sum.inr m then ((Sum.inr x : Key), V.int (v : Int)) else (Sum.inr x, V.int ((c x : Nat) : Int))) = _
  by_cases e : x = m
  · rw [if_pos (by rw [e])]
    show _ = ((Sum.inr x : Key), V.int (((if x = m then v else c x : Nat)) : Int))
    rw [if_pos e]
  · rw [if_neg (fun z => e (Sum.inr.inj z))]
    show _ = ((Sum.inr x : Key), V.int (((if x = m then v else c x : Nat)) : Int))
    rw [if_neg e]
theorem sg_asc {p : Parts} (h : PartsOk p) : p.sg.cps.toList.Pairwise (· < ·) := by
  have := h.sgs
  rw [areS1] at this
  simp only [Bool.and_eq_true, decide_eq_true_eq] at this
  exact this.2
/-- moods and signs, in order -/
def prsL (p : Parts) : List (Str × Nat) := p.ms.flatMap fun t => p.sg.cps.toList.map fun c => (t, c)
theorem prs_in {p : Parts} {tc : Str × Nat} : tc ∈ prsL p ↔ tc.1 ∈ p.ms ∧ tc.2 ∈ p.sg.cps.toList := by
  unfold prsL
  rw [List.mem_flatMap]
  constructor
  · rintro ⟨t, ht, h⟩
    obtain ⟨c, hc, rfl⟩ := List.mem_map.mp h
    exact ⟨ht, hc⟩
  · rintro ⟨h1, h2⟩
    exact ⟨tc.1, h1, List.mem_map.mpr ⟨tc.2, h2, rfl⟩⟩
theorem prs_nd {p : Parts} (ok : PartsOk p) : (prsL p).Nodup := by
  have n1 := moods_nd ok.mds
  have n2 : p.sg.cps.toList.Nodup := (sg_asc ok).imp fun h e => by omega
  unfold prsL
  generalize p.ms = ms at n1
  induction ms with
  | nil => exact List.nodup_nil
  | cons a t ih =>
    rw [List.nodup_cons] at n1
    rw [List.flatMap_cons, List.nodup_append]
    refine ⟨?_, ih n1.2, ?_⟩
    · exact List.pairwise_map.mpr (n2.imp fun ne e => ne (by injection e))
    · intro x hx y hy e
      obtain ⟨c, _, rfl⟩ := List.mem_map.mp hx
      obtain ⟨t', ht', h⟩ := List.mem_flatMap.mp hy
      obtain ⟨c', _, rfl⟩ := List.mem_map.mp h
      injection e with e1 _
      exact n1.1 (e1 ▸ ht')
theorem val_nd {κ : Type} [DecidableEq κ] {k : κ} {v : V} : ∀ {kvs : List (κ × V)}, (kvs.map (·.1)).Nodup → (k, v) ∈ kvs → valV kvs k = some v
  | [], _, h => by cases h
  | a :: t, nd, h => by
    rw [List.map_cons, List.nodup_cons] at nd
    rcases List.mem_cons.mp h with q | q
    · subst q; exact valV_pos rfl
    · rw [valV_neg fun z => nd.1 (z ▸ List.mem_map.mpr ⟨_, q, rfl⟩)]
      exact val_nd nd.2 q
theorem kT_inj {a b : Str} {x y : Nat} (h : kT a x = kT b y) : a = b ∧ x = y := by
  injection h with h1 h2
  injection h2 with h2 _
  exact ⟨Sum.inr.inj h1, sg_inj (Sum.inr.inj h2)⟩
/-- the dict of the goals, in its order -/
theorem goals_eq {p : Parts} (ok : PartsOk p) : goalsD p.rs = (prsL p).map fun tc => (kT tc.1 tc.2, V.str (ledL p tc.1 tc.2)) := by
  have hg := ok.gls
  unfold goalsOkL at hg
  rw [Bool.and_eq_true_iff] at hg
  have ep : p.rs.map (List.take 2) = pairsL p.sg p.ms := of_decide_eq_true hg.1
  have ek : (p.rs.map fun r : List Str => ([Sum.inr (r.getD 0 Str.empty), Sum.inr (r.getD 1 Str.empty)] : List Key)) = (prsL p).map fun tc => kT tc.1 tc.2 := by
    have e1 : (p.rs.map fun r : List Str => ([Sum.inr (r.getD 0 Str.empty), Sum.inr (r.getD 1 Str.empty)] : List Key)) = (p.rs.map (List.take 2)).map fun r : List Str => ([Sum.inr (r.getD 0 Str.empty), Sum.inr (r.getD 1 Str.empty)] : List Key) := by
      rw [List.map_map]
      refine List.map_congr_left fun r _ => ?_
      match r with
      | [] => rfl
      | [a] => rfl
      | a :: b :: t => rfl
    rw [e1, ep]
    unfold pairsL prsL
    rw [List.map_flatMap, List.map_flatMap]
    refine congrArg (fun f => List.flatMap f p.ms) (funext fun t => ?_)
    rw [List.map_map, List.map_map]
    rfl
  have nd : (p.rs.map fun r : List Str => ([Sum.inr (r.getD 0 Str.empty), Sum.inr (r.getD 1 Str.empty)] : List Key)).Nodup := by
    rw [ek]
    refine List.pairwise_map.mpr ((prs_nd ok).imp fun ne e => ne ?_)
    obtain ⟨h1, h2⟩ := kT_inj e
    exact Prod.ext h1 h2
  have eg : goalsD p.rs = p.rs.map fun r : List Str => (([Sum.inr (r.getD 0 Str.empty), Sum.inr (r.getD 1 Str.empty)] : List Key), V.str (r.getD 2 Str.empty)) := dOf_nodup _ _ _ nd
  have ekk : (goalsD p.rs).map (·.1) = (prsL p).map fun tc => kT tc.1 tc.2 := by
    rw [eg, List.map_map, ← ek]
    rfl
  have nk : ((goalsD p.rs).map (·.1)).Nodup := by rw [ekk, ← ek]; exact nd
  refine List.ext_getElem? fun i => ?_
  have hi := congrArg (fun l : List (List Key) => l[i]?) ekk
  simp only [List.getElem?_map] at hi
  rw [List.getElem?_map]
  cases h1 : (goalsD p.rs)[i]? with
  | none =>
    rw [h1] at hi
    cases h2 : (prsL p)[i]? with
    | none => rfl
    | some _ => rw [h2] at hi; cases hi
  | some z =>
    rw [h1] at hi
    cases h2 : (prsL p)[i]? with
    | none => rw [h2] at hi; cases hi
    | some tc =>
      rw [h2] at hi
      have ez : z.1 = kT tc.1 tc.2 := Option.some.inj hi
      obtain ⟨k, v⟩ := z
      subst ez
      have hv := val_nd nk (List.mem_of_getElem? h1)
      obtain ⟨h3, h4⟩ := prs_in.mp (List.mem_of_getElem? h2)
      rw [(ok.goal h3 h4).2] at hv
      have : V.str (ledL p tc.1 tc.2) = v := Option.some.inj hv
      show some _ = some _
      rw [← this]
def addC (p : Parts) (c : Str → Nat) (acc : Str → Nat) (tc : Str × Nat) : Str → Nat := fun x => if x = ledL p tc.1 tc.2 then acc x + c tc.1 else acc x
def stepC (p : Parts) (c : Str → Nat) : Str → Nat := (prsL p).foldl (addC p c) fun _ => 0
/-- rows of n signs that lead to a mood -/
def cntC (p : Parts) : Nat → Str → Nat
  | 0 => fun x => if x = firstL p then 1 else 0
  | n + 1 => stepC p (cntC p n)
def manyN (p : Parts) (n : Nat) : Nat := (p.gs.map (cntC p n)).sum
theorem ok_subG {ms gs : List Str} (h : areGoodL gs ms = true) : gs.Sublist ms := by
  unfold areGoodL at h
  have e := of_decide_eq_true h
  rw [e]
  exact List.filter_sublist
def spMany (C : Addr) : Sp := fun vs H Q _ => ∃ (a : Addr) (t : Str) (p : Parts) (n : Nat), vs = [.ref a, .int (n : Int)] ∧ RuleAt H C a t p ∧ PartsOk p ∧ n ≤ 1000 ∧ ∀ H', Same H H' → Q (.int ((manyN p n : Nat) : Int)) H'
def spCkR1 (CU : Addr) : Sp := fun vs H Q _ => ∃ (r : Addr) (t : Str) (p : Parts), vs = [.ref r] ∧ RuleAt H CU r t p ∧ ∀ H', Same H H' → Q .non H'
section
variable {P : Program} {w : World} {K : PySem.W.Frag} {mg : Str → Option Value} {base : Heap}
abbrev nMany : List Str := ["rule", "number", "counts", "length", "longer", "mood", "sign"]
theorem scMany : FnScope nMany ["rule", "number"] (defScope sMany) := ⟨rfl, rfl, rfl, by decide +kernel, rfl, by decide +kernel, by decide +kernel⟩
theorem ok_many {f C : Addr} {fd : FuncData} {tM : Tok} (F : Fun K "many" "many" sMany f fd) (T : RuC K C) (hC : Hv P w K mg base 1 "check_rule" ["value"] (spCkR1 C)) (hIb : Hv P w K mg base 1 "in_bounds" ["value", "low", "high"] (spInB K)) (gM : mg "MOST_ROW" = some (.int 1000 tM))
    (pM : PrF P w K mg base C "moods" "words") (pG : PrF P w K mg base C "good" "chosen") (hRa : mg "range" = none) (hS : mg "sum" = none) : FnOk P w K mg base CX0 3 f fd ["rule", "number"] (spMany C) := by
  obtain ⟨pm, gm, fdm, PM, GM, bM⟩ := pM
  obtain ⟨pg, gg, fdg, PG, GG, bG⟩ := pG
  refine F.ok scMany (fun vs H Q E h => ?_) (fun cdv A outer s H vs Q E hr h => ?_)
  · obtain ⟨a, t, p, n, rfl, _⟩ := h
    rfl
  · obtain ⟨a, t, p, n, rfl, hA, ok, hn, k⟩ := h
    have hu := hu_of hr
    have hr1 := hr.mono (by decide : 1 ≤ 2)
    refine ⟨_, pss_cons (ps_expr (pe_cl hC hr1 rfl pass0 (pa_cons (pv 0) pa_nil)))
      (pss_cons (ps_if (pt_not (pt_val (pe_cl hIb hr1 rfl pass0 (pa_cons (pv 1) (pa_cons pe_int (pa_cons (pe_glob (v := .int 1000) rfl gM ⟨_, rfl⟩) pa_nil)))))) (pss_one ps_never) pss_nil)
      (pss_cons (ps_set (i := 2) scMany.nd rfl (Or.inr rfl) (pe_dc (own := [("mood", 5)]) (g := gName 5) (tt := tYes) rfl scMany.nd (pi_tup (pe_prop (pv 0) T.cl PM GM hr bM .nil pass0 (by rfl))) (blkOk_by (N := nMany) (sc := defScope sMany) (by decide +kernel)) (fun _ _ _ _ _ => pg_name (i := 5) scMany.nd rfl (Or.inl rfl)) (fun _ _ _ _ _ => pts_nil) (fun _ _ _ _ _ => pv 5) (fun _ _ _ _ _ => pe_int)))
      (pss_cons (ps_dput hu (pv 2) (pe_ix ix_tup (pe_prop (pv 0) T.cl PM GM hr bM .nil pass0 (by rfl)) pe_int (fun _ _ => rfl)) pe_int rfl)
      (pss_cons (ps_for PassesOwn.never rfl (pi_range1 rfl hRa (pa_cons (pv 1) pa_nil)) (pg_name (i := 3) scMany.nd rfl (Or.inl rfl))
        (pss_cons (ps_setDc (i := 4) (own := [("mood", 5)]) (g := gName 5) (tt := tYes) (by rfl) scMany.nd rfl rfl (sw_trueD rfl rfl rfl (by decide +kernel)) (pi_tup (pe_prop (pv 0) T.cl PM GM hr bM .nil pass0 (by rfl))) (blkOk_by (N := nMany) (sc := defScope sMany) (by decide +kernel)) (fun _ _ _ _ _ => pg_name (i := 5) scMany.nd rfl (Or.inl rfl)) (fun _ _ _ _ _ => pts_nil) (fun _ _ _ _ _ => pv 5) (fun _ _ _ _ _ => pe_int))
        (pss_cons (ps_lock (ps_for PassesOwn.never rfl (pi_keys (pe_fld (pv 0) rfl)) (pg_tup (by rfl) (pgs_cons (pg_name (i := 5) scMany.nd rfl (Or.inl rfl)) (pgs_cons (pg_name (i := 6) scMany.nd rfl (Or.inl rfl)) pgs_nil)))
          (pss_one (ps_augS (pv 4) (pe_dget hu (pe_fld (pv 0) rfl) (pe_tup (pa_cons (pv 5) (pa_cons (pv 6) pa_nil))) (fun _ _ => rfl)) (get_dictD hu) (pe_dget hu (pv 2) (pv 5) (fun _ _ => rfl)) ip_add (set_dict hu)))))
        (pss_one (ps_set (i := 2) scMany.nd rfl (Or.inr rfl) (pv 4))))))
      (pss_one (ps_ret (pe_callB (cr_sumK (K := K) rfl rfl) (by rfl) hS (by decide +kernel) (pa_cons (pe_lc (own := [("mood", 5)]) (g := gName 5) (tt := tYes) rfl scMany.nd (pi_tup (pe_prop (pv 0) T.cl PG GG hr bG .nil pass0 (by rfl))) (blkOk_by (N := nMany) (sc := defScope sMany) (by decide +kernel)) (fun _ _ _ _ _ => pg_name (i := 5) scMany.nd rfl (Or.inl rfl)) (fun _ _ _ _ _ => pts_nil) (fun _ _ _ _ _ => pe_dget hu (pv 2) (pv 5) (fun _ _ => rfl))) pa_nil)))))))), ?_⟩
    refine ⟨_, rfl, a, t, p, rfl, hA, fun H1 s1 => ?_⟩
    refine ⟨_, rfl, .int n, .int n, 0, 1000, rfl, .fl (.int _), _, rfl, ?_⟩
    have hb : inb (.int (n : Int)) 0 1000 = true := by
      show (decide ((0 : Int) ≤ (n : Int)) && decide ((n : Int) ≤ 1000)) = true
      rw [decide_eq_true (by omega), decide_eq_true (by omega)]; rfl
    rw [hb]
    refine iteF ?_
    have nd := moods_nd ok.mds
    have m300 : p.ms.length ≤ 300 := by
      have := ok.mds
      unfold areMoodsL at this
      simp only [Bool.and_eq_true, decide_eq_true_eq] at this
      omega
    have hz0 : ∀ (c0 : Str → Nat), dOf (fun m : Str => (Sum.inr m : Key)) (fun m => V.int ((c0 m : Nat) : Int)) p.ms = cntD p.ms c0 := fun c0 => dOf_nodup _ _ _ (List.pairwise_map.mpr (nd.imp fun ne e => ne (Sum.inr.inj e)))
    obtain ⟨dx, M, G, D, e1, e2, e3, e4⟩ := id hA
    have s0 := s1
    have wk : ∀ (A' : Addr) (xs : List Str), Walk (Itt K A') xs.length (fun H => SqT K H A' (xs.map V.str)) (YAt (xs.map V.str)) := fun A' xs => walkT xs V.str
    have e1a := s1 _ _ e1
    have e2a := s1 _ _ e2
    refine ⟨_, rfl, a, dx, _, rfl, e1a, a, dx, _, .ref M, rfl, e1a, rfl, M, rfl, ⟨_, SqT.of e2a⟩, fun d hd => ?_⟩
    refine dcG p.ms (fun m : Str => (Sum.inr m : Key)) (fun _ => V.int ((0 : Nat) : Int)) (wk M p.ms) (by omega) hd (fun i H x H' h => by rw [h.1]; exact Same.refl _) (fun H' s => SqT.of (s _ _ e2a)) (fun i m x H' H'' k1 k0 hx s3 hy k2 => ?_) (fun H2 s2 ed => ?_)
    · obtain ⟨rfl, hy⟩ := hy
      obtain rfl := map_get hx hy
      exact ⟨rfl, _, rfl, k2 _ (Same.refl _)⟩
    rw [hz0 (fun _ => 0)] at ed
    have s02 := s1.trans s2
    obtain ⟨ms', emf⟩ : ∃ ms', p.ms = firstL p :: ms' := by
      have := ok.mds
      unfold areMoodsL at this
      simp only [Bool.and_eq_true, decide_eq_true_eq] at this
      unfold firstL
      cases hms : p.ms with
      | nil => rw [hms] at this; exact absurd this.1.1.1 (by simp)
      | cons m r => exact ⟨r, rfl⟩
    have hfm : firstL p ∈ p.ms := by rw [emf]; exact List.mem_cons_self ..
    have hf0 : (p.ms.map V.str)[0]? = some (.str (firstL p)) := by rw [emf]; rfl
    have lz : ∀ c0 : Str → Nat, (cntD p.ms c0).length < sizeLine := fun c0 => by rw [List.length_map, sizeLine_eq]; omega
    refine ⟨_, rfl, _, rfl, a, dx, _, rfl, s02 _ _ e1, a, dx, _, .ref M, rfl, s02 _ _ e1, rfl, M, _, _, V.str (firstL p), rfl, rfl, SqT.of (s02 _ _ e2), atI_nat (j := 0) hf0, d, _, rfl, DPut.k (k := Sum.inr (firstL p)) ed (lz _), ?_⟩
    have nd0 : ∀ b o, H b = some o → b ≠ d := fun b o e => ne_of_none (s1 _ _ e) hd
    have s3 : Same H (upd H2 d (.dK (putK (cntD p.ms fun _ => 0) (Sum.inr (firstL p)) (.int 1)))) := fun b o e => by rw [upd_ne (nd0 b o e)]; exact s02 _ _ e
    have ed3 : upd H2 d (.dK (putK (cntD p.ms fun _ => 0) (Sum.inr (firstL p)) (.int 1))) d = some (.dK (cntD p.ms (cntC p 0))) := by
      rw [upd_same]
      have := cnt_put (c := fun _ => 0) (v := 1) hfm
      exact congrArg (fun z => some (HO.dK z)) this
    generalize upd H2 d (.dK (putK (cntD p.ms fun _ => 0) (Sum.inr (firstL p)) (.int 1))) = H3 at s3 ed3 ⊢
    clear s02 s2 ed hd e1a e2a s1 s0 nd0
    -- each length
    refine ⟨_, rfl, (n : Int), rfl, by omega, by omega, ?_⟩
    rw [Int.toNat_natCast]
    refine for_range (n := n) (fun i σ H' => ∃ (d : Addr) (v3 v4 v5 v6 : Option V), σ = [some (.ref a), some (.int (n : Int)), some (.ref d), v3, v4, v5, v6] ∧ Same H H' ∧ H' d = some (.dK (cntD p.ms (cntC p i)))) ⟨d, _, _, _, _, rfl, s3, ed3⟩ (fun i σ H4 hi h => ?_) (fun σ H4 h => ?_)
    · obtain ⟨d, v3, v4, v5, v6, rfl, s4, ed4⟩ := h
      refine ⟨_, rfl, a, dx, _, rfl, s4 _ _ e1, a, dx, _, .ref M, rfl, s4 _ _ e1, rfl, M, rfl, ⟨_, SqT.of (s4 _ _ e2)⟩, fun l hl => ?_⟩
      refine dcG p.ms (fun m : Str => (Sum.inr m : Key)) (fun _ => V.int ((0 : Nat) : Int)) (wk M p.ms) (by omega) hl (fun i H x H' h => by rw [h.1]; exact Same.refl _) (fun H' s => SqT.of (s _ _ (s4 _ _ e2))) (fun i m x H' H'' k1 k0 hx s3 hy k2 => ?_) (fun H5 s5 el => ?_)
      · obtain ⟨rfl, hy⟩ := hy
        obtain rfl := map_get hx hy
        exact ⟨rfl, _, rfl, k2 _ (Same.refl _)⟩
      rw [hz0 (fun _ => 0)] at el
      have ed5 := s5 _ _ ed4
      have nld : l ≠ d := (ne_of_none ed4 hl).symm
      have nlH : ∀ b o, H b = some o → b ≠ l := fun b o e => ne_of_none (s4 _ _ e) hl
      have s05 := s4.trans s5
      have e4' := s05 _ _ e4
      refine ⟨D, _, e4', trivial, fun od => ?_⟩
      have lD : upd H5 D (.frz od (.dT (goalsD p.rs))) D = some (.frz od (.dT (goalsD p.rs))) := upd_same
      have off : ∀ b o, H5 b = some o → (∀ kv, o ≠ .dT kv) → upd H5 D (.frz od (.dT (goalsD p.rs))) b = some o := fun b o e nn => by
        rw [upd_ne fun z => nn _ (Option.some.inj (e.symm.trans (z ▸ e4')))]
        exact e
      have offD : ∀ b o, b ≠ D → H5 b = some o → upd H5 D (.frz od (.dT (goalsD p.rs))) b = some o := fun b o e nn => by rw [upd_ne e]; exact nn
      have la := off _ _ (s05 _ _ e1) (fun _ z => by cases z)
      have el6 := off _ _ el (fun _ z => by cases z)
      have ed6 := off _ _ ed5 (fun _ z => by cases z)
      have nlD : l ≠ D := (nlH _ _ e4).symm
      generalize upd H5 D (.frz od (.dT (goalsD p.rs))) = HF at lD la el6 ed6 offD ⊢
      clear off
      have ge := goals_eq ok
      refine ⟨_, rfl, a, C, dx, _, .ref D, rfl, la, T.cl, T.f5, rfl, D, od, rfl, .inr ⟨_, lD, ?_⟩⟩
      have lg : (goalsD p.rs).length = (prsL p).length := by rw [ge, List.length_map]
      refine for_it walk_keysT (fun j σ H' => ∃ (v5 v6 : Option V), σ = [some (.ref a), some (.int (n : Int)), some (.ref d), some (.int (0 + (i : Int))), some (.ref l), v5, v6] ∧ (∀ b o, b ≠ l → HF b = some o → H' b = some o) ∧ H' l = some (.dK (cntD p.ms (((prsL p).take j).foldl (addC p (cntC p i)) fun _ => 0))))
        ⟨_, _, rfl, fun _ _ _ e => e, el6⟩ (fun j σ H' _ h => ?_) (fun j y σ H' H'' hj h hy => ?_) (fun σ H' h => ?_)
      · obtain ⟨_, _, _, st, _⟩ := h
        exact st _ _ nlD.symm lD
      · obtain ⟨rfl, key, v, q, hq, rfl, eq⟩ := hy
        obtain ⟨v5, v6, rfl, st, eL⟩ := h
        have hp : (prsL p)[j]? = some ((prsL p)[j]'(by omega)) := List.getElem?_eq_getElem (by omega)
        generalize (prsL p)[j]'(by omega) = tc at hp
        have htk : (prsL p).take (j + 1) = (prsL p).take j ++ [tc] := by rw [List.take_add_one, hp]; rfl
        obtain ⟨ht, hc⟩ := prs_in.mp (List.mem_of_getElem? hp)
        have hkv := hq
        rw [ge, List.getElem?_map, hp] at hkv
        have hkv : (kT tc.1 tc.2, V.str (ledL p tc.1 tc.2)) = (key, v) := Option.some.inj hkv
        injection hkv with hk hv
        subst hk hv
        obtain ⟨hg, hgv⟩ := ok.goal ht hc
        rw [htk, List.foldl_append]
        generalize ((prsL p).take j).foldl (addC p (cntC p i)) (fun _ => 0) = acc at eL ⊢
        refine ⟨q, _, rfl, SqT.of eq, rfl, _, _, rfl, _, _, rfl, rfl, ?_⟩
        have la' := st _ _ (fun z => by rw [z] at la; rw [la] at el6; cases el6) la
        have lD' := st _ _ nlD.symm lD
        have ed' := st _ _ nld.symm ed6
        refine ⟨_, rfl, _, rfl, a, C, dx, _, .ref D, rfl, la', T.cl, T.f5, rfl, _, rfl, _, rfl, by show 2 ≤ sizeLine; decide, fun tk htk2 => ⟨D, V.str (ledL p tc.1 tc.2), rfl, .inr ⟨_, kT tc.1 tc.2, tk, .inr ⟨od, keep1 lD' htk2⟩, rfl, upd_same, hgv.symm⟩, ?_⟩⟩
        have eL2 := keep1 (o := .tup [.str tc.1, .str (sg tc.2)]) eL htk2
        have ed2 := keep1 (o := .tup [.str tc.1, .str (sg tc.2)]) ed' htk2
        have st2 : ∀ b o, b ≠ l → HF b = some o → upd H'' tk (.tup [.str tc.1, .str (sg tc.2)]) b = some o := fun b o n1 e => keep1 (st b o n1 e) htk2
        have eH : upd H'' tk (.tup ((kT tc.1 tc.2).map kV)) = upd H'' tk (.tup [.str tc.1, .str (sg tc.2)]) := rfl
        have g1 := DGet.k (k := Sum.inr (ledL p tc.1 tc.2)) eL2
        rw [cnt_val hg] at g1
        have g2 := DGet.k (k := Sum.inr tc.1) ed2
        rw [cnt_val ht] at g2
        refine ⟨l, _, rfl, g1, _, rfl, _, rfl, d, _, rfl, g2, _, _, rfl, rfl, l, _, rfl, DPut.k (k := Sum.inr (ledL p tc.1 tc.2)) eL2 (lz _), ?_⟩
        refine ⟨_, _, rfl, fun b o n1 e => by rw [upd_ne n1]; exact st2 b o n1 e, ?_⟩
        rw [upd_same]
        have := cnt_put (c := acc) (v := acc (ledL p tc.1 tc.2) + cntC p i tc.1) hg
        rw [show (((acc (ledL p tc.1 tc.2) + cntC p i tc.1 : Nat)) : Int) = ((acc (ledL p tc.1 tc.2) : Nat) : Int) + ((cntC p i tc.1 : Nat) : Int) by omega] at this
        rw [this]
        refine congrArg (fun z => some (HO.dK (cntD p.ms z))) (funext fun x => ?_)
        show (if x = ledL p tc.1 tc.2 then acc (ledL p tc.1 tc.2) + cntC p i tc.1 else acc x) = (if x = ledL p tc.1 tc.2 then acc x + cntC p i tc.1 else acc x)
        by_cases e : x = ledL p tc.1 tc.2
        · rw [if_pos e, if_pos e, e]
        · rw [if_neg e, if_neg e]
      · obtain ⟨v5, v6, rfl, st, eL⟩ := h
        rw [lg, List.take_length] at eL
        have lD' := st _ _ nlD.symm lD
        refine ⟨lD', ?_⟩
        have eLf : upd H' D (.dT (goalsD p.rs)) l = some (.dK (cntD p.ms (cntC p (i + 1)))) := by rw [upd_ne nlD]; exact eL
        refine ⟨_, rfl, l, _, _, _, _, rfl, fun b o e => ?_, eLf⟩
        by_cases hb : b = D
        · subst hb
          rw [upd_same]
          exact e4.symm.trans e
        · rw [upd_ne hb]
          exact st _ _ (nlH _ _ e) (offD _ _ hb (s05 _ _ e))
    · obtain ⟨d, v3, v4, v5, v6, rfl, s4, ed4⟩ := h
      refine ⟨_, rfl, a, dx, _, rfl, s4 _ _ e1, a, dx, _, .ref G, rfl, s4 _ _ e1, rfl, G, rfl, ⟨_, SqT.of (s4 _ _ e3)⟩, fun Dl hD => ?_⟩
      have hsub := ok_subG ok.gds
      have g300 : p.gs.length ≤ 300 := Nat.le_trans hsub.length_le m300
      refine lcG p.gs (fun m => some (V.int ((cntC p n m : Nat) : Int))) (wk G p.gs) (by omega) hD (fun i H x H' h => by rw [h.1]; exact Same.refl _) (fun H' s => SqT.of (s _ _ (s4 _ _ e3))) (fun i m x H' H'' k1 hx s5 hy k2 => ?_) (fun H5 s5 el => ?_)
      · obtain ⟨rfl, hy⟩ := hy
        obtain rfl := map_get hx hy
        have g2 := DGet.k (k := Sum.inr m) (s5 _ _ ed4)
        rw [cnt_val (hsub.subset (List.mem_of_getElem? hx))] at g2
        exact ⟨rfl, _, rfl, _, rfl, d, _, rfl, g2, k2 _ (Same.refl _)⟩
      have efm : (p.gs.filterMap fun m => some (V.int ((cntC p n m : Nat) : Int))) = (p.gs.map fun m => ((cntC p n m : Nat) : Int)).map V.int := by
        rw [List.filterMap_eq_map', List.map_map]
        rfl
      rw [efm] at el
      refine ⟨Dl, _, rfl, SqL.of el, ?_⟩
      have es : ∀ l : List Str, (l.map fun m => ((cntC p n m : Nat) : Int)).sum = (((l.map (cntC p n)).sum : Nat) : Int) := fun l => by
        induction l with
        | nil => rfl
        | cons a t ih =>
          rw [List.map_cons, List.map_cons, List.sum_cons, List.sum_cons, ih]
          omega
      rw [es]
      exact k H5 (s4.trans s5)
end
end My
namespace My
open PySem PySem.Spec PyProof.Rows L2 PySem.GX L2H LamX
/-! many counts the good rows of so many signs -/
theorem fold_add {p : Parts} {c : Str → Nat} (x : Str) : ∀ (L : List (Str × Nat)) (acc : Str → Nat), L.foldl (addC p c) acc x = acc x + (L.map fun tc => if x = ledL p tc.1 tc.2 then c tc.1 else 0).sum
  | [], acc => by simp
  | tc :: t, acc => by
    rw [List.foldl_cons, fold_add x t, List.map_cons, List.sum_cons]
    show (if x = ledL p tc.1 tc.2 then acc x + c tc.1 else acc x) + _ = _
    split <;> omega
theorem step_sum {p : Parts} {c : Str → Nat} (x : Str) : stepC p c x = ((prsL p).map fun tc => if x = ledL p tc.1 tc.2 then c tc.1 else 0).sum := by
  unfold stepC
  rw [fold_add]
  exact Nat.zero_add _
/-- all rows of n signs -/
def rowsN (p : Parts) : Nat → List (List Nat)
  | 0 => [[]]
  | n + 1 => (rowsN p n).flatMap fun r => p.sg.cps.toList.map fun c => r ++ [c]
theorem sum_group {α : Type} (f : α → Str) (g : Str → Nat) {ms : List Str} (nd : ms.Nodup) : ∀ L : List α, (∀ a ∈ L, f a ∈ ms) → (L.map fun a => g (f a)).sum = (ms.map fun t => (L.countP fun a => decide (f a = t)) * g t).sum
  | [], _ => by
    have : ∀ l : List Str, (l.map fun t => (([] : List α).countP fun a => decide (f a = t)) * g t).sum = 0 := fun l => by
      induction l with
      | nil => rfl
      | cons a t ih => rw [List.map_cons, List.sum_cons, ih]; simp
    rw [this]
    rfl
  | a :: L, h => by
    rw [List.map_cons, List.sum_cons, sum_group f g nd L fun b hb => h b (List.mem_cons_of_mem _ hb)]
    have ha := h a List.mem_cons_self
    have one : ∀ l : List Str, l.Nodup → (l.map fun t => ((a :: L).countP fun a => decide (f a = t)) * g t).sum = (if f a ∈ l then g (f a) else 0) + (l.map fun t => (L.countP fun a => decide (f a = t)) * g t).sum := fun l nl => by
      induction l with
      | nil => simp
      | cons t r ih =>
        rw [List.nodup_cons] at nl
        rw [List.map_cons, List.sum_cons, List.map_cons, List.sum_cons, ih nl.2, List.countP_cons]
        by_cases e : f a = t
        · subst e
          have n1 : ¬ f a ∈ r := nl.1
          rw [show (if decide (f a = f a) = true then 1 else 0) = 1 from if_pos (decide_eq_true rfl), show (if f a ∈ f a :: r then g (f a) else 0) = g (f a) from if_pos List.mem_cons_self, show (if f a ∈ r then g (f a) else 0) = 0 from if_neg n1, Nat.add_mul, Nat.one_mul]
          omega
        · have i1 : (f a ∈ t :: r) ↔ f a ∈ r := by simp [e]
          rw [show (if decide (f a = t) = true then 1 else 0) = 0 from if_neg (by simp [e]), Nat.add_zero]
          by_cases m : f a ∈ r
          · rw [show (if f a ∈ t :: r then g (f a) else 0) = g (f a) from if_pos (i1.mpr m), show (if f a ∈ r then g (f a) else 0) = g (f a) from if_pos m]; omega
          · rw [show (if f a ∈ t :: r then g (f a) else 0) = 0 from if_neg fun z => m (i1.mp z), show (if f a ∈ r then g (f a) else 0) = 0 from if_neg m]; omega
    rw [one ms nd, if_pos ha]
theorem count_group {α : Type} (f : α → Str) {gs : List Str} (nd : gs.Nodup) (L : List α) : (gs.map fun t => L.countP fun a => decide (f a = t)).sum = L.countP fun a => decide (f a ∈ gs) := by
  induction L with
  | nil =>
    have : ∀ l : List Str, (l.map fun t => ([] : List α).countP fun a => decide (f a = t)).sum = 0 := fun l => by
      induction l with
      | nil => rfl
      | cons a t ih => rw [List.map_cons, List.sum_cons, ih]; rfl
    rw [this]
    rfl
  | cons a L ih =>
    have one : ∀ l : List Str, l.Nodup → (l.map fun t => (a :: L).countP fun a => decide (f a = t)).sum = (if f a ∈ l then 1 else 0) + (l.map fun t => L.countP fun a => decide (f a = t)).sum := fun l nl => by
      induction l with
      | nil => simp
      | cons t r ih =>
        rw [List.nodup_cons] at nl
        rw [List.map_cons, List.sum_cons, List.map_cons, List.sum_cons, ih nl.2, List.countP_cons]
        by_cases e : f a = t
        · subst e
          have n1 : ¬ f a ∈ r := nl.1
          rw [show (if decide (f a = f a) = true then 1 else 0) = 1 from if_pos (decide_eq_true rfl), show (if f a ∈ f a :: r then 1 else 0) = 1 from if_pos List.mem_cons_self, show (if f a ∈ r then 1 else 0) = 0 from if_neg n1]
          omega
        · have i1 : (f a ∈ t :: r) ↔ f a ∈ r := by simp [e]
          rw [show (if decide (f a = t) = true then 1 else 0) = 0 from if_neg (by simp [e]), Nat.add_zero]
          by_cases m : f a ∈ r
          · rw [show (if f a ∈ t :: r then 1 else 0) = 1 from if_pos (i1.mpr m), show (if f a ∈ r then 1 else 0) = 1 from if_pos m]; omega
          · rw [show (if f a ∈ t :: r then 1 else 0) = 0 from if_neg fun z => m (i1.mp z), show (if f a ∈ r then 1 else 0) = 0 from if_neg m]; omega
    rw [one gs nd, ih, List.countP_cons]
    by_cases m : f a ∈ gs
    · rw [show (if f a ∈ gs then 1 else 0) = 1 from if_pos m, show (if decide (f a ∈ gs) = true then 1 else 0) = 1 from if_pos (decide_eq_true m)]; omega
    · rw [show (if f a ∈ gs then 1 else 0) = 0 from if_neg m, show (if decide (f a ∈ gs) = true then 1 else 0) = 0 from if_neg (by simp [m])]; omega
theorem walk_snoc (p : Parts) : ∀ (r : List Nat) (m : Str) (c : Nat), walkL p m (r ++ [c]) = ledL p (walkL p m r) c
  | [], _, _ => rfl
  | d :: r, m, c => walk_snoc p r (ledL p m d) c
theorem walk_in {p : Parts} (ok : PartsOk p) : ∀ (r : List Nat) (m : Str), m ∈ p.ms → (∀ c ∈ r, c ∈ p.sg.cps.toList) → walkL p m r ∈ p.ms
  | [], _, h, _ => h
  | d :: r, m, h, hr => walk_in ok r (ledL p m d) (ok.goal h (hr d List.mem_cons_self)).1 fun c hc => hr c (List.mem_cons_of_mem _ hc)
theorem rows_inn {p : Parts} : ∀ (n : Nat) (r : List Nat), r ∈ rowsN p n → r.length = n ∧ ∀ c ∈ r, c ∈ p.sg.cps.toList
  | 0, r, h => by rw [List.mem_singleton.mp h]; exact ⟨rfl, fun _ z => by cases z⟩
  | n + 1, r, h => by
    obtain ⟨s, hs, h2⟩ := List.mem_flatMap.mp h
    obtain ⟨c, hc, rfl⟩ := List.mem_map.mp h2
    obtain ⟨l, i⟩ := rows_inn n s hs
    refine ⟨by rw [List.length_append, l]; rfl, fun d hd => ?_⟩
    rcases List.mem_append.mp hd with q | q
    · exact i d q
    · rw [List.mem_singleton.mp q]; exact hc
/-- how many rows of n signs lead to x -/
theorem cnt_rows {p : Parts} (ok : PartsOk p) (hf : firstL p ∈ p.ms) : ∀ (n : Nat) (x : Str), cntC p n x = (rowsN p n).countP fun r => decide (walkL p (firstL p) r = x)
  | 0, x => by
    show (if x = firstL p then 1 else 0) = _
    unfold rowsN
    rw [List.countP_cons, List.countP_nil, Nat.zero_add]
    show _ = if decide (firstL p = x) = true then 1 else 0
    by_cases e : x = firstL p
    · rw [if_pos e, if_pos (decide_eq_true e.symm)]
    · rw [if_neg e, if_neg fun z => e (of_decide_eq_true z).symm]
  | n + 1, x => by
    show stepC p (cntC p n) x = _
    rw [step_sum]
    let g : Str → Nat := fun t => p.sg.cps.toList.countP fun c => decide (x = ledL p t c)
    have lhs : ∀ (ms : List Str), ((ms.flatMap fun t => p.sg.cps.toList.map fun c => (t, c)).map fun tc : Str × Nat => if x = ledL p tc.1 tc.2 then cntC p n tc.1 else 0).sum = (ms.map fun t => cntC p n t * g t).sum := fun ms => by
      induction ms with
      | nil => rfl
      | cons t r ih =>
        rw [List.flatMap_cons, List.map_append, List.sum_append, ih, List.map_cons, List.sum_cons, List.map_map]
        congr 1
        show (p.sg.cps.toList.map fun c => if x = ledL p t c then cntC p n t else 0).sum = cntC p n t * (p.sg.cps.toList.countP fun c => decide (x = ledL p t c))
        generalize p.sg.cps.toList = cs
        induction cs with
        | nil => simp
        | cons c cs ih2 =>
          rw [List.map_cons, List.sum_cons, ih2, List.countP_cons]
          by_cases e : x = ledL p t c
          · rw [if_pos e, if_pos (decide_eq_true e), Nat.mul_succ]; omega
          · rw [if_neg e, if_neg (by simpa using e), Nat.add_zero]; omega
    have rhs : ∀ (L : List (List Nat)), ((L.flatMap fun r => p.sg.cps.toList.map fun c => r ++ [c]).countP fun r => decide (walkL p (firstL p) r = x)) = (L.map fun r => g (walkL p (firstL p) r)).sum := fun L => by
      induction L with
      | nil => rfl
      | cons r t ih =>
        rw [List.flatMap_cons, List.countP_append, ih, List.map_cons, List.sum_cons, List.countP_map]
        congr 1
        show _ = p.sg.cps.toList.countP fun c => decide (x = ledL p (walkL p (firstL p) r) c)
        refine List.countP_congr fun c _ => ?_
        show decide (walkL p (firstL p) (r ++ [c]) = x) = true ↔ _
        rw [walk_snoc, decide_eq_true_eq, decide_eq_true_eq]
        exact eq_comm
    show ((prsL p).map _).sum = (((rowsN p n).flatMap fun r => p.sg.cps.toList.map fun c => r ++ [c]).countP _)
    unfold prsL
    rw [lhs, rhs, sum_group (fun r => walkL p (firstL p) r) g (moods_nd ok.mds) (rowsN p n) fun r hr => walk_in ok r _ hf (rows_inn n r hr).2]
    congr 1
    refine List.map_congr_left fun t _ => ?_
    rw [cnt_rows ok hf n t]
theorem many_rows {p : Parts} (ok : PartsOk p) (hf : firstL p ∈ p.ms) (n : Nat) : manyN p n = (rowsN p n).countP fun r => decide (walkL p (firstL p) r ∈ p.gs) := by
  unfold manyN
  rw [← count_group (fun r => walkL p (firstL p) r) (gs := p.gs) ((moods_nd ok.mds).sublist (ok_subG ok.gds))]
  congr 1
  exact List.map_congr_left fun t _ => cnt_rows ok hf n t
end My
set_option pp.maxSteps 1500
namespace My
open PySem PySem.Spec PyProof.Rows L2 PySem.GX L2H LamX
/-! the law's rows of up to so many signs -/
abbrev rT (r : List Nat) : Str := ⟨r.toArray⟩
theorem rT_app (r : List Nat) (c : Nat) : rT r ++ sg c = rT (r ++ [c]) := str_ext (by
  show (r.toArray ++ #[c]).toList = ((r ++ [c]).toArray).toList
  simp)
def rowsX (cs : List Nat) : Nat → List (List Nat)
  | 0 => [[]]
  | n + 1 => (rowsX cs n).flatMap fun r => cs.map fun c => r ++ [c]
theorem rows_X (p : Parts) : ∀ n, rowsN p n = rowsX p.sg.cps.toList n
  | 0 => rfl
  | n + 1 => by
    unfold rowsN rowsX
    rw [rows_X p n]
/-- rows of up to n signs -/
def allX (cs : List Nat) : Nat → List (List Nat)
  | 0 => [[]]
  | n + 1 => allX cs n ++ rowsX cs (n + 1)
abbrev txts (L : List (List Nat)) : List V := L.map fun r => V.str (rT r)
theorem rowsX_len {cs : List Nat} (h : cs.length ≤ 3) : ∀ n, (rowsX cs n).length ≤ 3 ^ n
  | 0 => Nat.le_refl _
  | n + 1 => by
    have ih := rowsX_len h n
    have fl : ∀ L : List (List Nat), (L.flatMap fun r => cs.map fun c => r ++ [c]).length = L.length * cs.length := fun L => by
      induction L with
      | nil => simp
      | cons a t ih => rw [List.flatMap_cons, List.length_append, ih, List.length_map, List.length_cons, Nat.succ_mul]; omega
    show ((rowsX cs n).flatMap fun r => cs.map fun c => r ++ [c]).length ≤ _
    rw [fl, Nat.pow_succ]
    exact Nat.mul_le_mul ih h
theorem rowsX_in {cs : List Nat} : ∀ (n : Nat) (r : List Nat), r ∈ rowsX cs n → r.length = n
  | 0, r, h => by rw [List.mem_singleton.mp h]; rfl
  | n + 1, r, h => by
    obtain ⟨s, hs, h2⟩ := List.mem_flatMap.mp h
    obtain ⟨c, hc, rfl⟩ := List.mem_map.mp h2
    rw [List.length_append, rowsX_in n s hs]
    rfl
theorem allX_len {cs : List Nat} (h : cs.length ≤ 3) : ∀ n, n ≤ 4 → (allX cs n).length ≤ 200 := by
  intro n hn
  have h1 := rowsX_len h 1
  have h2 := rowsX_len h 2
  have h3 := rowsX_len h 3
  have h4 := rowsX_len h 4
  have e0 : (allX cs 0).length = 1 := rfl
  have e1 : (allX cs 1).length = (allX cs 0).length + (rowsX cs 1).length := List.length_append
  have e2 : (allX cs 2).length = (allX cs 1).length + (rowsX cs 2).length := List.length_append
  have e3 : (allX cs 3).length = (allX cs 2).length + (rowsX cs 3).length := List.length_append
  have e4 : (allX cs 4).length = (allX cs 3).length + (rowsX cs 4).length := List.length_append
  have p4 : (3 : Nat) ^ 1 + 3 ^ 2 + 3 ^ 3 + 3 ^ 4 = 120 := by decide
  rcases (by omega : n = 0 ∨ n = 1 ∨ n = 2 ∨ n = 3 ∨ n = 4) with rfl | rfl | rfl | rfl | rfl <;> omega
def spLinesL : Sp := fun vs H Q _ => ∃ (x : Str) (n : Nat), vs = [.str x, .int (n : Int)] ∧ x.length ≤ 3 ∧ n ≤ 4 ∧ ∀ (l : Addr) (H' : Hp), Same H H' → H' l = some (.lst (txts (allX x.cps.toList n))) → Q (.ref l) H'
section
variable {P : Program} {w : World} {K : PySem.W.Frag} {mg : Str → Option Value} {base : Heap}
abbrev nLinesL : List Str := ["_law_letters", "_law_most", "_law_found", "_law_last", "_law_turn", "_law_more", "_law_line", "_law_glyph"]
theorem scLinesL : FnScope nLinesL ["_law_letters", "_law_most"] (defScope sLinesL) := ⟨rfl, rfl, rfl, by decide +kernel, rfl, by decide +kernel, by decide +kernel⟩
theorem ok_linesL {f : Addr} {fd : FuncData} (F : Fun K "_law_lines" "_law_lines" sLinesL f fd) (hRa : mg "range" = none) : FnOk P w K mg base CX0 1 f fd ["_law_letters", "_law_most"] spLinesL := by
  refine F.ok scLinesL (fun vs H Q E h => ?_) (fun cdv A outer s H vs Q E hr h => ?_)
  · obtain ⟨x, n, rfl, _⟩ := h
    rfl
  · obtain ⟨x, n, rfl, hx, hn, k⟩ := h
    refine ⟨_, pss_cons (ps_par (i := 2) (j := 3) rfl scLinesL.nd rfl rfl (by decide) rfl rfl (pa_cons (pe_lst (pa_cons pe_str pa_nil)) (pa_cons (pe_lst (pa_cons pe_str pa_nil)) pa_nil)) rfl)
      (pss_cons (ps_for PassesOwn.never rfl (pi_range1 rfl hRa (pa_cons (pv 1) pa_nil)) (pg_name (i := 4) scLinesL.nd rfl (Or.inl rfl))
        (pss_cons (ps_set (i := 5) scLinesL.nd rfl (Or.inl rfl) (pe_lst pa_nil))
        (pss_cons (ps_for PassesOwn.never rfl (pi_list (pv 3)) (pg_name (i := 6) scLinesL.nd rfl (Or.inr rfl))
          (pss_one (ps_set (i := 5) scLinesL.nd rfl (Or.inl rfl) (pe_op op_cat (pv 5) (pe_lc (own := [("_law_glyph", 7)]) (g := gName 7) (tt := tYes) rfl scLinesL.nd (pi_str (pv 0)) (blkOk_by (N := nLinesL) (sc := defScope sLinesL) (by decide +kernel)) (fun _ _ _ _ _ => pg_name (i := 7) scLinesL.nd rfl (Or.inl rfl)) (fun _ _ _ _ _ => pts_nil) (fun _ _ _ _ _ => pe_op op_add_str (pv 6) (pv 7)))))))
        (pss_one (ps_par (i := 2) (j := 3) rfl scLinesL.nd rfl rfl (by decide) rfl rfl (pa_cons (pe_op op_cat (pv 2) (pv 5)) (pa_cons (pv 5) pa_nil)) rfl)))))
      (pss_one (ps_ret (pv 2)))), ?_⟩
    have hx' : x.cps.toList.length ≤ 3 := by rw [Array.length_toList]; exact hx
    refine ⟨by show 1 ≤ sizeLine; decide, fun l1 h1 => ⟨by show 1 ≤ sizeLine; decide, fun l2 h2 => ⟨_, _, rfl, ?_⟩⟩⟩
    have s12 := (same_new (o := .lst [.str ""]) h1).trans (same_new (o := .lst [.str ""]) h2)
    have e1 := keep1 (o := .lst [.str ""]) (upd_same (a := l1) (H := H) (o := .lst [.str ""])) h2
    have e2 := upd_same (a := l2) (H := upd H l1 (.lst [.str ""])) (o := .lst [.str ""])
    generalize upd (upd H l1 (.lst [.str ""])) l2 (.lst [.str ""]) = H1 at s12 e1 e2 ⊢
    clear h1 h2
    refine ⟨_, rfl, (n : Int), rfl, by omega, by omega, ?_⟩
    rw [Int.toNat_natCast]
    refine for_range (n := n) (fun i σ H' => ∃ (lf la : Addr) (v4 v5 v6 v7 : Option V), σ = [some (.str x), some (.int (n : Int)), some (.ref lf), some (.ref la), v4, v5, v6, v7] ∧ Same H H' ∧ H' lf = some (.lst (txts (allX x.cps.toList i))) ∧ H' la = some (.lst (txts (rowsX x.cps.toList i)))) ⟨l1, l2, _, _, _, _, rfl, s12, e1, e2⟩ (fun i σ H2 hi h => ?_) (fun σ H2 h => ?_)
    · obtain ⟨lf, la, v4, v5, v6, v7, rfl, s2, ef, ea⟩ := h
      refine ⟨by show 0 ≤ sizeLine; decide, fun l0 h0 => ?_⟩
      have s3 := s2.trans (same_new (o := .lst []) h0)
      have ef3 := keep1 (o := .lst []) ef h0
      have ea3 := keep1 (o := .lst []) ea h0
      have e0 := upd_same (a := l0) (H := H2) (o := .lst [])
      show tSeq _ _ _ _ _
      generalize upd H2 l0 (.lst []) = H3 at s3 ef3 ea3 e0 ⊢
      clear h0 s2 ef ea
      have zr := rowsX_len hx' i
      have z4 : (3 : Nat) ^ i ≤ 3 ^ 4 := Nat.pow_le_pow_right (by decide) (by omega)
      have z81 : (3 : Nat) ^ 4 = 81 := by decide
      refine ⟨_, rfl, la, rfl, ⟨_, SqL.of ea3⟩, ?_⟩
      refine for_it (walk_listL (rowsX x.cps.toList i) fun r => V.str (rT r)) (fun j σ H' => ∃ (lm : Addr) (v6 v7 : Option V), σ = [some (.str x), some (.int (n : Int)), some (.ref lf), some (.ref la), some (.int (0 + (i : Int))), some (.ref lm), v6, v7] ∧ Same H3 H' ∧ H' lm = some (.lst (txts (((rowsX x.cps.toList i).take j).flatMap fun r => x.cps.toList.map fun c => r ++ [c]))))
        ⟨l0, _, _, rfl, Same.refl _, e0⟩ (fun j σ H' _ h => ?_) (fun j y σ H' H'' hj h hy => ?_) (fun σ H' h => ?_)
      · obtain ⟨_, _, _, _, st, _⟩ := h
        exact SqL.of (st _ _ ea3)
      · obtain ⟨rfl, hy⟩ := hy
        obtain ⟨lm, v6, v7, rfl, st, em⟩ := h
        have hr : (rowsX x.cps.toList i)[j]? = some (rowsX x.cps.toList i)[j] := List.getElem?_eq_getElem hj
        obtain rfl := map_get hr hy
        rw [List.take_add_one, hr, List.flatMap_append]
        have zt : (((rowsX x.cps.toList i).take j).flatMap fun r => x.cps.toList.map fun c => r ++ [c]).length ≤ 1000 := by
          have fl : ∀ L : List (List Nat), (L.flatMap fun r => x.cps.toList.map fun c => r ++ [c]).length = L.length * x.cps.toList.length := fun L => by
            induction L with
            | nil => simp
            | cons a t ih => rw [List.flatMap_cons, List.length_append, ih, List.length_map, List.length_cons, Nat.succ_mul]; omega
          rw [fl]
          have a1 := List.length_take_le j (rowsX x.cps.toList i)
          have a2 : ((rowsX x.cps.toList i).take j).length * x.cps.toList.length ≤ 81 * 3 := Nat.mul_le_mul (by have := List.length_take_le' j (rowsX x.cps.toList i); omega) hx'
          omega
        show gName 6 _ _ _ _
        generalize ((rowsX x.cps.toList i).take j).flatMap (fun r => x.cps.toList.map fun c => r ++ [c]) = acc at em zt ⊢
        have zrl := rowsX_in i _ (List.mem_of_getElem? hr)
        generalize (rowsX x.cps.toList i)[j] = r at zrl
        refine ⟨_, rfl, _, rfl, x, rfl, fun D hD => ?_⟩
        refine lcG x.cps.toList (fun c => some (V.str (rT (r ++ [c])))) (by rw [Array.length_toList]; exact walk_str) (by omega) hD (fun i H x H' h => by rw [h.1]; exact Same.refl _) (fun _ _ => trivial) (fun k c y H6 H7 k1 hc s6 hy k2 => ?_) (fun H6 s6 e6 => ?_)
        · obtain ⟨rfl, c', hc', rfl⟩ := hy
          rw [← Array.getElem?_toList, hc] at hc'
          obtain rfl := Option.some.inj hc'
          refine ⟨rfl, _, rfl, _, rfl, _, _, rfl, rfl, ?_, ?_⟩
          · have h1 : (rT r).length = r.length := List.size_toArray ..
            have h2 : ({ cps := #[c] } : Str).length = 1 := rfl
            rw [h1, h2, sizeLine_eq]
            omega
          · have := k2 _ (Same.refl _)
            rw [← rT_app] at this
            exact this
        · have e6' : H6 D = some (.lst (txts (x.cps.toList.map fun c => r ++ [c]))) := by
            rw [e6, List.filterMap_eq_map']
            unfold txts
            rw [List.map_map]
            rfl
          refine ⟨lm, D, _, _, rfl, rfl, s6 _ _ em, e6', ?_, fun lt hlt => ?_⟩
          · rw [List.length_map, List.length_map, List.length_map, sizeLine_eq]
            omega
          · refine ⟨lt, _, _, rfl, (st.trans s6).trans (same_new hlt), ?_⟩
            rw [upd_same]
            unfold txts
            rw [List.map_append]
            show some (HO.lst (_ ++ _)) = some (HO.lst (_ ++ List.map _ (List.flatMap _ [r])))
            rw [List.flatMap_cons, List.flatMap_nil, List.append_nil]
      · obtain ⟨lm, v6, v7, rfl, st, em⟩ := h
        rw [List.take_length] at em
        have za := allX_len hx' i (by omega)
        have zb := rowsX_len hx' (i + 1)
        have z5 : (3 : Nat) ^ (i + 1) ≤ 3 ^ 4 := Nat.pow_le_pow_right (by decide) (by omega)
        have eb : ((rowsX x.cps.toList i).flatMap fun r => x.cps.toList.map fun c => r ++ [c]) = rowsX x.cps.toList (i + 1) := rfl
        rw [eb] at em
        refine ⟨_, rfl, _, rfl, lf, lm, _, _, rfl, rfl, st _ _ ef3, em, ?_, fun l3 h3 => ⟨_, rfl, _, _, rfl, l3, lm, _, _, _, _, rfl, (s3.trans st).trans (same_new h3), ?_, keep1 em h3⟩⟩
        · rw [List.length_map, List.length_map, sizeLine_eq]
          omega
        · rw [upd_same]
          show _ = some (HO.lst (txts (allX x.cps.toList i ++ rowsX x.cps.toList (i + 1))))
          unfold txts
          rw [List.map_append]
    · obtain ⟨lf, la, v4, v5, v6, v7, rfl, s2, ef, ea⟩ := h
      exact ⟨_, rfl, k lf H2 s2 ef⟩
end
end My
set_option pp.maxSteps 1500
namespace My
open PySem PySem.Spec PyProof.Rows L2 PySem.GX L2H LamX
/-! _law_beside: the moods of two rules that come behind one row, each pair with the first such row -/
abbrev bD (L : List (List Key × Row)) : List (List Key × V) := L.map fun x => (x.1, V.str (rT x.2))
theorem bD_has (k : List Key) : ∀ L : List (List Key × Row), (valV (bD L) k).isSome = true ↔ k ∈ L.map (·.1)
  | [] => by simp [bD, valV]
  | x :: t => by
    have ih := bD_has k t
    by_cases e : x.1 = k
    · rw [show bD (x :: t) = (x.1, V.str (rT x.2)) :: bD t from rfl, valV_pos e]
      simp [e]
    · rw [show bD (x :: t) = (x.1, V.str (rT x.2)) :: bD t from rfl, valV_neg e, ih, List.map_cons, List.mem_cons]
      exact ⟨.inr, fun h => h.elim (fun z => absurd z.symm e) id⟩
theorem bD_at {L : List (List Key × Row)} (nd : (L.map (·.1)).Nodup) {x : List Key × Row} (h : x ∈ L) : valV (bD L) x.1 = some (.str (rT x.2)) := by
  induction L with
  | nil => cases h
  | cons a t ih =>
    rw [List.map_cons, List.nodup_cons] at nd
    rw [show bD (a :: t) = (a.1, V.str (rT a.2)) :: bD t from rfl]
    rcases List.mem_cons.mp h with q | q
    · subst q; exact valV_pos rfl
    · rw [valV_neg fun z => nd.1 (by rw [z]; exact List.mem_map.mpr ⟨x, q, rfl⟩)]
      exact ih nd.2 q
/-- what is known while it goes on: the pairs of the first n are gone through -/
structure BesI (p : Parts) (L : List (List Key × Row)) (n : Nat) (dn : Row) : Prop where
  bf : Bfs p.sg.cps.toList (stepP p p) (k2 (firstL p) (firstL p)) L n dn
  nd : (L.map (·.1)).Nodup
  inn : ∀ x ∈ L, x.1 ∈ pairsD p p
  len : ∀ (i : Nat) (x : List Key × Row), L[i]? = some x → x.2.length ≤ i
theorem BesI.few {p : Parts} {L : List (List Key × Row)} {n : Nat} {dn : Row} (ok : PartsOk p) (h : BesI p L n dn) : L.length ≤ 90000 := by
  have := nodup_len h.nd (m := pairsD p p) fun k hk => by obtain ⟨e, he, rfl⟩ := List.mem_map.mp hk; exact h.inn e he
  rw [List.length_map, pairsD_len] at this
  have h2 : p.ms.length * p.ms.length ≤ 300 * 300 := Nat.mul_le_mul ok.few ok.few
  omega
theorem BesI.put {p : Parts} (ok : PartsOk p) {L : List (List Key × Row)} {n : Nat} {dn : Row} (h : BesI p L n dn) {y : List Key × Row} (ey : L[n]? = some y) {c : Nat} (hs : ∀ d ∈ dn, d < c) (hc : c ∈ p.sg.cps.toList) (hn : stepP p p y.1 c ∉ L.map (·.1)) :
    BesI p (L ++ [(stepP p p y.1 c, y.2 ++ [c])]) n (dn ++ [c]) := by
  refine ⟨h.bf.new ey hs hc, ?_, fun x hx => ?_, fun i x e => ?_⟩
  · rw [List.map_append, List.nodup_append]
    refine ⟨h.nd, by simp, fun x hx z hz q => ?_⟩
    have : z = stepP p p y.1 c := by simpa using hz
    exact hn (this ▸ q ▸ hx)
  · rcases List.mem_append.mp hx with hx | hx
    · exact h.inn x hx
    · rw [List.mem_singleton.mp hx]
      obtain ⟨a, ha, b, hb, e⟩ := in_pairs.mp (h.inn y (List.mem_of_getElem? ey))
      show stepP p p y.1 c ∈ _
      rw [e]
      exact in_pairs.mpr ⟨_, (ok.goal ha hc).1, _, (ok.goal hb hc).1, rfl⟩
  · rw [List.getElem?_append] at e
    split at e
    · exact h.len i x e
    · rename_i hi
      have : i = L.length ∧ x = (stepP p p y.1 c, y.2 ++ [c]) := by
        cases hz : i - L.length with
        | zero => rw [hz] at e; exact ⟨by omega, (Option.some.inj e).symm⟩
        | succ m => rw [hz] at e; cases e
      obtain ⟨rfl, rfl⟩ := this
      have l1 := h.len n y ey
      have l2 := (List.getElem?_eq_some_iff.mp ey).1
      rw [List.length_append]
      show y.2.length + 1 ≤ _
      omega
/-- the rows list holds the pairs from n0 on -/
def RowsAt (H : Hp) (L : List (List Key × Row)) (n0 : Nat) (as : List Addr) : Prop := n0 + as.length = L.length ∧ ∀ j a, as[j]? = some a → ∃ m o r, H a = some (.tup [.str m, .str o]) ∧ L[n0 + j]? = some (k2 m o, r)
def BesOk (p : Parts) (L : List (List Key × Row)) : Prop := BesI p L L.length []
def spBeside : Sp := fun vs H Q _ => ∃ (q : Addr) (p : Parts) (kvs : List (List Key × V)), vs = [.ref q, .ref q] ∧ SkAt H q p.sg p.ms p.gs kvs ∧ PartsOk p ∧ (∀ t ∈ p.ms, ∀ c ∈ p.sg.cps.toList, valV kvs (kT t c) = some (.str (ledL p t c))) ∧
  ∀ (d : Addr) (L : List (List Key × Row)) (H' : Hp), Same H H' → H' d = some (.dT (bD L)) → BesOk p L → Q (.ref d) H'
section
variable {P : Program} {w : World} {K : PySem.W.Frag} {mg : Str → Option Value} {base : Heap}
abbrev nBeside : List Str := ["_law_fore", "_law_hind", "_law_found", "_law_rows", "_law_fresh", "_law_mine", "_law_others", "_law_glyph", "_law_aim"]
theorem scBeside : FnScope nBeside ["_law_fore", "_law_hind"] (defScope sBeside) := ⟨rfl, rfl, rfl, by decide +kernel, rfl, by decide +kernel, by decide +kernel⟩
def muB (σ : L2.St) (H : Hp) : Nat := match σ[2]?, σ[3]? with
  | some (some (V.ref d)), some (some (V.ref r)) => match H d, H r with
    | some (.dT kvs), some (.lst xs) => 100000 - (kvs.length - xs.length)
    | _, _ => 0
  | _, _ => 0
theorem muB_is {σ : L2.St} {H : Hp} {d r : Addr} {kvs : List (List Key × V)} {xs : List V} (e2 : σ[2]? = some (some (.ref d))) (e3 : σ[3]? = some (some (.ref r))) (hd : H d = some (.dT kvs)) (hr : H r = some (.lst xs)) : muB σ H = 100000 - (kvs.length - xs.length) := by
  unfold muB
  rw [e2, e3]
  show (match H d, H r with
    | some (.dT kvs), some (.lst xs) => 100000 - (kvs.length - xs.length)
    | _, _ => 0) = _
  rw [hd, hr]
theorem ok_beside {f : Addr} {fd : FuncData} (F : Fun K "_law_beside" "_law_beside" sBeside f fd) (hLi : mg "list" = none) : FnOk P w K mg base CX0 1 f fd ["_law_fore", "_law_hind"] spBeside := by
  refine F.ok scBeside (fun vs H Q E h => ?_) (fun cdv A outer s H vs Q E hr h => ?_)
  · obtain ⟨q, p, kvs, rfl, _⟩ := h
    rfl
  · obtain ⟨q, p, kvs, rfl, ⟨lw, lf, g, eq, ew, ef, eg⟩, ok, hled, k⟩ := h
    have hu := hu_of hr
    have hu0 : (A.deeper (envOfC "_law_beside" (defScope sBeside) s.heap.objs.size f cdv)).units < cLine := by omega
    refine ⟨_, pss_cons (ps_set (i := 2) scBeside.nd rfl (Or.inl rfl) (pe_disp1T hu (pe_tup (pa_cons (pe_ix ix_list (pe_ix ix_list (pv 0) pe_int (fun _ _ => rfl)) pe_int (fun _ _ => rfl)) (pa_cons (pe_ix ix_list (pe_ix ix_list (pv 1) pe_int (fun _ _ => rfl)) pe_int (fun _ _ => rfl)) pa_nil))) pe_str))
      (pss_cons (ps_set (i := 3) scBeside.nd rfl (Or.inl rfl) (pe_callTy (call_list_dT rfl) (by rfl) hLi (by decide +kernel) (pa_cons (pv 2) pa_nil)))
      (pss_cons (ps_while PassesOwn.never (pt_cmpR (op_neNil hu0) (pv 3) (pe_lst pa_nil) (nomark _))
        (pss_cons (ps_set (i := 4) scBeside.nd rfl (Or.inl rfl) (pe_lst pa_nil))
        (pss_cons (ps_for PassesOwn.never rfl (pi_list (pv 3)) (pg_tup (by rfl) (pgs_cons (pg_name (i := 5) scBeside.nd rfl (Or.inl rfl)) (pgs_cons (pg_name (i := 6) scBeside.nd rfl (Or.inl rfl)) pgs_nil)))
          (pss_one (ps_for PassesOwn.never rfl (pi_str (pe_ix ix_list (pv 0) pe_int (fun _ _ => rfl))) (pg_name (i := 7) scBeside.nd rfl (Or.inl rfl))
            (pss_cons (ps_set (i := 8) scBeside.nd rfl (Or.inl rfl) (pe_tup (pa_cons (pe_dget hu (pe_ix ix_list (pv 0) pe_int (fun _ _ => rfl)) (pe_tup (pa_cons (pv 5) (pa_cons (pv 7) pa_nil))) (fun _ _ => rfl)) (pa_cons (pe_dget hu (pe_ix ix_list (pv 1) pe_int (fun _ _ => rfl)) (pe_tup (pa_cons (pv 6) (pa_cons (pv 7) pa_nil))) (fun _ _ => rfl)) pa_nil))))
            (pss_one (ps_if (pt_cmp (pc_dnotin hu (pv 8) (pv 2))) (pss_cons (ps_dput hu (pv 2) (pv 8) (pe_op op_add_str (pe_dget hu (pv 2) (pe_tup (pa_cons (pv 5) (pa_cons (pv 6) pa_nil))) (fun _ _ => rfl)) (pv 7)) rfl)
              (pss_one (ps_expr (pe_bm PySem.F.plainAttrs_list PySem.F.slot_list_append PySem.F.type_list_append mt_append (pv 4) (pa_cons (pv 8) pa_nil))))) pss_nil))))))
        (pss_one (ps_set (i := 3) scBeside.nd rfl (Or.inl rfl) (pv 4))))))
      (pss_one (ps_ret (pv 2))))), ?_⟩
    obtain ⟨ms', emf⟩ := ok.first
    have hfm : firstL p ∈ p.ms := by rw [emf]; exact List.mem_cons_self ..
    have hf0 : (p.ms.map V.str)[0]? = some (.str (firstL p)) := by rw [emf]; rfl
    refine fun d hd => ?_
    have eq1 := keep1 (o := .dT []) eq hd
    have ew1 := keep1 (o := .dT []) ew hd
    refine ⟨_, rfl, q, _, _, V.ref lw, rfl, rfl, SqL.of eq1, atI_nat (j := 1) rfl, lw, _, _, V.str (firstL p), rfl, rfl, SqL.of ew1, atI_nat (j := 0) hf0, ?_⟩
    refine ⟨_, rfl, q, _, _, V.ref lw, rfl, rfl, SqL.of eq1, atI_nat (j := 1) rfl, lw, _, _, V.str (firstL p), rfl, rfl, SqL.of ew1, atI_nat (j := 0) hf0, by show 2 ≤ sizeLine; decide, fun t ht => ?_⟩
    refine ⟨t, k2 (firstL p) (firstL p), rfl, upd_same, keep1 upd_same ht, ?_⟩
    have nH : ∀ b o, H b = some o → b ≠ d := fun b o e => ne_of_none e hd
    have ntd : t ≠ d := (ne_of_none (upd_same (a := d) (H := H) (o := .dT [])) ht).symm
    have s1 : Same H (upd (upd (upd H d (.dT [])) t (.tup [.str (firstL p), .str (firstL p)])) d (.dT [(k2 (firstL p) (firstL p), .str "")])) := fun b o e => by
      have n1 := ne_of_none e hd
      rw [upd_ne n1]
      exact keep1 (keep1 e hd) ht
    have ed1 : upd (upd (upd H d (.dT [])) t (.tup [.str (firstL p), .str (firstL p)])) d (.dT [(k2 (firstL p) (firstL p), .str "")]) d = some (.dT (bD [(k2 (firstL p) (firstL p), [])])) := upd_same
    show tSeq _ _ _ _ _
    generalize upd (upd (upd H d (.dT [])) t (.tup [.str (firstL p), .str (firstL p)])) d (.dT [(k2 (firstL p) (firstL p), .str "")]) = H1 at s1 ed1 ⊢
    clear ht hd eq1 ew1 ntd
    refine ⟨_, rfl, d, _, rfl, .inl ed1, fun lr bs nr ik => ?_⟩
    obtain ⟨b, rfl, eb⟩ : ∃ b, bs = [b] ∧ H1 b = some (.tup [.str (firstL p), .str (firstL p)]) := by
      cases ik with
      | cons h t => cases t; exact ⟨_, rfl, h⟩
    have s2 := s1.trans (same_new (o := .lst [V.ref b]) nr)
    have ed2 := keep1 (o := .lst [V.ref b]) ed1 nr
    have eb2 := keep1 (o := .lst [V.ref b]) eb nr
    have er2 := upd_same (a := lr) (H := H1) (o := .lst [V.ref b])
    show tSeq _ _ _ _ _
    rw [show ([b].map V.ref) = [V.ref b] from rfl]
    generalize upd H1 lr (.lst [V.ref b]) = H2 at s2 ed2 eb2 er2 ⊢
    clear nr ik eb ed1 s1
    have b0 : BesI p [(k2 (firstL p) (firstL p), [])] 0 [] := ⟨bfs_start, by simp, fun x hx => by rw [List.mem_singleton.mp hx]; exact in_pairs.mpr ⟨_, hfm, _, hfm, rfl⟩, fun i x e => by
      cases i with
      | zero => rw [← Option.some.inj e]; exact Nat.zero_le _
      | succ n => cases e⟩
    refine while_by (fun σ H' => ∃ (lr : Addr) (as : List Addr) (n0 : Nat) (L : List (List Key × Row)) (v4 v5 v6 v7 v8 : Option V), σ = [some (.ref q), some (.ref q), some (.ref d), some (.ref lr), v4, v5, v6, v7, v8] ∧ Same H H' ∧ H' d = some (.dT (bD L)) ∧ H' lr = some (.lst (as.map V.ref)) ∧ RowsAt H' L n0 as ∧ BesI p L n0 []) muB
      ⟨lr, [b], 0, _, none, none, none, none, none, rfl, s2, ed2, er2, ⟨rfl, fun j a e => by
        cases j with
        | zero => rw [← Option.some.inj e]; exact ⟨_, _, _, eb2, rfl⟩
        | succ n => cases e⟩, b0⟩ (fun σ H3 h => ?_) ?mono
    case mono =>
      rintro σ H Q Q' m ⟨x, e, z, h⟩
      exact ⟨x, e, z, fun l hl => let ⟨a, b, xs, e1, e2, e3, e4, y, ey, q⟩ := h l hl; ⟨a, b, xs, e1, e2, e3, e4, y, ey, m _ _ q⟩⟩
    obtain ⟨lr, as, n0, L, v4, v5, v6, v7, v8, rfl, s3, ed3, er3, ra3, bi3⟩ := h
    refine ⟨_, rfl, by show 0 ≤ sizeLine; decide, fun l0 h0 => ⟨lr, l0, _, rfl, rfl, SqL.of (keep1 er3 h0), SqL.of upd_same, ?_⟩⟩
    have mu3 := muB_is (σ := [some (.ref q), some (.ref q), some (.ref d), some (.ref lr), v4, v5, v6, v7, v8]) rfl rfl ed3 er3
    rw [mu3]
    clear mu3
    have s4 := s3.trans (same_new (o := .lst []) h0)
    have ed4 := keep1 (o := .lst []) ed3 h0
    have er4 := keep1 (o := .lst []) er3 h0
    have ra4 : RowsAt (upd H3 l0 (.lst [])) L n0 as := ⟨ra3.1, fun j a e => by obtain ⟨m, o, r, h1, h2⟩ := ra3.2 j a e; exact ⟨m, o, r, keep1 h1 h0, h2⟩⟩
    show ∃ _, _
    generalize upd H3 l0 (.lst []) = H4 at s4 ed4 er4 ra4 ⊢
    clear h0 ed3 er3 ra3 s3
    have hfew := bi3.few ok
    cases as with
    | nil =>
      refine ⟨_, rfl, ?_⟩
      refine iteF ⟨_, rfl, k d L H4 s4 ed4 ?_⟩
      have : n0 = L.length := ra4.1
      rw [this] at bi3
      exact bi3
    | cons a0 as0 =>
      refine ⟨_, rfl, iteT ?_⟩
      generalize eas : a0 :: as0 = as at er4 ra4
      have las : 0 < as.length := by rw [← eas]; exact Nat.succ_pos _
      clear eas
      refine ⟨by show 0 ≤ sizeLine; decide, fun lf hf => ?_⟩
      have s5 := s4.trans (same_new (o := .lst []) hf)
      have ed5 := keep1 (o := .lst []) ed4 hf
      have er5 := keep1 (o := .lst []) er4 hf
      have ef5 := upd_same (a := lf) (H := H4) (o := .lst [])
      have ra5 : RowsAt (upd H4 lf (.lst [])) L n0 as := ⟨ra4.1, fun j a e => by obtain ⟨m, o, r, h1, h2⟩ := ra4.2 j a e; exact ⟨m, o, r, keep1 h1 hf, h2⟩⟩
      have nfH : ∀ b o, H b = some o → b ≠ lf := fun b o e => ne_of_none (s4 _ _ e) hf
      have ndr : d ≠ lr := ne_of ed4 er4 (by intro z; cases z)
      have ndf : d ≠ lf := ne_of_none ed4 hf
      have nrf : lr ≠ lf := ne_of_none er4 hf
      show tSeq _ _ _ _ _
      generalize upd H4 lf (.lst []) = H5 at s5 ed5 er5 ef5 ra5 ⊢
      clear hf s4 ed4 er4 ra4
      refine ⟨_, rfl, lr, rfl, ⟨_, SqL.of er5⟩, ?_⟩
      refine for_it (walk_listL as V.ref) (fun j σ H' => ∃ (bs : List Addr) (L' : List (List Key × Row)) (v5 v6 v7 v8 : Option V), σ = [some (.ref q), some (.ref q), some (.ref d), some (.ref lr), some (.ref lf), v5, v6, v7, v8] ∧ Ks d lf H5 H' ∧ H' d = some (.dT (bD L')) ∧ H' lf = some (.lst (bs.map V.ref)) ∧ BesI p L' (n0 + j) [] ∧ (∀ i, i < L.length → L'[i]? = L[i]?) ∧ RowsAt H' L' L.length bs)
        ⟨[], L, v5, v6, v7, v8, rfl, fun _ _ _ _ e => e, ed5, ef5, bi3, fun _ _ => rfl, ⟨rfl, fun j a e => by cases e⟩⟩ (fun j σ H' _ h => ?_) (fun j y σ H' H'' hj h hy => ?_) (fun σ H' h => ?_)
      · obtain ⟨_, _, _, _, _, _, _, ks, _⟩ := h
        exact SqL.of (ks _ _ ndr.symm nrf er5)
      · obtain ⟨rfl, hy⟩ := hy
        obtain ⟨bs, L', v5, v6, v7, v8, rfl, ks, ed6, ef6, bi6, pre, ra6⟩ := h
        have hbj : as[j]? = some as[j] := List.getElem?_eq_getElem hj
        obtain rfl := map_get hbj hy
        obtain ⟨m, o, r, ea, eL⟩ := ra5.2 j _ hbj
        generalize as[j] = a at ea
        have lt0 : n0 + j < L.length := by have := ra5.1; omega
        have eL0 := eL
        rw [← pre _ lt0] at eL
        have nad : a ≠ d := ne_of ea ed5 (by intro z; cases z)
        have naf : a ≠ lf := ne_of ea ef5 (by intro z; cases z)
        obtain ⟨m', hm, o', ho, emo⟩ := in_pairs.mp (bi6.inn _ (List.mem_of_getElem? eL))
        obtain ⟨rfl, rfl⟩ : m = m' ∧ o = o' := by
          injection emo with h1 h2
          injection h2 with h2 _
          exact ⟨Sum.inr.inj h1, Sum.inr.inj h2⟩
        clear emo
        refine ⟨a, _, rfl, SqT.of (ks _ _ nad naf ea), rfl, _, _, rfl, _, _, rfl, rfl, ?_⟩
        have hq0 : ∀ {H' : Hp}, Ks d lf H5 H' → ∀ b o, H b = some o → H' b = some o := fun ks b o e => ks _ _ (nH _ _ e) (nfH _ _ e) (s5 _ _ e)
        refine ⟨_, rfl, q, _, _, V.str p.sg, rfl, rfl, SqL.of (hq0 ks _ _ eq), atI_nat (j := 0) rfl, p.sg, rfl, ?_⟩
        refine for_it walk_str (fun i σ H' => ∃ (bs : List Addr) (L' : List (List Key × Row)) (v7 v8 : Option V), σ = [some (.ref q), some (.ref q), some (.ref d), some (.ref lr), some (.ref lf), some (.str m), some (.str o), v7, v8] ∧ Ks d lf H5 H' ∧ H' d = some (.dT (bD L')) ∧ H' lf = some (.lst (bs.map V.ref)) ∧ BesI p L' (n0 + j) (p.sg.cps.toList.take i) ∧ (∀ i, i < L.length → L'[i]? = L[i]?) ∧ RowsAt H' L' L.length bs)
          ⟨bs, L', v7, v8, rfl, ks, ed6, ef6, by simpa using bi6, pre, ra6⟩ (fun _ _ _ _ _ => trivial) (fun i y σ H' H'' hi h hy => ?_) (fun σ H' h => ?_)
        · obtain ⟨rfl, c, hc, rfl⟩ := hy
          obtain ⟨bs, L', v7, v8, rfl, ks, ed6, ef6, bi6, pre, ra6⟩ := h
          rw [← Array.getElem?_toList] at hc
          have hc1 : c ∈ p.sg.cps.toList := List.mem_of_getElem? hc
          have etake : p.sg.cps.toList.take (i + 1) = p.sg.cps.toList.take i ++ [c] := by rw [List.take_add_one, hc]; rfl
          have low : ∀ b ∈ p.sg.cps.toList.take i, b < c := fun b hb => by
            obtain ⟨j, hj⟩ := List.mem_iff_getElem?.mp hb
            have hji : j < i := by
              have := (List.getElem?_eq_some_iff.mp hj).1
              rw [List.length_take] at this
              omega
            rw [List.getElem?_take_of_lt hji] at hj
            obtain ⟨q1, q2⟩ := List.getElem?_eq_some_iff.mp hj
            obtain ⟨q3, q4⟩ := List.getElem?_eq_some_iff.mp hc
            have := List.pairwise_iff_getElem.mp ok.asc j i q1 q3 hji
            rw [q2, q4] at this
            exact this
          rw [etake]
          have eL6 : L'[n0 + j]? = some (k2 m o, r) := by rw [pre _ lt0]; exact eL0
          have h1 := hled m hm c hc1
          have h2 := hled o ho c hc1
          have hq6 := hq0 ks
          refine ⟨_, rfl, q, _, _, V.ref g, rfl, rfl, SqL.of (hq6 _ _ eq), atI_nat (j := 3) rfl, _, rfl, _, rfl, by show 2 ≤ sizeLine; decide, fun ta hta => ⟨g, .str (ledL p m c), rfl, ?_, ?_⟩⟩
          · have := DGet.t (k := kT m c) (keep1 (hq6 _ _ eg) hta) (upd_same (o := .tup ((kT m c).map kV)))
            rw [h1] at this
            exact this
          refine ⟨_, rfl, q, _, _, V.ref g, rfl, rfl, SqL.of (keep1 (hq6 _ _ eq) hta), atI_nat (j := 3) rfl, _, rfl, _, rfl, by show 2 ≤ sizeLine; decide, fun tb htb => ⟨g, .str (ledL p o c), rfl, ?_, by show 2 ≤ sizeLine; decide, fun tq htq => ?_⟩⟩
          · have := DGet.t (k := kT o c) (keep1 (keep1 (hq6 _ _ eg) hta) htb) (upd_same (o := .tup ((kT o c).map kV)))
            rw [h2] at this
            exact this
          have s7 := ((same_new (o := .tup [.str m, .str (sg c)]) hta).trans (same_new (o := .tup [.str o, .str (sg c)]) htb)).trans (same_new (o := .tup [.str (ledL p m c), .str (ledL p o c)]) htq)
          have etq := upd_same (a := tq) (H := upd (upd H'' ta (.tup [.str m, .str (sg c)])) tb (.tup [.str o, .str (sg c)])) (o := .tup [.str (ledL p m c), .str (ledL p o c)])
          show tSeq _ _ _ _ _
          generalize upd (upd (upd H'' ta (.tup [.str m, .str (sg c)])) tb (.tup [.str o, .str (sg c)])) tq (.tup [.str (ledL p m c), .str (ledL p o c)]) = H7 at s7 etq ⊢
          clear hta htb htq h1 h2
          have ks7 : Ks d lf H5 H7 := fun b o n1 n2 e => s7 _ _ (ks b o n1 n2 e)
          have ed7 := s7 _ _ ed6
          have ef7 := s7 _ _ ef6
          have ra7 : RowsAt H7 L' L.length bs := ⟨ra6.1, fun j a e => by obtain ⟨m, o, r, h1, h2⟩ := ra6.2 j a e; exact ⟨m, o, r, s7 _ _ h1, h2⟩⟩
          clear ks ed6 ef6 ra6 s7 hq6
          have hst : stepP p p (k2 m o) c = k2 (ledL p m c) (ledL p o c) := rfl
          refine ⟨_, rfl, _, rfl, d, _, rfl, DGet.t (k := k2 (ledL p m c) (ledL p o c)) ed7 etq, _, rfl, ?_⟩
          by_cases hm7 : k2 (ledL p m c) (ledL p o c) ∈ L'.map (·.1)
          · rw [(bD_has _ _).mpr hm7]
            obtain ⟨z, hz, ez⟩ := List.mem_map.mp hm7
            refine iteF ⟨bs, L', _, _, rfl, ks7, ed7, ef7, ⟨bi6.bf.old eL6 low hz (ez.trans hst.symm), bi6.nd, bi6.inn, bi6.len⟩, pre, ra7⟩
          · have hnot : (valV (bD L') (k2 (ledL p m c) (ledL p o c))).isSome = false := by
              rw [← Bool.not_eq_true]; exact fun z => hm7 ((bD_has _ _).mp z)
            rw [hnot]
            refine iteT ?_
            have hfew' := bi6.few ok
            have lr' : r.length ≤ n0 + j := bi6.len _ _ eL6
            have lt6 := (List.getElem?_eq_some_iff.mp eL6).1
            refine ⟨_, rfl, _, rfl, _, rfl, by show 2 ≤ sizeLine; decide, fun tc htc => ⟨d, .str (rT r), rfl, ?_, ?_⟩⟩
            · have := DGet.t (k := k2 m o) (keep1 ed7 htc) (upd_same (o := .tup ((k2 m o).map kV)))
              rw [bD_at bi6.nd (List.mem_of_getElem? eL6)] at this
              exact this
            have s8 := same_new (o := .tup [.str m, .str o]) htc
            have ed8 := keep1 (o := .tup [.str m, .str o]) ed7 htc
            have ef8 := keep1 (o := .tup [.str m, .str o]) ef7 htc
            have etq8 := keep1 (o := .tup [.str m, .str o]) etq htc
            have ks8 : Ks d lf H5 (upd H7 tc (.tup [.str m, .str o])) := fun b o n1 n2 e => s8 _ _ (ks7 b o n1 n2 e)
            have ra8 : RowsAt (upd H7 tc (.tup [.str m, .str o])) L' L.length bs := ⟨ra7.1, fun j a e => by obtain ⟨m, o, r, h1, h2⟩ := ra7.2 j a e; exact ⟨m, o, r, s8 _ _ h1, h2⟩⟩
            show ∃ _, _
            generalize eH8 : upd H7 tc (.tup [.str m, .str o]) = H8 at ed8 ef8 etq8 ks8 ra8
            have eH8' : upd H7 tc (.tup ((k2 m o).map kV)) = H8 := eH8
            first | rw [eH8] | rw [eH8'] | skip
            clear eH8 eH8' htc s8 ed7 ef7 etq ks7 ra7
            have pk : putK (bD L') (k2 (ledL p m c) (ledL p o c)) (.str (rT (r ++ [c]))) = bD (L' ++ [(k2 (ledL p m c) (ledL p o c), r ++ [c])]) := by
              rw [putK_new _ (Option.isNone_iff_eq_none.mp (by simpa using hnot))]
              show _ = List.map _ (L' ++ _)
              rw [List.map_append]
              rfl
            have zr : (rT r).length = r.length := List.size_toArray ..
            have z1 : ({ cps := #[c] } : Str).length = 1 := rfl
            refine ⟨_, rfl, _, _, rfl, rfl, by rw [zr, z1, sizeLine_eq]; omega, _, rfl, _, rfl, d, upd H8 d (.dT (bD (L' ++ [(k2 (ledL p m c) (ledL p o c), r ++ [c])]))), rfl, ?_, ?_⟩
            · rw [← pk, ← rT_app]
              exact DPut.t (k := k2 (ledL p m c) (ledL p o c)) ed8 etq8 (by rw [List.length_map, sizeLine_eq]; omega)
            have nqd : tq ≠ d := ne_of etq8 ed8 (by intro z; cases z)
            have nqf : tq ≠ lf := ne_of etq8 ef8 (by intro z; cases z)
            have ef9 : upd H8 d (.dT (bD (L' ++ [(k2 (ledL p m c) (ledL p o c), r ++ [c])]))) lf = some (.lst (bs.map V.ref)) := by rw [upd_ne ndf.symm]; exact ef8
            have l8 := ra8.1
            refine ⟨_, rfl, .inl ⟨rfl, _, SqL.of ef9⟩, _, rfl, lf, _, _, rfl, rfl, ef9, by rw [List.length_map, sizeLine_eq]; omega, ?_⟩
            have bi9 := bi6.put ok eL6 low hc1 (by rw [hst]; exact hm7)
            rw [hst] at bi9
            refine ⟨bs ++ [tq], L' ++ [(k2 (ledL p m c) (ledL p o c), r ++ [c])], _, _, rfl, fun b o n1 n2 e => by rw [upd_ne n2, upd_ne n1]; exact ks8 b o n1 n2 e, by rw [upd_ne ndf]; exact upd_same, by rw [upd_same, List.map_append]; rfl, bi9, fun i hi => ?_, ⟨?_, fun j a e => ?_⟩⟩
            · rw [List.getElem?_append_left (by omega)]
              exact pre i hi
            · rw [List.length_append, List.length_append, ← l8]
              show _ + (bs.length + 1) = _ + 1
              omega
            · rw [List.getElem?_append] at e
              split at e
              · rename_i hjl
                obtain ⟨m', o', r', g1, g2⟩ := ra8.2 j a e
                have n1 : a ≠ d := ne_of g1 ed8 (by intro z; cases z)
                have n2 : a ≠ lf := ne_of g1 ef8 (by intro z; cases z)
                refine ⟨m', o', r', by rw [upd_ne n2, upd_ne n1]; exact g1, ?_⟩
                rw [List.getElem?_append_left (by omega)]
                exact g2
              · rename_i hjl
                have : j = bs.length ∧ a = tq := by
                  cases hz : j - bs.length with
                  | zero => rw [hz] at e; exact ⟨by omega, (Option.some.inj e).symm⟩
                  | succ m => rw [hz] at e; cases e
                obtain ⟨rfl, rfl⟩ := this
                refine ⟨_, _, r ++ [c], by rw [upd_ne nqf, upd_ne nqd]; exact etq8, ?_⟩
                rw [l8, List.getElem?_append_right (Nat.le_refl _), Nat.sub_self]
                rfl
        · obtain ⟨bs, L', v7, v8, rfl, ks, ed6, ef6, bi6, pre, ra6⟩ := h
          rw [show p.sg.cps.size = p.sg.cps.toList.length from (Array.length_toList ..).symm, List.take_length] at bi6
          exact ⟨bs, L', _, _, _, _, rfl, ks, ed6, ef6, ⟨bi6.bf.next fun c hc => hc, bi6.nd, bi6.inn, bi6.len⟩, pre, ra6⟩
      · obtain ⟨bs, L', v5, v6, v7, v8, rfl, ks, ed6, ef6, bi6, pre, ra6⟩ := h
        have hfew' := bi6.few ok
        have l5 := ra5.1
        have l6 := ra6.1
        rw [l5] at bi6
        refine ⟨_, rfl, ⟨lf, bs, L.length, L', _, _, _, _, _, rfl, fun b o e => ks _ _ (nH _ _ e) (nfH _ _ e) (s5 _ _ e), ed6, ef6, ra6, bi6⟩, ?_⟩
        show muB _ _ < _
        show muB [some (.ref q), some (.ref q), some (.ref d), some (.ref lf), some (.ref lf), v5, v6, v7, v8] H' < _
        rw [muB_is (σ := [some (.ref q), some (.ref q), some (.ref d), some (.ref lf), some (.ref lf), v5, v6, v7, v8]) rfl rfl ed6 ef6, List.length_map, List.length_map, List.length_map, List.length_map]
        omega
end
end My
set_option pp.maxSteps 1500
namespace My
open PySem PySem.Spec PyProof.Rows L2 PySem.GX L2H NdefX LamX
/-! check_rule, first_good, and what they refuse -/
structure InR (K : PySem.W.Frag) (C : Addr) : Prop where
  cl : Cls K C
  ha : PySem.W.findIn K (.ref C) "__class__" = some (some (.builtin "object.__class__"))
  hn : PySem.W.specialIn K (.builtin "object.__class__") "__get__" = some (some (.builtin "getset_descriptor.__get__"))
  tk : PySem.W.takesIn K (.builtin "object.__class__") = some true
  mo : PySem.W.mroIn K C (.type "object") = some true
  kit : PySem.W.kitOne K (.ref C) (.ref C) = some true
/-- no plain value is an object of the class -/
def noU (K : PySem.W.Frag) (CU : Addr) : Bool := ["str", "int", "bool", "NoneType", "list", "tuple", "dict"].all fun t => PySem.W.kitOne K (.type t) (.ref CU) == some false
theorem sh_noU {K : PySem.W.Frag} {H : Hp} {CU : Addr} {v : V} {d : PyData} (q : noU K CU = true) (h : Sh K H v d) : ∃ ty, TyX K H v ty ∧ PySem.W.kitOne K ty (.ref CU) = some false := by
  have f : ∀ t ∈ ["str", "int", "bool", "NoneType", "list", "tuple", "dict"], PySem.W.kitOne K (.type t) (.ref CU) = some false := fun t ht => beq_iff_eq.mp (List.all_eq_true.mp q t ht)
  cases h with
  | fl f' =>
    cases f' with
    | non => exact ⟨_, .base .non, f _ (by simp)⟩
    | bl b => exact ⟨_, .base (.bl b), f _ (by simp)⟩
    | int i => exact ⟨_, .base (.int i), f _ (by simp)⟩
    | str x => exact ⟨_, .base (.str x), f _ (by simp)⟩
  | lst h t =>
    rcases h with (h | ⟨o, h⟩) | ⟨o, its, n, hk, hc, _⟩
    · exact ⟨_, .base (.lst h), f _ (by simp)⟩
    · exact ⟨_, .base (.frz h), f _ (by simp)⟩
    · exact ⟨_, .kList hk hc, f _ (by simp)⟩
  | tup h t =>
    rcases h with (h | ⟨o, h⟩) | ⟨o, its, n, hk, hc, _⟩
    · exact ⟨_, .base (.tup h), f _ (by simp)⟩
    · exact ⟨_, .fTuple h, f _ (by simp)⟩
    · exact ⟨_, .kTuple hk hc, f _ (by simp)⟩
  | dic h _ _ => exact ⟨_, .base (.dK h), f _ (by simp)⟩
abbrev fgA : Arguments × Expr × Scope := match (defBody sFirstGood).getD 1 (.Pass ⟨0, 0, 0, 0⟩) with
  | .Return (some (.Call _ [_, _, .Lambda a e s _] _ _)) _ => (a, e, s)
  | _ => (default, .Constant .none 0 ⟨0, 0, 0, 0⟩, default)
abbrev qFg : Str := ("first_good.<locals>.<lambda>" : Str)
def ftL : Bool → Bool → Bool := fun x _ => x
abbrev nLR : List Str := ["left", "right"]
def spFirstGd (T : List (Addr × Str)) (C : Addr) : Sp := fun vs H Q _ => ∃ (a : Addr) (t : Str) (p : Parts), vs = [.ref a] ∧ Tabs T H ∧ RuleAt H C a t p ∧ PartsOk p ∧
  ∀ (o : Option Row) (H' : Hp), ExtN H H' → Tabs T H' → IsFirst p.sg.cps.toList (fun r => goodOf p r = true) o → Q (rowV o) H'
/-- a value that is no rule -/
def spCkX (K : PySem.W.Frag) (CU CR : Addr) : Sp := fun vs H Q E => ∃ (v : V) (ty : Value), vs = [v] ∧ TyX K H v ty ∧ PySem.W.kitOne K ty (.ref CU) = some false ∧ ∀ d H', Same H H' → H' d = some (exd d [("given", v)]) → E (.ref CR) (some d) H'
def spManyN (K : PySem.W.Frag) (CU CR : Addr) : Sp := fun vs H Q E => ∃ (v n : V) (ty : Value), vs = [v, n] ∧ TyX K H v ty ∧ PySem.W.kitOne K ty (.ref CU) = some false ∧ ∀ d H', Same H H' → H' d = some (exd d [("given", v)]) → E (.ref CR) (some d) H'
def spManyB (K : PySem.W.Frag) (CU CN : Addr) : Sp := fun vs H Q E => ∃ (a : Addr) (t : Str) (p : Parts) (v : V) (d : PyData), vs = [.ref a, v] ∧ RuleAt H CU a t p ∧ Sh K H v d ∧ inb d 0 1000 = false ∧ ∀ d H', Same H H' → H' d = some (exd d [("given", v)]) → E (.ref CN) (some d) H'
section
variable {P : Program} {w : World} {K : PySem.W.Frag} {mg : Str → Option Value} {base : Heap} {CU CR CN : Addr}
theorem isi_ruleR {H : Hp} {r : Addr} {t : Str} {p : Parts} (I : InR K CU) (h : RuleAt H CU r t p) : TyX K H (.ref r) (.ref CU) := by
  obtain ⟨dx, M, G, D, e, _⟩ := h
  exact .base (.ins e I.cl I.ha I.hn I.tk I.mo)
theorem scCkR : FnScope ["value"] ["value"] (defScope sCRule) := ⟨rfl, rfl, rfl, by decide +kernel, rfl, by decide +kernel, by decide +kernel⟩
theorem ok_ckR1 {f : Addr} {fd : FuncData} (F : Fun K "check_rule" "check_rule" sCRule f fd) (I : InR K CU) (hIs : mg "isinstance" = none) (gU : mg "Rule" = some (.ref CU)) : FnOk P w K mg base CX0 1 f fd ["value"] (spCkR1 CU) := by
  refine F.ok scCkR (fun vs H Q E h => ?_) (fun cdv A outer s H vs Q E hr h => ?_)
  · obtain ⟨r, t, p, rfl, _⟩ := h
    rfl
  · obtain ⟨r, t, p, rfl, hR, k⟩ := h
    refine ⟨_, pss_one (ps_if (pt_not (pt_val (pe_callB call_isi (by rfl) hIs (by decide +kernel) (pa_cons (pv 0) (pa_cons (pe_glob (v := .ref CU) rfl gU rfl) pa_nil))))) (pss_one ps_never) pss_nil), ?_⟩
    exact ⟨_, rfl, .ref r, .ref CU, _, .ref CU, true, rfl, .own _, isi_ruleR I hR, I.kit, _, rfl, iteF (k H (Same.refl _))⟩
theorem ok_ckX {f : Addr} {fd : FuncData} (F : Fun K "check_rule" "check_rule" sCRule f fd) (Z : RzC P w K mg base "NotARule" CR) (hIs : mg "isinstance" = none) (gU : mg "Rule" = some (.ref CU)) : FnOk P w K mg base (L2N.CX P w) 3 f fd ["value"] (spCkX K CU CR) := by
  refine F.okN scCkR (fun vs H Q E h => ?_) (fun cdv A outer s H vs Q E hr h => ?_)
  · obtain ⟨v, ty, rfl, _⟩ := h
    rfl
  · obtain ⟨v, ty, rfl, hty, hk, k⟩ := h
    refine ⟨_, pss_one (ps_if (pt_not (pt_val (pe_callB call_isi (by rfl) hIs (by decide +kernel) (pa_cons (pv 0) (pa_cons (pe_glob (v := .ref CU) rfl gU rfl) pa_nil))))) (pss_one (ps_raise1 Z.mk1 hr rfl rfl rfl (L2N.takes_of rfl rfl rfl rfl) (pa_cons (pv 0) pa_nil))) pss_nil), ?_⟩
    refine ⟨_, rfl, v, .ref CU, ty, .ref CU, false, rfl, .own _, hty, hk, _, rfl, iteT ?_⟩
    exact ⟨_, rfl, _, rfl, fun a' d' H2 na ne s2 ex => rs1_end (X := cxOf (L2N.CX P w) P w K mg base _ _ _ f cdv A outer s H E) (W := fun cls d _ H => E cls d H) (σ := []) (raises_own Z.b1 Z.b2) (Same.refl _) na ne s2 ex fun H3 s3 e3 => k d' H3 s3 e3⟩
theorem ok_manyN {f : Addr} {fd : FuncData} (F : Fun K "many" "many" sMany f fd) (hC : HvX P w K mg base 3 "check_rule" ["value"] (spCkX K CU CR)) : FnOk P w K mg base (L2N.CX P w) 4 f fd ["rule", "number"] (spManyN K CU CR) := by
  refine F.okN scMany (fun vs H Q E h => ?_) (fun cdv A outer s H vs Q E hr h => ?_)
  · obtain ⟨v, n, ty, rfl, _⟩ := h
    rfl
  · obtain ⟨v, n, ty, rfl, hty, hk, k⟩ := h
    refine ⟨_, pss_cons (ps_expr (pe_clX hC hr rfl (L2N.passes_call (L2N.takes_of rfl rfl rfl rfl) (fun _ _ _ _ z => z)) (pa_cons (pv 0) pa_nil)))
      (pss_cons ps_never (pss_cons ps_never (pss_cons ps_never (pss_cons ps_never (pss_one ps_never))))), ?_⟩
    exact ⟨_, rfl, v, ty, rfl, hty, hk, k⟩
theorem ok_manyB {f : Addr} {fd : FuncData} {tM : Tok} (F : Fun K "many" "many" sMany f fd) (hC : Hv P w K mg base 1 "check_rule" ["value"] (spCkR1 CU)) (hIb : Hv P w K mg base 1 "in_bounds" ["value", "low", "high"] (spInB K)) (gM : mg "MOST_ROW" = some (.int 1000 tM)) (Z : RzC P w K mg base "InvalidNumber" CN) :
    FnOk P w K mg base (L2N.CX P w) 4 f fd ["rule", "number"] (spManyB K CU CN) := by
  refine F.okN scMany (fun vs H Q E h => ?_) (fun cdv A outer s H vs Q E hr h => ?_)
  · obtain ⟨a, t, p, v, d, rfl, _⟩ := h
    rfl
  · obtain ⟨a, t, p, v, d, rfl, hA, hd, hb, k⟩ := h
    have hr1 := hr.mono (by decide : 1 ≤ 3)
    have hr2 := hr.mono (by decide : 2 ≤ 3)
    refine ⟨_, pss_cons (ps_expr (pe_cl hC hr1 rfl pass0 (pa_cons (pv 0) pa_nil)))
      (pss_cons (ps_if (pt_not (pt_val (pe_cl hIb hr1 rfl pass0 (pa_cons (pv 1) (pa_cons pe_int (pa_cons (pe_glob (v := .int 1000) rfl gM ⟨_, rfl⟩) pa_nil)))))) (pss_one (ps_raise1 Z.mk1 hr2 rfl rfl rfl (L2N.takes_of rfl rfl rfl rfl) (pa_cons (pv 1) pa_nil))) pss_nil)
      (pss_cons ps_never (pss_cons ps_never (pss_cons ps_never (pss_one ps_never))))), ?_⟩
    refine ⟨_, rfl, a, t, p, rfl, hA, fun H1 s1 => ?_⟩
    refine ⟨_, rfl, v, d, 0, 1000, rfl, Sh.ext (ExtN.of s1) hd, _, rfl, ?_⟩
    rw [hb]
    refine iteT ?_
    exact ⟨_, rfl, _, rfl, fun a' d' H2 na ne s2 ex => rs1_end (X := cxOf (L2N.CX P w) P w K mg base _ _ _ f cdv A outer s H E) (W := fun cls d _ H => E cls d H) (σ := []) (raises_own Z.b1 Z.b2) s1 na ne s2 ex fun H3 s3 e3 => k d' H3 (s1.trans s3) e3⟩
theorem scFirstGd : FnScope ["rule"] ["rule"] (defScope sFirstGood) := ⟨rfl, rfl, rfl, by decide +kernel, rfl, by decide +kernel, by decide +kernel⟩
theorem ok_firstGdN {f : Addr} {fd : FuncData} (F : Fun K "first_good" "first_good" sFirstGood f fd) (hC : HvX P w K mg base 3 "check_rule" ["value"] (spCkX K CU CR)) : FnOk P w K mg base (L2N.CX P w) 4 f fd ["rule"] (spCkX K CU CR) := by
  refine F.okN scFirstGd (fun vs H Q E h => ?_) (fun cdv A outer s H vs Q E hr h => ?_)
  · obtain ⟨v, ty, rfl, _⟩ := h
    rfl
  · obtain ⟨v, ty, rfl, hty, hk, k⟩ := h
    refine ⟨_, pss_cons (ps_expr (pe_clX hC hr rfl (L2N.passes_call (L2N.takes_of rfl rfl rfl rfl) (fun _ _ _ _ z => z)) (pa_cons (pv 0) pa_nil))) (pss_one ps_never), ?_⟩
    exact ⟨_, rfl, v, ty, rfl, hty, hk, k⟩
theorem scFgA : NScope nLR ["left", "right"] [] fgA.2.2 := nscope_by (by decide +kernel)
theorem run_fgA {f : Addr} {F : NF} (hF : ∃ q cl c', F = ⟨"<lambda>", q, fgA.1, [], fgA.2.2, cl, c'⟩) : COk P w K mg base 1 f (LamO f F fgA.2.1) F ["left", "right"] [] (spB ftL) := by
  obtain ⟨q, cl, c', rfl⟩ := hF
  refine cok_lam (k := 0) (N := nLR) scFgA (fun pm ctv us hl => ?_) (fun ws vs H Q E h => ?_) (fun A outer s H vs ws Q E hr hf hc hl h => ?_)
  · match us, hl with
    | [_, _], _ => rfl
  · obtain ⟨x, y, rfl, _⟩ := h
    rfl
  · obtain ⟨x, y, rfl, k⟩ := h
    have e0 : ws = [] := List.length_eq_zero_iff.mp hl
    subst e0
    refine ⟨_, pv 0, ?_⟩
    exact ⟨_, rfl, k H (Same.refl _)⟩
theorem freeFgA : ∀ y ∈ fgA.2.2.names, y.2 = .free → (defScope sFirstGood).names.lookup y.1 = some .cell ∨ (defScope sFirstGood).names.lookup y.1 = some .free := by decide +kernel
theorem ok_firstGd {g C cR PT : Addr} {od an : Option Addr} {oc kV dc pm ct : Value} {osl : Array (Option Value)} {T : List (Addr × Str)} (lk : K.lookup g = some ⟨oc, od, .func (PySem.W.fnOf "first_good" "first_good" (defArgs sFirstGood) (defBody sFirstGood) (defScope sFirstGood) .none kV dc pm an (.ref cR) ct), osl⟩) (hcd : PySem.W.codeIn K (.ref cR) "first_good" = true)
    (TB : TabB base mg cR PT) (hm : (PT, qFg) ∈ T) (hu : ∀ p ∈ T, p.1 = PT → p.2 = qFg) (hC : Hv P w K mg base 1 "check_rule" ["value"] (spCkR1 C)) (hFS : Hv P w K mg base 4 "first_shown" ["one", "other", "test"] (spFirstSh K P w mg base T C)) :
    FnOk P w K mg base CX0 5 g (PySem.W.fnOf "first_good" "first_good" (defArgs sFirstGood) (defBody sFirstGood) (defScope sFirstGood) .none kV dc pm an (.ref cR) ct) ["rule"] (spFirstGd T C) := by
  refine fn_of lk hcd scFirstGd (fun vs H Q E h => ?_) (fun A outer s H vs Q E hr h => ?_)
  · obtain ⟨a, t, p, rfl, _⟩ := h
    rfl
  · obtain ⟨a, t, p, rfl, hT, hA, ok, k⟩ := h
    have hr1 := hr.mono (by decide : 1 ≤ 4)
    refine ⟨_, pss_cons (ps_expr (pe_cl hC hr1 rfl pass0 (pa_cons (pv 0) pa_nil)))
      (pss_one (ps_ret (pe_cl hFS hr rfl pass0 (pa_cons (pv 0) (pa_cons (pv 0) (pa_cons (pe_lamO (T := T) (c := cR) (P := PT) TB rfl hm hu rfl freeFgA) pa_nil)))))), ?_⟩
    refine ⟨_, rfl, a, t, p, rfl, hA, fun H0 s0 => ?_⟩
    refine ⟨_, rfl, _, rfl, hT.ext s0, fun f c' H1 eN T1 f0 f1 c1 => ?_⟩
    have x1 := ext_trans (ext_of s0) eN
    refine ⟨a, a, f, t, t, p, p, ftL, rfl, T1, hA.ext x1, ok, hA.ext x1, ok, rfl, ⟨_, _, _, _, _, clo_nil (by rfl) (run_fgA ⟨_, _, c', rfl⟩) f1 c1⟩, fun o H2 eN2 T2 ho => k o H2 (ext_trans x1 eN2) T2 ho⟩
end
end My
set_option pp.maxSteps 1500
namespace My
open PySem PySem.Spec PyProof.Rows L2 PySem.GX PySem.W PySem.SeqAt
/-! min of a list of pairs (length, row) -/
def rwT (r : My.Row) : Str := ⟨r.toArray⟩
def dR (r : My.Row) : PyData := .tuple [.int (r.length : Int), .str (rwT r)]
theorem rwT_inj {a b : My.Row} (h : rwT a = rwT b) : a = b := by
  have := congrArg (fun s : Str => s.cps.toList) h
  simpa [rwT] using this
theorem eqv_intK (a b : Int) : PyData.eqv (.int a) (.int b) = decide (a = b) := by
  simp [PyData.eqv]
  by_cases h : a = b
  · subst h; simp
  · simp [h]
theorem eqv_strK (a b : Str) : PyData.eqv (.str a) (.str b) = decide (a = b) := by
  simp [PyData.eqv]
  by_cases h : a = b
  · subst h; simp
  · simp [h]
theorem lt_R (a b : My.Row) : dataLt (dR a) (dR b) = true ↔ slt a b := by
  have hl : ∀ r : My.Row, (rwT r).cps.toList = r := fun r => by simp [rwT]
  unfold dR
  rw [dataLt_tuple]
  by_cases e : a.length = b.length
  · rw [dataLt_all_yes (by rfl) (by rw [eqv_intK, e]; simp)]
    by_cases e2 : a = b
    · subst e2
      rw [dataLt_all_yes (by rfl) (by rw [eqv_strK]; simp)]
      exact ⟨fun z => absurd z (by decide), fun z => (slt_irrefl z).elim⟩
    · rw [dataLt_all_no (by rfl) (by rw [eqv_strK]; exact decide_eq_false fun z => e2 (rwT_inj z)), dataLt_str, hl, hl, decide_eq_true_eq]
      refine ⟨fun h => .inr ⟨e, h⟩, fun h => ?_⟩
      rcases h with h | h
      · omega
      · exact h.2
  · rw [dataLt_all_no (by rfl) (by rw [eqv_intK]; exact decide_eq_false fun z => e (by omega)), dataLt_int, decide_eq_true_eq]
    refine ⟨fun h => .inl (by omega), fun h => ?_⟩
    rcases h with h | h
    · omega
    · exact absurd h.1 e
theorem min_R : ∀ (rs : List My.Row) (r : My.Row), ∃ m, m ∈ r :: rs ∧ minD (dR r) (rs.map dR) = dR m ∧ ∀ x ∈ r :: rs, sle m x
  | [], r => ⟨r, List.mem_cons_self, rfl, fun x hx => by rw [List.mem_singleton.mp hx]; exact .inl rfl⟩
  | a :: rs, r => by
    show ∃ m, m ∈ r :: a :: rs ∧ minD (if dataLt (dR a) (dR r) then dR a else dR r) (rs.map dR) = dR m ∧ _
    by_cases c : dataLt (dR a) (dR r) = true
    · rw [if_pos c]
      have c := (lt_R a r).mp c
      obtain ⟨m, h1, h2, h3⟩ := min_R rs a
      refine ⟨m, List.mem_cons_of_mem _ h1, h2, fun x hx => ?_⟩
      rcases List.mem_cons.mp hx with rfl | hx
      · exact .inr (sle_slt (h3 a List.mem_cons_self) c)
      · exact h3 x hx
    · rw [if_neg c]
      have c : ¬ slt a r := fun z => c ((lt_R a r).mpr z)
      obtain ⟨m, h1, h2, h3⟩ := min_R rs r
      refine ⟨m, ?_, h2, fun x hx => ?_⟩
      · rcases List.mem_cons.mp h1 with rfl | h1
        · exact List.mem_cons_self
        · exact List.mem_cons_of_mem _ (List.mem_cons_of_mem _ h1)
      · rcases List.mem_cons.mp hx with rfl | hx
        · exact h3 _ List.mem_cons_self
        · rcases List.mem_cons.mp hx with rfl | hx
          · have q := h3 r List.mem_cons_self
            rcases slt_three x r with z | z | z
            · exact absurd z c
            · rw [z]; exact q
            · exact sle_trans q (.inr z)
          · exact h3 x (List.mem_cons_of_mem _ hx)
theorem dR_inj {a b : My.Row} (h : dR a = dR b) : a = b := by
  injection h with h
  injection h with _ h
  injection h with h _
  injection h with h
  exact rwT_inj h
theorem dR_plain (r : My.Row) : (dR r).plain = true := rfl
theorem alikeAll_R (rs : List My.Row) : AlikeAll (rs.map dR) := by
  refine ⟨fun x hx y hy => ?_, fun x hx => ?_⟩
  · obtain ⟨i, _, rfl⟩ := List.mem_map.mp hx
    obtain ⟨j, _, rfl⟩ := List.mem_map.mp hy
    rfl
  · obtain ⟨i, _, rfl⟩ := List.mem_map.mp hx
    intro z
    cases z
theorem depth_R : ∀ rs : List My.Row, PyData.depthAll (rs.map dR) ≤ 1
  | [] => Nat.zero_le _
  | r :: rs => by
    show max (dR r).depth (PyData.depthAll (rs.map dR)) ≤ 1
    have := depth_R rs
    have : (dR r).depth = 1 := rfl
    omega
theorem vals_back : ∀ {xs : List V} {us : List Value} {i : Nat} {u : Value}, Vals xs us → us[i]? = some u → ∃ x, xs[i]? = some x ∧ RelV x u
  | _, _, i, _, .nil, e => by simp at e
  | _, _, 0, _, .cons h t, e => ⟨_, rfl, by simp at e; rw [← e]; exact h⟩
  | _, _, i + 1, _, .cons h t, e => by
    obtain ⟨y, h1, h2⟩ := vals_back (i := i) t (by simpa using e)
    exact ⟨y, by simpa using h1, h2⟩
def rMinR (K : PySem.W.Frag) : List V → Hp → VK → Prop := fun vs H Q => ∃ (a : Addr) (xs : List V) (rs : List My.Row), vs = [V.ref a] ∧ SqL K H a xs ∧ DpAll K H xs (rs.map dR) ∧ rs ≠ [] ∧
  ∀ (i : Nat) (x : V) (r : My.Row), xs[i]? = some x → rs[i]? = some r → (∀ y ∈ rs, sle r y) → Q x H
theorem cr_minR {X : Cx} (hc : X.calm = true) (hu : X.A.units + 64 < cLine) : CallR X (.builtin "min") (rMinR X.K) := by
  intro pins s σ H xs us Q I rx h
  obtain ⟨a, ys, rs, rfl, hs, hd, hne, hm⟩ := h
  obtain ⟨its, rv, hl, _⟩ := I.list hs
  rw [Vals.ref1 rx]
  obtain ⟨as, hr⟩ := Dp.readsAll I (rs.map dR) ys its hd rv
  cases rs with
  | nil => exact absurd rfl hne
  | cons r rs =>
    have hr' : ReadsAll s.heap its.toArray.toList (dR r :: rs.map dR) as := by simpa using hr
    refine min_list_data (I.ok.hd hc) hl.isList hr' (by have := alikeAll_R (r :: rs); simpa using this) (by have := depth_R (r :: rs); rw [List.map_cons] at this; omega) fun i v h' tk bs hv rd hk => ?_
    obtain ⟨m, m1, m2, m3⟩ := min_R rs r
    rw [m2] at rd
    obtain ⟨bs', r1, _⟩ := readsAll_atA hr' i v hv
    have r1' := reads_keeps hk r1
    have hv' : its[i]? = some v := by simpa using hv
    obtain ⟨x, hx, rx'⟩ : ∃ x, ys[i]? = some x ∧ RelV x v := vals_back rv hv'
    have li : i < (r :: rs).length := by
      have l1 : its.toArray.size = (dR r :: rs.map dR).length := readsAll_len hr'
      rw [List.length_cons, List.length_map] at l1
      have l2 : i < its.length := (List.getElem?_eq_some_iff.mp hv').1
      have : its.toArray.size = its.length := by simp
      have : (rs.map dR).length = rs.length := List.length_map ..
      rw [List.length_cons]
      omega
    have er : (r :: rs)[i]? = some ((r :: rs)[i]'li) := List.getElem?_eq_getElem li
    generalize (r :: rs)[i]'li = ri at er
    have ed : (dR r :: rs.map dR).getD i .none = dR ri := by
      have : (dR r :: rs.map dR) = (r :: rs).map dR := rfl
      rw [this, List.getD_eq_getElem?_getD, List.getElem?_map, er]
      rfl
    rw [ed] at r1'
    have := dR_inj (plain_unique _ _ _ _ _ (dR_plain ri) r1' rd)
    subst this
    exact ⟨x, H, I.kept hk, rx', hm i x _ hx er m3⟩
end My
namespace My
open PySem PySem.Spec PyProof.Rows L2 PySem.GX L2H
abbrev wd : List Str := ["text", "row", "kind", "number", "mood", "sign", "paper", "rule", "others", "many", "kept"]
abbrev cn : List Str := ["InvalidText", "InvalidRow", "InvalidKind", "InvalidNumber", "InvalidMood", "InvalidSign", "InvalidPaper", "NotARule", "OtherSigns", "TooMany", "Kept"]
/-- the lists at as hold pairs of a text and a bool -/
inductive Rp (H : Hp) : List Addr → List (Str × Bool) → Prop
  | nil : Rp H [] []
  | cons {a : Addr} {x : Str} {b : Bool} {as : List Addr} {rs : List (Str × Bool)} : H a = some (.lst [.str x, .bl b]) → Rp H as rs → Rp H (a :: as) ((x, b) :: rs)
theorem Rp.same {H H' : Hp} (s : Same H H') : ∀ {as : List Addr} {rs : List (Str × Bool)}, Rp H as rs → Rp H' as rs
  | _, _, .nil => .nil
  | _, _, .cons e t => .cons (s _ _ e) (Rp.same s t)
theorem Rp.len {H : Hp} : ∀ {as : List Addr} {rs : List (Str × Bool)}, Rp H as rs → as.length = rs.length
  | _, _, .nil => rfl
  | _, _, .cons _ t => by simp [Rp.len t]
theorem Rp.app {H : Hp} : ∀ {as bs : List Addr} {rs us : List (Str × Bool)}, Rp H as rs → Rp H bs us → Rp H (as ++ bs) (rs ++ us)
  | _, _, _, _, .nil, t => t
  | _, _, _, _, .cons e r, t => .cons e (Rp.app r t)
theorem Rp.get {H : Hp} : ∀ {as : List Addr} {rs : List (Str × Bool)} {i : Nat} {a : Addr} {r : Str × Bool}, Rp H as rs → as[i]? = some a → rs[i]? = some r → H a = some (.lst [.str r.1, .bl r.2])
  | _, _, _, _, _, .nil, e, _ => by simp at e
  | _, _, 0, _, _, .cons e _, e1, e2 => by simp at e1 e2; subst e1; subst e2; exact e
  | _, _, i + 1, a, r, .cons _ t, e1, e2 => Rp.get (i := i) t (by simpa using e1) (by simpa using e2)
/-- the list l holds such pairs; what stood in H0 stands -/
structure Sp2 (H0 H : Hp) (l : Addr) (rs : List (Str × Bool)) : Prop where
  sm : Same H0 H
  ex : ∃ as : List Addr, H l = some (.lst (as.map V.ref)) ∧ Rp H as rs
theorem sp2_new {H0 H : Hp} {q1 q2 l : Addr} {x1 x2 : Str} {b1 b2 : Bool} (s : Same H0 H) (h1 : H q1 = none) (h2 : upd H q1 (.lst [.str x1, .bl b1]) q2 = none) (h3 : upd (upd H q1 (.lst [.str x1, .bl b1])) q2 (.lst [.str x2, .bl b2]) l = none) :
    Sp2 H0 (upd (upd (upd H q1 (.lst [.str x1, .bl b1])) q2 (.lst [.str x2, .bl b2])) l (.lst [.ref q1, .ref q2])) l [(x1, b1), (x2, b2)] :=
  ⟨((s.trans (same_new h1)).trans (same_new h2)).trans (same_new h3), [q1, q2], upd_same, .cons (keep1 (keep1 upd_same h2) h3) (.cons (keep1 upd_same h3) .nil)⟩
theorem sp2_cat {H0 H H' : Hp} {l l2 l3 : Addr} {rs us : List (Str × Bool)} {as bs : List Addr} (s : Same H H') (h : Same H0 H) (el : H l = some (.lst (as.map V.ref))) (ra : Rp H as rs) (e2 : H' l2 = some (.lst (bs.map V.ref))) (rb : Rp H' bs us) (h3 : H' l3 = none) :
    Sp2 H0 (upd H' l3 (.lst (as.map V.ref ++ bs.map V.ref))) l3 (rs ++ us) :=
  ⟨(h.trans s).trans (same_new h3), as ++ bs, by rw [upd_same, List.map_append], ((ra.same s).app rb).same (same_new h3)⟩
theorem sp2_step {H0 H : Hp} {l q1 q2 l2 l3 : Addr} {rs : List (Str × Bool)} {as : List Addr} {x1 x2 : Str} {b1 b2 : Bool} (s0 : Same H0 H) (el : H l = some (.lst (as.map V.ref))) (ra : Rp H as rs) (h1 : H q1 = none) (h2 : upd H q1 (.lst [.str x1, .bl b1]) q2 = none)
    (h3 : upd (upd H q1 (.lst [.str x1, .bl b1])) q2 (.lst [.str x2, .bl b2]) l2 = none) (h4 : upd (upd (upd H q1 (.lst [.str x1, .bl b1])) q2 (.lst [.str x2, .bl b2])) l2 (.lst [.ref q1, .ref q2]) l3 = none) :
    Sp2 H0 (upd (upd (upd (upd H q1 (.lst [.str x1, .bl b1])) q2 (.lst [.str x2, .bl b2])) l2 (.lst [.ref q1, .ref q2])) l3 (.lst (as.map V.ref ++ [.ref q1, .ref q2]))) l3 (rs ++ [(x1, b1), (x2, b2)]) :=
  sp2_cat (bs := [q1, q2]) (((same_new h1).trans (same_new h2)).trans (same_new h3)) s0 el ra upd_same (.cons (keep1 (keep1 upd_same h2) h3) (.cons (keep1 upd_same h3) .nil)) h4
def spClass (p : Addr × Obj) (d : Addr) (i : Nat) : Sp := fun vs H Q _ => ∃ fs : List (Str × V), vs = [.ref p.1] ∧ H d = some (exd d fs) ∧ ∀ H', Same H H' → Q (.str (wd.getD i Str.empty)) H'
theorem class_one : ∀ i, i < 11 → ([("text", decide (0 = i)), ("row", decide (1 = i)), ("kind", decide (2 = i)), ("number", decide (3 = i)), ("mood", decide (4 = i)), ("sign", decide (5 = i)), ("paper", decide (6 = i)), ("rule", decide (7 = i)), ("others", decide (8 = i)), ("many", decide (9 = i)), ("kept", decide (10 = i))] : List (Str × Bool)).filterMap (fun r => if r.2 = true then some r.1 else none) = [wd.getD i Str.empty] := by decide +kernel
section
variable {P : Program} {w : World} {K : PySem.W.Frag} {mg : Str → Option Value} {base : Heap} {p : Addr × Obj} {C d : Addr} {c : Nat → Addr} {i : Nat}
abbrev nClass : List Str := ["_law_e", "_law_sorts", "_law_found", "_law_word", "_law_fits"]
theorem scClass : FnScope nClass ["_law_e"] (defScope sClass) := ⟨rfl, rfl, rfl, by decide +kernel, rfl, by decide +kernel, by decide +kernel⟩
theorem ok_class {f : Addr} {fd : FuncData} (F : Fun K "_law_class" "_law_class" sClass f fd) (hp : PIs p C d) (T : ExcC K C) (hi : i < 11) (gc : ∀ j, j < 11 → mg (cn.getD j Str.empty) = some (.ref (c j))) (kits : ∀ j, j < 11 → PySem.W.kitOne K (.ref C) (.ref (c j)) = some (decide (j = i)))
    (hIs : mg "isinstance" = none) (hL : mg "len" = none) : FnE p P w K mg base 1 f fd ["_law_e"] (spClass p d i) := by
  refine F.okE scClass (fun vs H Q E h => ?_) (fun cdv A outer s H vs Q E hot hr h => ?_)
  · obtain ⟨fs, rfl, _⟩ := h
    rfl
  · obtain ⟨fs, rfl, hd, k⟩ := h
    have hb : Hb (cxH CX0 P w K mg base nClass "_law_class" (defScope sClass) f cdv A outer s H E p) p := Hb.of_pn hot.1 hot.2 (List.mem_singleton.mpr rfl)
    refine ⟨_, pss_cons (ps_set (i := 1) scClass.nd rfl (Or.inl rfl) (pe_lst (pa_cons (pe_lst (pa_cons pe_str (pa_cons (pe_callB (call_isP hb hp T) (by rfl) hIs (by decide +kernel) (pa_cons (pv 0) (pa_cons (pe_glob (v := .ref (c 0)) rfl (gc 0 (by decide)) rfl) pa_nil))) pa_nil)))
          (pa_cons (pe_lst (pa_cons pe_str (pa_cons (pe_callB (call_isP hb hp T) (by rfl) hIs (by decide +kernel) (pa_cons (pv 0) (pa_cons (pe_glob (v := .ref (c 1)) rfl (gc 1 (by decide)) rfl) pa_nil))) pa_nil))) pa_nil))))
      (pss_cons (ps_set (i := 1) scClass.nd rfl (Or.inl rfl) (pe_op op_cat (pv 1) (pe_lst (pa_cons (pe_lst (pa_cons pe_str (pa_cons (pe_callB (call_isP hb hp T) (by rfl) hIs (by decide +kernel) (pa_cons (pv 0) (pa_cons (pe_glob (v := .ref (c 2)) rfl (gc 2 (by decide)) rfl) pa_nil))) pa_nil)))
          (pa_cons (pe_lst (pa_cons pe_str (pa_cons (pe_callB (call_isP hb hp T) (by rfl) hIs (by decide +kernel) (pa_cons (pv 0) (pa_cons (pe_glob (v := .ref (c 3)) rfl (gc 3 (by decide)) rfl) pa_nil))) pa_nil))) pa_nil)))))
      (pss_cons (ps_set (i := 1) scClass.nd rfl (Or.inl rfl) (pe_op op_cat (pv 1) (pe_lst (pa_cons (pe_lst (pa_cons pe_str (pa_cons (pe_callB (call_isP hb hp T) (by rfl) hIs (by decide +kernel) (pa_cons (pv 0) (pa_cons (pe_glob (v := .ref (c 4)) rfl (gc 4 (by decide)) rfl) pa_nil))) pa_nil)))
          (pa_cons (pe_lst (pa_cons pe_str (pa_cons (pe_callB (call_isP hb hp T) (by rfl) hIs (by decide +kernel) (pa_cons (pv 0) (pa_cons (pe_glob (v := .ref (c 5)) rfl (gc 5 (by decide)) rfl) pa_nil))) pa_nil))) pa_nil)))))
      (pss_cons (ps_set (i := 1) scClass.nd rfl (Or.inl rfl) (pe_op op_cat (pv 1) (pe_lst (pa_cons (pe_lst (pa_cons pe_str (pa_cons (pe_callB (call_isP hb hp T) (by rfl) hIs (by decide +kernel) (pa_cons (pv 0) (pa_cons (pe_glob (v := .ref (c 6)) rfl (gc 6 (by decide)) rfl) pa_nil))) pa_nil)))
          (pa_cons (pe_lst (pa_cons pe_str (pa_cons (pe_callB (call_isP hb hp T) (by rfl) hIs (by decide +kernel) (pa_cons (pv 0) (pa_cons (pe_glob (v := .ref (c 7)) rfl (gc 7 (by decide)) rfl) pa_nil))) pa_nil))) pa_nil)))))
      (pss_cons (ps_set (i := 1) scClass.nd rfl (Or.inl rfl) (pe_op op_cat (pv 1) (pe_lst (pa_cons (pe_lst (pa_cons pe_str (pa_cons (pe_callB (call_isP hb hp T) (by rfl) hIs (by decide +kernel) (pa_cons (pv 0) (pa_cons (pe_glob (v := .ref (c 8)) rfl (gc 8 (by decide)) rfl) pa_nil))) pa_nil)))
          (pa_cons (pe_lst (pa_cons pe_str (pa_cons (pe_callB (call_isP hb hp T) (by rfl) hIs (by decide +kernel) (pa_cons (pv 0) (pa_cons (pe_glob (v := .ref (c 9)) rfl (gc 9 (by decide)) rfl) pa_nil))) pa_nil)))
          (pa_cons (pe_lst (pa_cons pe_str (pa_cons (pe_callB (call_isP hb hp T) (by rfl) hIs (by decide +kernel) (pa_cons (pv 0) (pa_cons (pe_glob (v := .ref (c 10)) rfl (gc 10 (by decide)) rfl) pa_nil))) pa_nil))) pa_nil))))))
      (pss_cons (ps_setLcE (i := 2) (own := [("_law_word", 3), ("_law_fits", 4)]) (g := gUnl K 2 (gCons (gName 3) (gCons (gName 4) gNil))) (List.mem_singleton.mpr rfl) hb scClass.nd rfl rfl (sw_true rfl rfl rfl (by decide +kernel)) (pv 1)
          (blkOk_by (N := nClass) (sc := defScope sClass) (by decide +kernel)) (fun _ _ _ _ _ hbb => pg_unlE rfl hbb (pgs_cons (pg_name (i := 3) scClass.nd rfl (Or.inl rfl)) (pgs_cons (pg_name (i := 4) scClass.nd rfl (Or.inl rfl)) pgs_nil)))
          (fun _ _ _ _ _ => pts_one (pt_val (pv 4))) (fun _ _ _ _ _ => pv 3))
      (pss_one (ps_ret (pe_ifExp (pt_cmpR op_eq (pe_callB call_len_seq (by rfl) hL PySem.boot_len (pa_cons (pv 2) pa_nil)) pe_int (nomark _)) (pe_ix ix_list (pv 2) pe_int (fun _ _ => rfl)) pe_str)))))))), ?_⟩
    have two : 2 ≤ sizeLine := by decide
    have three : 3 ≤ sizeLine := by decide
    refine ⟨_, rfl, .ref (c 0), .ref (c 0), decide (0 = i), fs, rfl, hd, .own _, kits 0 (by decide), two, fun q1 h1 => ?_⟩
    refine ⟨_, rfl, .ref (c 1), .ref (c 1), decide (1 = i), fs, rfl, keep1 hd h1, .own _, kits 1 (by decide), two, fun q2 h2 => ⟨two, fun l1 h3 => ?_⟩⟩
    have S := sp2_new (x1 := "text") (x2 := "row") (b1 := decide (0 = i)) (b2 := decide (1 = i)) (Same.refl H) h1 h2 h3
    generalize upd (upd (upd H q1 _) q2 _) l1 _ = H1 at S ⊢
    clear h1 h2 h3
    obtain ⟨s1, as1, el1, ra1⟩ := S
    refine ⟨_, rfl, _, rfl, .ref (c 2), .ref (c 2), decide (2 = i), fs, rfl, s1 _ _ hd, .own _, kits 2 (by decide), two, fun q1 h1 => ?_⟩
    refine ⟨_, rfl, .ref (c 3), .ref (c 3), decide (3 = i), fs, rfl, keep1 (s1 _ _ hd) h1, .own _, kits 3 (by decide), two, fun q2 h2 => ⟨two, fun m1 h3 => ?_⟩⟩
    refine ⟨l1, m1, _, _, rfl, rfl, keep1 (keep1 (keep1 el1 h1) h2) h3, upd_same, ?_, fun l2 h4 => ?_⟩
    · have z := ra1.len
      rw [List.length_map, sizeLine_eq]
      simp only [List.length_cons, List.length_append, List.length_nil] at z ⊢
      omega
    have S := sp2_step (x1 := "kind") (x2 := "number") (b1 := decide (2 = i)) (b2 := decide (3 = i)) s1 el1 ra1 h1 h2 h3 h4
    generalize upd (upd (upd (upd H1 q1 _) q2 _) m1 _) l2 _ = H2 at S ⊢
    clear h1 h2 h3 h4 el1 ra1
    obtain ⟨s2, as2, el2, ra2⟩ := S
    refine ⟨_, rfl, _, rfl, .ref (c 4), .ref (c 4), decide (4 = i), fs, rfl, s2 _ _ hd, .own _, kits 4 (by decide), two, fun q1 h1 => ?_⟩
    refine ⟨_, rfl, .ref (c 5), .ref (c 5), decide (5 = i), fs, rfl, keep1 (s2 _ _ hd) h1, .own _, kits 5 (by decide), two, fun q2 h2 => ⟨two, fun m1 h3 => ?_⟩⟩
    refine ⟨l2, m1, _, _, rfl, rfl, keep1 (keep1 (keep1 el2 h1) h2) h3, upd_same, ?_, fun l3 h4 => ?_⟩
    · have z := ra2.len
      rw [List.length_map, sizeLine_eq]
      simp only [List.length_cons, List.length_append, List.length_nil] at z ⊢
      omega
    have S := sp2_step (x1 := "mood") (x2 := "sign") (b1 := decide (4 = i)) (b2 := decide (5 = i)) s2 el2 ra2 h1 h2 h3 h4
    generalize upd (upd (upd (upd H2 q1 _) q2 _) m1 _) l3 _ = H3 at S ⊢
    clear h1 h2 h3 h4 el2 ra2
    obtain ⟨s3, as3, el3, ra3⟩ := S
    refine ⟨_, rfl, _, rfl, .ref (c 6), .ref (c 6), decide (6 = i), fs, rfl, s3 _ _ hd, .own _, kits 6 (by decide), two, fun q1 h1 => ?_⟩
    refine ⟨_, rfl, .ref (c 7), .ref (c 7), decide (7 = i), fs, rfl, keep1 (s3 _ _ hd) h1, .own _, kits 7 (by decide), two, fun q2 h2 => ⟨two, fun m1 h3 => ?_⟩⟩
    refine ⟨l3, m1, _, _, rfl, rfl, keep1 (keep1 (keep1 el3 h1) h2) h3, upd_same, ?_, fun l4 h4 => ?_⟩
    · have z := ra3.len
      rw [List.length_map, sizeLine_eq]
      simp only [List.length_cons, List.length_append, List.length_nil] at z ⊢
      omega
    have S := sp2_step (x1 := "paper") (x2 := "rule") (b1 := decide (6 = i)) (b2 := decide (7 = i)) s3 el3 ra3 h1 h2 h3 h4
    generalize upd (upd (upd (upd H3 q1 _) q2 _) m1 _) l4 _ = H4 at S ⊢
    clear h1 h2 h3 h4 el3 ra3
    obtain ⟨s4, as4, el4, ra4⟩ := S
    refine ⟨_, rfl, _, rfl, .ref (c 8), .ref (c 8), decide (8 = i), fs, rfl, s4 _ _ hd, .own _, kits 8 (by decide), two, fun q1 h1 => ?_⟩
    refine ⟨_, rfl, .ref (c 9), .ref (c 9), decide (9 = i), fs, rfl, keep1 (s4 _ _ hd) h1, .own _, kits 9 (by decide), two, fun q2 h2 => ?_⟩
    refine ⟨_, rfl, .ref (c 10), .ref (c 10), decide (10 = i), fs, rfl, keep1 (keep1 (s4 _ _ hd) h1) h2, .own _, kits 10 (by decide), two, fun q3 h3 => ⟨three, fun m1 h4 => ?_⟩⟩
    refine ⟨l4, m1, _, _, rfl, rfl, keep1 (keep1 (keep1 (keep1 el4 h1) h2) h3) h4, upd_same, ?_, fun l5 h5 => ?_⟩
    · have z := ra4.len
      rw [List.length_map, sizeLine_eq]
      simp only [List.length_cons, List.length_append, List.length_nil] at z ⊢
      omega
    have S : Sp2 H (upd (upd (upd (upd (upd H4 q1 (.lst [.str "others", .bl (decide (8 = i))])) q2 (.lst [.str "many", .bl (decide (9 = i))])) q3 (.lst [.str "kept", .bl (decide (10 = i))])) m1 (.lst [.ref q1, .ref q2, .ref q3])) l5 (.lst (as4.map V.ref ++ [.ref q1, .ref q2, .ref q3]))) l5 _ :=
      sp2_cat (bs := [q1, q2, q3]) (us := [("others", decide (8 = i)), ("many", decide (9 = i)), ("kept", decide (10 = i))]) ((((same_new h1).trans (same_new h2)).trans (same_new h3)).trans (same_new h4)) s4 el4 ra4 upd_same (.cons (keep1 (keep1 (keep1 upd_same h2) h3) h4) (.cons (keep1 (keep1 upd_same h3) h4) (.cons (keep1 upd_same h4) .nil))) h5
    generalize upd (upd (upd (upd (upd H4 q1 _) q2 _) q3 _) m1 _) l5 _ = H5 at S ⊢
    clear h1 h2 h3 h4 h5 el4 ra4
    obtain ⟨s5, as5, el5, ra5⟩ := S
    generalize eR : ([("text", decide (0 = i)), ("row", decide (1 = i))] : List (Str × Bool)) ++ ([("kind", decide (2 = i)), ("number", decide (3 = i))] : List (Str × Bool)) ++ ([("mood", decide (4 = i)), ("sign", decide (5 = i))] : List (Str × Bool)) ++ ([("paper", decide (6 = i)), ("rule", decide (7 = i))] : List (Str × Bool)) ++ ([("others", decide (8 = i)), ("many", decide (9 = i)), ("kept", decide (10 = i))] : List (Str × Bool)) = rs at ra5
    have one : rs.filterMap (fun r => if r.2 = true then some r.1 else none) = [wd.getD i Str.empty] := by
      rw [← eR]
      exact class_one i hi
    have len11 : rs.length = 11 := by rw [← eR]; rfl
    clear eR
    refine ⟨_, rfl, l5, rfl, ⟨_, SqL.of el5⟩, fun D hD => ?_⟩
    refine lcG (as5.zip rs) (fun ar => if ar.2.2 = true then some (V.str ar.2.1) else none) (by rw [List.length_zip, ← ra5.len, Nat.min_self]; exact walk_listL as5 V.ref) (by rw [List.length_zip]; omega) hD (yat_same _) (fun H' s => SqL.of (s _ _ el5)) (fun j ar y H' H'' k1 hz sz hy k2 => ?_) (fun H6 s6 e6 => ?_)
    · obtain ⟨rfl, hy⟩ := hy
      rw [List.getElem?_zip_eq_some] at hz
      obtain rfl := map_get hz.1 hy
      have hrow := sz _ _ (ra5.get hz.1 hz.2)
      have kk := k2 _ (Same.refl _)
      refine ⟨ar.1, _, rfl, SqL.of hrow, rfl, _, _, rfl, _, _, rfl, rfl, rfl, _, rfl, _, rfl, ite2 (fun c => ?_) (fun c => ?_)⟩
      · rw [if_pos c] at kk
        exact ⟨_, rfl, kk⟩
      · rw [if_neg c] at kk
        exact kk
    have ez : (as5.zip rs).filterMap (fun ar => if ar.2.2 = true then some (V.str ar.2.1) else none) = [V.str (wd.getD i Str.empty)] := by
      have h1 : (as5.zip rs).map Prod.snd = rs := List.map_snd_zip (by rw [ra5.len]; exact Nat.le_refl _)
      have h2 : (as5.zip rs).filterMap (fun ar => if ar.2.2 = true then some (V.str ar.2.1) else none) = (((as5.zip rs).map Prod.snd).filterMap (fun r => if r.2 = true then some r.1 else none)).map V.str := by
        rw [List.filterMap_map, List.map_filterMap]
        congr 1
        funext ar
        by_cases hc : ar.2.2 = true
        · simp [hc]
        · simp [hc]
      rw [h2, h1, one]
      rfl
    rw [ez] at e6
    refine ⟨_, rfl, D, _, rfl, .inl (SqL.of e6), rfl, _, rfl, ite2 (fun cc => ?_) (fun cc => absurd (decide_eq_true rfl) cc)⟩
    exact ⟨_, rfl, D, _, _, _, rfl, rfl, SqL.of e6, atI_nat (j := 0) rfl, k _ (s5.trans s6)⟩
end
end My
namespace My
open PySem PySem.Spec PyProof.Rows L2 PySem.GX L2H LamX
/-- xs.count(True), xs a list of bools -/
def isTrueV : Value → Bool
  | .bool b => b == true
  | _ => false
def rCntB (K : PySem.W.Frag) : V → List V → Hp → VK → Prop := fun x xs H Q => ∃ (p : Addr) (bs : List Bool), x = .ref p ∧ xs = [.bl true] ∧ SqL K H p (bs.map V.bl) ∧ Q (.int (bs.count true : Nat)) H
theorem vals_bools : ∀ {bs : List Bool} {its : List Value}, Vals (bs.map V.bl) its → its = bs.map Value.bool
  | [], _, .nil => rfl
  | _ :: _, _, .cons r t => by
    rw [vals_bools t, show _ = Value.bool _ from r]
    rfl
theorem mt_bcount {X : Cx} : MtR X "list.count" (rCntB X.K) := by
  intro pl s σ H x xs v us Q I rx rxs ⟨p, bs, ex, exs, hs, q⟩
  subst ex exs
  cases rx
  obtain ⟨u, rfl, ru⟩ := rxs.one
  obtain rfl : u = Value.bool true := ru
  obtain ⟨its, rv, ⟨⟨cls, dd, data, sl⟩, n, ho, hc, hdn, hd⟩, hlen⟩ := I.list hs
  simp only at hc hd
  subst hc hd
  have hi := vals_bools rv
  subst hi
  refine call_meets PySem.F.slot_list_count ⟨_, ho, rfl⟩ PySem.F.entry_list_count (PySem.F.args_list_count_2 _ _) (SeqAt.list_countAt p (bs.map Value.bool).toArray n dd sl (.bool true) isTrueV) ⟨ho, fun y hy => ?_, ?_⟩
  · obtain ⟨b, _, rfl⟩ := List.mem_map.mp (by simpa using hy : y ∈ bs.map Value.bool)
    exact SeqAt.EqAt.bool_bool b true
  · have ec : ((bs.map Value.bool).toArray.toList.countP isTrueV) = bs.count true := by
      rw [List.countP_map]
      unfold List.count
      apply List.countP_congr
      intro b _
      rfl
    refine ⟨.int (bs.count true : Nat), H, I.tok _, ⟨s.toks, ?_⟩, q⟩
    show Value.int ((((bs.map Value.bool).toArray.toList.countP isTrueV : Nat)) : Int) s.toks = _
    rw [ec]
def spField (p : Addr × Obj) (d : Addr) : Sp := fun vs H Q _ => ∃ (fs : List (Str × V)) (v : V), vs = [.ref p.1] ∧ H d = some (exd d fs) ∧ fs.lookup ("given" : Str) = some v ∧ Q v H
/-- the class at C is the i-th, its objects keep 'given', it is of the bases as b says -/
structure ErrC (K : PySem.W.Frag) (c : Nat → Addr) (bR bK bP C : Addr) (i : Nat) : Prop where
  T : ExcC K C
  hi : i < 8
  kits : ∀ j, j < 11 → PySem.W.kitOne K (.ref C) (.ref (c j)) = some (decide (j = i))
  no : PySem.W.findIn K (.ref C) "given" = some none
  k1 : PySem.W.kitOne K (.ref C) (.ref bR) = some true
  k2 : PySem.W.kitOne K (.ref C) (.ref bK) = some false
  k3 : PySem.W.kitOne K (.ref C) (.ref bP) = some false
  v1 : PySem.W.kitOne K (.ref C) (.type "ValueError") = some true
  v2 : PySem.W.kitOne K (.ref C) (.type "LookupError") = some false
  v3 : PySem.W.kitOne K (.ref C) (.type "ArithmeticError") = some false
  ex : PySem.W.exmAny K (.ref C) [.ref bR, .ref bK, .ref bP] = some true
section
variable {P : Program} {w : World} {K : PySem.W.Frag} {mg : Str → Option Value} {base : Heap} {p : Addr × Obj} {C d : Addr} {c : Nat → Addr} {i : Nat} {bR bK bP : Addr}
theorem scField : FnScope ["_law_e"] ["_law_e"] (defScope sField) := ⟨rfl, rfl, rfl, by decide +kernel, rfl, by decide +kernel, by decide +kernel⟩
theorem ok_field {f : Addr} {fd : FuncData} (F : Fun K "_law_field" "_law_field" sField f fd) (hp : PIs p C d) (EC : ErrC K c bR bK bP C i) (gc : ∀ j, j < 11 → mg (cn.getD j Str.empty) = some (.ref (c j))) (hIs : mg "isinstance" = none) : FnE p P w K mg base 1 f fd ["_law_e"] (spField p d) := by
  refine F.okE scField (fun vs H Q E h => ?_) (fun cdv A outer s H vs Q E hot hr h => ?_)
  · obtain ⟨fs, v, rfl, _⟩ := h
    rfl
  · obtain ⟨fs, v, rfl, hd, hv, k⟩ := h
    have hb : Hb (cxH CX0 P w K mg base ["_law_e"] "_law_field" (defScope sField) f cdv A outer s H E p) p := Hb.of_pn hot.1 hot.2 (List.mem_singleton.mpr rfl)
    refine ⟨_, pss_cons (ps_if (pt_val (pe_callB (call_isP hb hp EC.T) (by rfl) hIs (by decide +kernel) (pa_cons (pv 0) (pa_cons (pe_glob (v := .ref (c 9)) rfl (gc 9 (by decide)) rfl) pa_nil)))) (pss_one ps_never) pss_nil)
      (pss_one (ps_ret (pe_ifExp (PW.pt (pw_or (pt_val (pe_callB (call_isP hb hp EC.T) (by rfl) hIs (by decide +kernel) (pa_cons (pv 0) (pa_cons (pe_glob (v := .ref (c 8)) rfl (gc 8 (by decide)) rfl) pa_nil))))
        (pw_or1 (pt_val (pe_callB (call_isP hb hp EC.T) (by rfl) hIs (by decide +kernel) (pa_cons (pv 0) (pa_cons (pe_glob (v := .ref (c 10)) rfl (gc 10 (by decide)) rfl) pa_nil))))))) pe_non (pe_xfP hb hp EC.T (pv 0))))), ?_⟩
    have hi := EC.hi
    have z : ∀ j, j < 11 → 8 ≤ j → PySem.W.kitOne K (.ref C) (.ref (c j)) = some false := fun j h1 h2 => by
      rw [EC.kits j h1, decide_eq_false (by omega)]
    refine ⟨_, rfl, .ref (c 9), .ref (c 9), false, fs, rfl, hd, .own _, z 9 (by decide) (by decide), _, rfl, iteF ?_⟩
    refine ⟨_, rfl, .ref (c 8), .ref (c 8), false, fs, rfl, hd, .own _, z 8 (by decide) (by decide), _, rfl, iteF ?_⟩
    refine ⟨_, rfl, .ref (c 10), .ref (c 10), false, fs, rfl, hd, .own _, z 10 (by decide) (by decide), _, rfl, iteF ?_⟩
    exact ⟨_, rfl, fs, v, rfl, hd, EC.no, hv, k⟩
end
end My
namespace My
open PySem PySem.Spec PyProof.Rows L2 PySem.GX L2H LamX
/-- what the law's catcher makes of a call -/
def TTerr (K : PySem.W.Frag) (c : Nat → Addr) (bR bK bP : Addr) : (XK → Hp → VK → Prop) → Hp → VK → Prop := fun tl H Q =>
  tl (fun cls dd H' => ∃ (C d : Addr) (i : Nat) (fs : List (Str × V)) (v : V), cls = .ref C ∧ dd = some d ∧ ErrC K c bR bK bP C i ∧ H' d = some (exd d fs) ∧ fs.lookup ("given" : Str) = some v ∧ ∀ l H'', Same H' H'' → H'' l = some (.lst [.str (wd.getD i Str.empty), v]) → Q (.ref l) H'') H
    (fun v H' => ∀ l, H' l = none → Q (.ref l) (upd H' l (.lst [.str "told", v])))
abbrev nError : List Str := ["_law_act", "_law_told", "_law_e", "_law_bases", "_law_plain"]
theorem scError : FnScope nError ["_law_act"] (defScope sError) := ⟨rfl, rfl, rfl, by decide +kernel, rfl, by decide +kernel, by decide +kernel⟩
/-- what the suite is asked -/
def tsErr (K : PySem.W.Frag) (c : Nat → Addr) (bR bK bP : Addr) (a : Addr) (cls : Value) (dd : Option Addr) : TS := fun D σ H => ∃ (σ0 : L2.St) (C d : Addr) (i : Nat) (fs : List (Str × V)) (v : V), σ = σ0.set 2 (some (.ref a)) ∧ cls = .ref C ∧ dd = some d ∧ ErrC K c bR bK bP C i ∧ H d = some (exd d fs) ∧ fs.lookup ("given" : Str) = some v ∧
  ∀ l H'', Same H H'' → H'' l = some (.lst [.str (wd.getD i Str.empty), v]) → D.rt (.ref l) H''
theorem eqv_bools : PyData.eqv (.list [.bool true, .bool false, .bool false]) (.list [.bool true, .bool false, .bool false]) = true := by decide
theorem PE_up {X : Cx} {e : Expr} {t : TE} (h : PE X e t) : PE X e (fun σ H Q => ∃ Qc : VK, t σ H Qc ∧ ∀ v H', Qc v H' → Q v H') :=
  ⟨fun pl s σ H Q I ⟨Qc, q, m⟩ => wpAny_mono (h.run pl s σ H Qc I q) (fun _ _ ⟨v, H1, I1, r, z⟩ => ⟨v, H1, I1, r, m v H1 z⟩) fun _ _ z => z⟩
theorem pss_by {X : Cx} {b : List Stmt} {ts : TS} (h : ∀ (D : Ends) (σ : L2.St) (H : Hp), σ.length = X.N.length → ts D σ H → ∃ t, PSs X b t ∧ t D σ H) : PSs X b ts :=
  ⟨fun pl s σ H D I want => let ⟨_, ht, q⟩ := h D σ H I.len want; ht.run pl s σ H D I q⟩
theorem gives_err {X : Cx} {k : Nat} {g fC fF : Addr} {cdg : Value} {fdC fdF : FuncData} {c : Nat → Addr} {bR bK bP : Addr} {q : Str} (FC : Fun X.K "_law_class" "_law_class" sClass fC fdC) (bC : Binds X.K fdC ["_law_e"] []) (gC : X.mg "_law_class" = some (.ref fC))
    (FF : Fun X.K "_law_field" "_law_field" sField fF fdF) (bF : Binds X.K fdF ["_law_e"] []) (gF : X.mg "_law_field" = some (.ref fF)) (gc : ∀ j, j < 11 → X.mg (cn.getD j Str.empty) = some (.ref (c j))) (g1 : X.mg "NotRight" = some (.ref bR)) (g2 : X.mg "NotKnown" = some (.ref bK)) (g3 : X.mg "NotPossible" = some (.ref bP))
    (hIs : X.mg "isinstance" = none) (hL : X.mg "len" = none) (hVE : X.mg "ValueError" = none) (hLE : X.mg "LookupError" = none) (hAE : X.mg "ArithmeticError" = none) :
    GivesN X (k + 1) nError "_law_error" (defScope sError) g cdg (defBody sError) "_law_act" q (TTerr X.K c bR bK bP) := by
  intro f c' s H Q tl hr act hc want
  refine ⟨_, pss_cons (ps_try3 (X := (cxOf CX0 X.prog X.w X.K X.mg X.base nError "_law_error" (defScope sError) g cdg X.A X.stack s H E0).nox) (i := 2) (c1 := .ref bR) (c2 := .ref bK) (c3 := .ref bP) (ts := tsErr X.K c bR bK bP)
      (tb := fun W D σ H => ∃ Ech : XK, (∀ cls d σ' H', Ech cls d H' → W cls d σ' H') ∧ σ[0]? = some (some (.ref f)) ∧ H c' = some (CodeO c' q) ∧ ∃ Qc : VK, tl Ech H Qc ∧ ∀ v H', Qc v H' → D.nx (σ.set 1 (some v)) H')
      rfl rfl scError.nd rfl rfl ⟨rfl, by decide, .inl g1⟩ ⟨rfl, by decide, .inl g2⟩ ⟨rfl, by decide, .inl g3⟩ (fun W pn xe tk _ => ?_) (fun a oe cls d pn hz hf => ?_)) (pss_one (ps_ret (pe_lst (pa_cons pe_str (pa_cons (pv 1) pa_nil))))), ?_⟩
  · refine ⟨fun pl s' σ H' D I ⟨Ech, hW, h1, h2, Qc, h3, h4⟩ => ?_⟩
    exact (pss_one (ps_set (i := 1) scError.nd rfl (Or.inl rfl) (PE_up (act W pn xe Ech _ _ tk hW)))).run pl s' σ H' D I ⟨Qc, ⟨h1, h2, h3⟩, h4⟩
  · refine pss_by fun D σ6 H6 len ⟨σ0, C, dd, i, fs, v, eσ, e1, e2, EC, hd, hv, kk⟩ => ?_
    subst eσ e1 e2
    have hp : PIs (a, oe) C dd := ⟨hz.1, hz.2.1⟩
    obtain ⟨vs, dv⟩ := hf
    have hot : Hot1 ((cxOf CX0 X.prog X.w X.K X.mg X.base nError "_law_error" (defScope sError) g cdg X.A X.stack s H E0).nox.suite a ((a, oe) :: pn)).A (a, oe) := ⟨rfl, vs, dv, hz.2.2 vs dv⟩
    have hb : Hb ((cxOf CX0 X.prog X.w X.K X.mg X.base nError "_law_error" (defScope sError) g cdg X.A X.stack s H E0).nox.suite a ((a, oe) :: pn)) (a, oe) := Hb.of_pn hot.1 hot.2 (List.mem_cons_self ..)
    have hrH : RoomH 1 ((cxOf CX0 X.prog X.w X.K X.mg X.base nError "_law_error" (defScope sError) g cdg X.A X.stack s H E0).nox.suite a ((a, oe) :: pn)).A := by
      have z : RoomH 1 (X.A.deeper (envOfC "_law_error" (defScope sError) s.heap.objs.size g cdg)) := (roomH_of hr).mono (by omega)
      exact ⟨z.dp, z.un⟩
    have eC := ok_class (P := X.prog) (w := X.w) (base := X.base) FC hp EC.T (Nat.lt_trans EC.hi (by decide)) gc EC.kits hIs hL
    have eF := ok_field (P := X.prog) (w := X.w) (base := X.base) FF hp EC gc hIs
    have hu : ((cxOf CX0 X.prog X.w X.K X.mg X.base nError "_law_error" (defScope sError) g cdg X.A X.stack s H E0).nox.suite a ((a, oe) :: pn)).A.units + 64 < cLine := hr.units
    rw [List.length_set] at len
    obtain ⟨s0, s1, s2, s3, s4, rfl⟩ : ∃ s0 s1 s2 s3 s4, σ0 = [s0, s1, s2, s3, s4] := by
      match σ0, len with
      | [s0, s1, s2, s3, s4], _ => exact ⟨s0, s1, s2, s3, s4, rfl⟩
    refine ⟨_, pss_cons (ps_set (i := 3) scError.nd rfl (Or.inl rfl) (pe_lst (pa_cons (pe_callB (call_isP hb hp EC.T) (by rfl) hIs (by decide +kernel) (pa_cons (pv 2) (pa_cons (pe_glob (v := .ref bR) rfl g1 rfl) pa_nil)))
          (pa_cons (pe_callB (call_isP hb hp EC.T) (by rfl) hIs (by decide +kernel) (pa_cons (pv 2) (pa_cons (pe_glob (v := .ref bK) rfl g2 rfl) pa_nil))) (pa_cons (pe_callB (call_isP hb hp EC.T) (by rfl) hIs (by decide +kernel) (pa_cons (pv 2) (pa_cons (pe_glob (v := .ref bP) rfl g3 rfl) pa_nil))) pa_nil)))))
      (pss_cons (ps_set (i := 4) scError.nd rfl (Or.inl rfl) (pe_lst (pa_cons (pe_callB (call_isP hb hp EC.T) (by rfl) hIs (by decide +kernel) (pa_cons (pv 2) (pa_cons (pe_bltn (v := .ty "ValueError") (by rfl) hVE (by decide +kernel) rfl) pa_nil)))
          (pa_cons (pe_callB (call_isP hb hp EC.T) (by rfl) hIs (by decide +kernel) (pa_cons (pv 2) (pa_cons (pe_bltn (v := .ty "LookupError") (by rfl) hLE (by decide +kernel) rfl) pa_nil))) (pa_cons (pe_callB (call_isP hb hp EC.T) (by rfl) hIs (by decide +kernel) (pa_cons (pv 2) (pa_cons (pe_bltn (v := .ty "ArithmeticError") (by rfl) hAE (by decide +kernel) rfl) pa_nil))) pa_nil)))))
      (pss_one (ps_ret (pe_lst (pa_cons (pe_ifExp (PW.pt (pw_and (pt_cmpR (op_eqD hu) (pv 3) (pv 4) (nomark _)) (pw_and1 (pt_cmpR op_eq (pe_bm PySem.F.plainAttrs_list PySem.F.slot_list_count PySem.F.type_list_count mt_bcount (pv 3) (pa_cons pe_bl pa_nil)) pe_int (nomark _)))))
          (pe_callE eC hrH hot (List.mem_cons_self ..) rfl gC FC.kp bC (pa_cons (pv 2) pa_nil)) pe_str) (pa_cons (pe_callE eF hrH hot (List.mem_cons_self ..) rfl gF FF.kp bF (pa_cons (pv 2) pa_nil)) pa_nil)))))), ?_⟩
    refine ⟨_, rfl, .ref bR, .ref bR, true, fs, rfl, hd, .own _, EC.k1, ?_⟩
    refine ⟨_, rfl, .ref bK, .ref bK, false, fs, rfl, hd, .own _, EC.k2, ?_⟩
    refine ⟨_, rfl, .ref bP, .ref bP, false, fs, rfl, hd, .own _, EC.k3, (by show 3 ≤ sizeLine; decide), fun q1 h1 => ?_⟩
    refine ⟨_, rfl, .ty "ValueError", .type "ValueError", true, fs, rfl, keep1 hd h1, .ty _, EC.v1, ?_⟩
    refine ⟨_, rfl, .ty "LookupError", .type "LookupError", false, fs, rfl, keep1 hd h1, .ty _, EC.v2, ?_⟩
    refine ⟨_, rfl, .ty "ArithmeticError", .type "ArithmeticError", false, fs, rfl, keep1 hd h1, .ty _, EC.v3, (by show 3 ≤ sizeLine; decide), fun q2 h2 => ?_⟩
    refine ⟨_, rfl, _, rfl, _, _, .lst (SqL.of (keep1 upd_same h2)) (.cons (.bl true) (.cons (.bl false) (.cons (.bl false) .nil))), .lst (SqL.of upd_same) (.cons (.bl true) (.cons (.bl false) (.cons (.bl false) .nil))), (by decide +kernel), (by decide +kernel), _, rfl, ?_⟩
    rw [eqv_bools]
    refine iteT ⟨_, rfl, .inl ⟨rfl, _, SqL.of (keep1 upd_same h2)⟩, q1, [true, false, false], rfl, rfl, SqL.of (keep1 upd_same h2), rfl, _, rfl, ite2 (fun _ => ?_) (fun z => absurd (decide_eq_true rfl) z)⟩
    refine ⟨_, rfl, fs, rfl, keep1 (keep1 hd h1) h2, fun H7 s7 => ?_⟩
    refine ⟨_, rfl, fs, v, rfl, s7 _ _ (keep1 (keep1 hd h1) h2), hv, (by show 2 ≤ sizeLine; decide), fun l hl => ?_⟩
    exact kk l _ ((((same_new h1).trans (same_new h2)).trans s7).trans (same_new hl)) upd_same
  · refine ⟨_, fun cls dd σ' H' hE => ?_, rfl, hc, _, want, fun v H' z => ?_⟩
    · obtain ⟨C, d, i, fs, v, rfl, rfl, EC, hd, hv, kk⟩ := hE
      exact ⟨EC.ex, fun a _ => ⟨σ', C, d, i, fs, v, rfl, rfl, rfl, EC, hd, hv, kk⟩⟩
    · exact ⟨_, rfl, (by show 2 ≤ sizeLine; decide), fun l hl => z l hl⟩
end My
namespace My
open PySem PySem.Spec PyProof.Rows L2
def spDip : Sp := fun vs H Q _ => ∃ (p : Addr) (n : Int), vs = [.ref p, .int n] ∧ Wl H p ∧ 0 < n ∧ n < 1073741824 ∧
  ∀ (d : Int) (o : HO), 0 ≤ d → d < n → Wl (upd H p o) p → Q (.int d) (upd H p o)
section
variable {P : Program} {w : World} {K : PySem.W.Frag} {mg : Str → Option Value} {base : Heap}
theorem scD : FnScope ["_law_well_here", "_law_size", "_law_digit"] ["_law_well_here", "_law_size"] (defScope sDip) :=
  ⟨rfl, rfl, rfl, by decide +kernel, rfl, by decide +kernel, by decide +kernel⟩
theorem ok_dip {f : Addr} {fd : FuncData} (F : Fun K "_law_dip" "_law_dip" sDip f fd) (hI : mg "int" = none) : FnOk P w K mg base CX0 1 f fd ["_law_well_here", "_law_size"] spDip := by
  refine F.ok scD (fun vs H Q E h => ?_) (fun cdv A outer s H vs Q E hr h => ?_)
  · obtain ⟨p, n, rfl, _⟩ := h
    rfl
  · obtain ⟨p, n, rfl, ⟨w0, w1, w2, h0, h1, hp⟩, n0, n1, k⟩ := h
    refine ⟨_, pss_cons (ps_asg (pe_op op_add (pe_ix ix_list (pv 0) pe_int (fun _ _ => rfl)) pe_int) (pg_sub (pv 0) pe_int set_list))
      (pss_cons (ps_if (pt_cmpR op_gt (pe_ix ix_list (pv 0) pe_int (fun _ _ => rfl)) pe_int (nomark _))
        (pss_cons (ps_set (i := 2) scD.nd rfl (Or.inl rfl) (pe_op op_modN (pe_callTy call_int1 (by rfl) hI (by decide +kernel) (pa_cons (pe_ix ix_list (pv 0) pe_int (fun _ _ => rfl)) pa_nil)) (pv 1)))
        (pss_cons (ps_asg (pe_op op_fdivN (pe_callTy call_int1 (by rfl) hI (by decide +kernel) (pa_cons (pe_ix ix_list (pv 0) pe_int (fun _ _ => rfl)) pa_nil)) (pv 1)) (pg_sub (pv 0) pe_int set_list))
        (pss_one (ps_ret (pv 2))))) pss_nil)
      (pss_cons (ps_asg (pe_op op_mod (pe_callTy call_int1 (by rfl) hI (by decide +kernel) (pa_cons (pe_op op_add (pe_op op_add (pe_op op_mul (pe_ix ix_list (pv 0) pe_int (fun _ _ => rfl)) pe_int)
          (pe_op op_mul pe_int (pe_ix ix_list (pv 0) pe_int (fun _ _ => rfl)))) pe_int) pa_nil)) pe_int) (pg_sub (pv 0) pe_int set_list))
      (pss_one (ps_ret (pe_op op_modN (pe_callTy call_int1 (by rfl) hI (by decide +kernel) (pa_cons (pe_op op_fdiv (pe_ix ix_list (pv 0) pe_int (fun _ _ => rfl)) pe_int) pa_nil)) (pv 1)))))), ?_⟩
    -- well[2] = well[2] + 1
    refine ⟨_, rfl, p, _, _, _, rfl, rfl, SqL.of hp, atI_nat (j := 2) rfl, _, _, rfl, rfl, _, rfl, p, _, _, 2, rfl, rfl, hp, rfl, ?_⟩
    have hp1 : ∀ o, upd H p o p = some o := fun o => upd_same
    refine ⟨_, rfl, p, _, _, _, rfl, rfl, SqL.of (hp1 _), atI_nat (j := 0) rfl, _, _, rfl, rfl, _, rfl, ?_⟩
    refine ite2 (fun c => ?_) (fun c => ?_)
    · have c' : (0 : Int) < w0 := of_decide_eq_true c
      refine ⟨_, rfl, p, _, _, _, rfl, rfl, SqL.of (hp1 _), atI_nat (j := 0) rfl, .inl ⟨_, rfl, _, rfl, _, _, rfl, rfl, (by show n ≠ 0; omega), ?_⟩⟩
      refine ⟨_, rfl, p, _, _, _, rfl, rfl, SqL.of (hp1 _), atI_nat (j := 0) rfl, .inl ⟨_, rfl, _, rfl, _, _, rfl, rfl, ⟨(by omega), (by omega)⟩, _, rfl, p, _, _, 0, rfl, rfl, hp1 _, rfl, ?_⟩⟩
      refine ⟨_, rfl, ?_⟩
      rw [upd_upd]
      refine k _ _ (Int.fmod_nonneg_of_pos _ n0) (Int.fmod_lt_of_pos _ n0) ⟨_, _, _, ?_, h1, upd_same⟩
      rw [Int.fdiv_eq_ediv_of_nonneg _ (by omega)]
      exact Int.ediv_nonneg h0 (by omega)
    · refine ⟨_, rfl, p, _, _, _, rfl, rfl, SqL.of (hp1 _), atI_nat (j := 1) rfl, _, _, rfl, rfl, .inr ⟨by decide, by decide⟩, _, rfl, p, _, _, _, rfl, rfl, SqL.of (hp1 _), atI_nat (j := 2) rfl, _, _, rfl, rfl, .inl ⟨by decide, by decide⟩,
        _, _, rfl, rfl, _, _, rfl, rfl, .inl ⟨_, rfl, _, _, rfl, rfl, (by show (0 : Int) < 2147483647; decide), _, rfl, p, _, _, 1, rfl, rfl, hp1 _, rfl, ?_⟩⟩
      rw [upd_upd]
      refine ⟨_, rfl, p, _, _, _, rfl, rfl, SqL.of (hp1 _), atI_nat (j := 1) rfl, _, _, rfl, rfl, ⟨by decide, by decide⟩, .inl ⟨_, rfl, _, rfl, _, _, rfl, rfl, (by show n ≠ 0; omega), ?_⟩⟩
      exact k _ _ (Int.fmod_nonneg_of_pos _ n0) (Int.fmod_lt_of_pos _ n0) ⟨_, _, _, h0, Int.emod_nonneg _ (by decide), upd_same⟩
end
end My
namespace My
open PySem PySem.Spec PyProof.Rows L2
def spWell (K : PySem.W.Frag) : Sp := fun vs H Q _ => ∃ (a : Addr) (ns : List Int) (t : Int), vs = [.ref a, .int t] ∧ SqL K H a (ns.map V.int) ∧ 0 ≤ t ∧ t ≤ 1000 ∧
  ∀ (p : Addr) (H' : Hp), Same H H' → H p = none → Wl H' p → Q (.ref p) H'
section
variable {P : Program} {w : World} {K : PySem.W.Frag} {mg : Str → Option Value} {base : Heap}
theorem scW : FnScope ["_law_script", "_law_turn", "_law_entry", "_law_stirred", "_law_each"] ["_law_script", "_law_turn"] (defScope sWell) :=
  ⟨rfl, rfl, rfl, by decide +kernel, rfl, by decide +kernel, by decide +kernel⟩
theorem ok_well {f : Addr} {fd : FuncData} (F : Fun K "_law_well" "_law_well" sWell f fd) (hI : mg "int" = none) (hL : mg "len" = none) (hA : mg "abs" = none) : FnOk P w K mg base CX0 1 f fd ["_law_script", "_law_turn"] (spWell K) := by
  refine F.ok scW (fun vs H Q E h => ?_) (fun cdv A outer s H vs Q E hr h => ?_)
  · obtain ⟨a, ns, t, rfl, _⟩ := h
    rfl
  · obtain ⟨a, ns, t, rfl, hS, t0, t1, k⟩ := h
    refine ⟨_, pss_cons (ps_set (i := 2) scW.nd rfl (Or.inl rfl) (pe_ifExp (pt_cmpR op_lt (pv 1) (pe_callB call_len_seq (by rfl) hL PySem.boot_len (pa_cons (pv 0) pa_nil)) (nomark _))
        (pe_callTy call_int1 (by rfl) hI (by decide +kernel) (pa_cons (pe_ix ix_list (pv 0) (pv 1) (fun _ _ => rfl)) pa_nil)) (pe_op op_add (pe_op op_mul pe_int (pv 1)) pe_int)))
      (pss_cons (ps_set (i := 3) scW.nd rfl (Or.inl rfl) (pe_op op_add pe_int (pe_op op_mul pe_int (pv 1))))
      (pss_cons (ps_for PassesOwn.never rfl (pi_list (pe_slice sl_list (pv 0) po_none (po_some pe_int))) (pg_name (i := 4) scW.nd rfl (Or.inl rfl))
        (pss_one (ps_set (i := 3) scW.nd rfl (Or.inl rfl) (pe_op op_mod (pe_callTy call_int1 (by rfl) hI (by decide +kernel) (pa_cons (pe_op op_add (pe_op op_add (pe_op op_mul (pv 3) pe_int)
          (pe_op op_mod (pe_callTy call_int1 (by rfl) hI (by decide +kernel) (pa_cons (pv 4) pa_nil)) pe_int)) (pv 1)) pa_nil)) pe_int))))
      (pss_cons (ps_set (i := 3) scW.nd rfl (Or.inl rfl) (pe_op op_mod (pe_callTy call_int1 (by rfl) hI (by decide +kernel) (pa_cons (pe_op op_add (pe_op op_mul (pv 3) pe_int)
          (pe_op op_mod (pe_callTy call_int1 (by rfl) hI (by decide +kernel) (pa_cons (pv 2) pa_nil)) pe_int)) pa_nil)) pe_int))
      (pss_one (ps_ret (pe_lst (pa_cons (pe_ifExp (pt_cmpR op_ge (pe_callB call_abs (by rfl) hA (by decide +kernel) (pa_cons (pv 2) pa_nil)) (pe_op op_pow pe_int pe_int) (nomark _))
          (pe_callB call_abs (by rfl) hA (by decide +kernel) (pa_cons (pv 2) pa_nil)) pe_int) (pa_cons (pv 3) (pa_cons pe_int pa_nil))))))))), ?_⟩
    refine ⟨_, rfl, _, rfl, a, _, rfl, .inl hS, _, _, rfl, rfl, _, rfl, ?_⟩
    refine ite2 (fun c => ?a1) (fun c => ?a2)
    case' a1 =>
      have c1 : t < ((ns.map V.int).length : Int) := of_decide_eq_true c
      rw [List.length_map] at c1
      obtain ⟨z, hz⟩ : ∃ z, ns[t.toNat]? = some z := ⟨_, List.getElem?_eq_getElem (by omega : t.toNat < ns.length)⟩
      have et : t = ((t.toNat : Nat) : Int) := by omega
      refine ⟨_, rfl, _, rfl, a, _, _, V.int z, rfl, rfl, hS, ?_, .inl ⟨_, rfl, ?_⟩⟩
      · rw [et]
        exact atI_nat (by rw [List.getElem?_map, hz]; rfl)
    case' a2 => refine ⟨_, rfl, _, _, rfl, rfl, .inl ⟨by decide, by decide⟩, _, _, rfl, rfl, ?_⟩
    all_goals
      refine ⟨_, rfl, _, _, rfl, rfl, .inl ⟨by decide, by decide⟩, _, _, rfl, rfl, ?_⟩
      refine ⟨_, rfl, 8, rfl, a, _, rfl, hS, fun q hq => ⟨q, rfl, ⟨_, SqL.of upd_same⟩, ?_⟩⟩
      obtain ⟨ms, hms⟩ := cut_ints ns none (some 8)
      refine for_list (K := K) (a := q) (xs := cutV (ns.map V.int) none (some 8)) (fun i σ H' => ∃ (en st : Int) (v : Option V), σ = [some (.ref a), some (.int t), some (.int en), some (.int st), v] ∧ H' = upd H q (.lst (cutV (ns.map V.int) none (some 8))))
        ⟨_, _, none, rfl, rfl⟩ (fun i σ H' _ ⟨_, _, _, _, e⟩ => by rw [e]; exact SqL.of upd_same) ?_ ?_
      · rintro i y σ H' hi ⟨en, st, v, rfl, rfl⟩
        rw [hms] at hi
        obtain ⟨z, _, rfl⟩ := map_int_get hi
        exact ⟨_, rfl, _, _, rfl, rfl, .inr ⟨by decide, by decide⟩, _, rfl, .inl ⟨_, rfl, _, _, rfl, rfl, (by show (0 : Int) < 999979; decide), _, _, rfl, rfl, _, rfl, _, _, rfl, rfl, .inl ⟨_, rfl, _, _, rfl, rfl,
          (by show (0 : Int) < 2147483647; decide), en, _, _, rfl, rfl⟩⟩⟩
      · rintro σ H' ⟨en, st, v, rfl, rfl⟩
        refine ⟨_, rfl, _, _, rfl, rfl, .inr ⟨by decide, by decide⟩, _, rfl, .inl ⟨_, rfl, _, _, rfl, rfl, (by show (0 : Int) < 999979; decide), _, _, rfl, rfl, .inl ⟨_, rfl, _, _, rfl, rfl, (by show (0 : Int) < 2147483647; decide), ?_⟩⟩⟩
        refine ⟨_, rfl, _, rfl, _, _, rfl, rfl, ⟨by decide, by decide, by decide⟩, _, _, rfl, rfl, _, rfl, ?_⟩
        refine ite2 (fun c => ⟨_, rfl, _, rfl, ?_⟩) (fun c => ?_)
        all_goals
          refine ⟨_, rfl, (by show 3 ≤ sizeLine; decide), fun r hr => ?_⟩
          refine k r _ (fun b o e => ?_) ((same_new hq).free hr) ⟨_, _, _, ?_, Int.emod_nonneg _ (by decide), upd_same⟩
          · exact same_new hr b o (same_new hq b o e)
          · first | exact Int.le_refl 0 | (split <;> omega)
end
end My
namespace My
open PySem PySem.Spec PyProof.Rows L2
def spPickL : Sp := fun vs H Q _ => ∃ (p m : Addr) (xs : List V), vs = [.ref p, .ref m] ∧ Wl H p ∧ m ≠ p ∧ H m = some (.lst xs) ∧ 0 < xs.length ∧ xs.length ≤ 1000 ∧
  ∀ (i : Nat) (x : V) (o : HO), xs[i]? = some x → Wl (upd H p o) p → Q x (upd H p o)
section
variable {P : Program} {w : World} {K : PySem.W.Frag} {mg : Str → Option Value} {base : Heap}
theorem scPick : FnScope ["_law_well_here", "_law_menu"] ["_law_well_here", "_law_menu"] (defScope sPick) := ⟨rfl, rfl, rfl, by decide +kernel, rfl, by decide +kernel, by decide +kernel⟩
theorem ok_pickL {f : Addr} {fd : FuncData} (F : Fun K "_law_pick" "_law_pick" sPick f fd) (hD : Hv P w K mg base 1 "_law_dip" ["_law_well_here", "_law_size"] spDip) (hL : mg "len" = none) : FnOk P w K mg base CX0 2 f fd ["_law_well_here", "_law_menu"] spPickL := by
  refine F.ok scPick (fun vs H Q E h => ?_) (fun cdv A outer s H vs Q E hr h => ?_)
  · obtain ⟨p, m, xs, rfl, _⟩ := h
    rfl
  · obtain ⟨p, m, xs, rfl, hW, hn, hm, z0, z1, k⟩ := h
    refine ⟨_, pss_one (ps_ret (pe_ix ix_list (pv 1) (pe_cl hD hr rfl pass0 (pa_cons (pv 0) (pa_cons (pe_callB call_len_seq (by rfl) hL PySem.boot_len (pa_cons (pv 1) pa_nil)) pa_nil))) (fun _ _ => rfl))), ?_⟩
    refine ⟨_, rfl, _, rfl, _, rfl, m, _, rfl, .inl (SqL.of hm), p, _, rfl, hW, (by omega), (by omega), fun d o d0 d1 hW' => ?_⟩
    obtain ⟨j, rfl⟩ := Int.eq_ofNat_of_zero_le d0
    have hj : j < xs.length := by omega
    have ei : xs[j]? = some xs[j] := List.getElem?_eq_getElem hj
    exact ⟨m, xs, _, _, rfl, rfl, SqL.of (by rw [upd_ne hn]; exact hm), atI_nat ei, k j _ o ei hW'⟩
end
end My
namespace My
open PySem PySem.Spec PyProof.Rows L2 PySem.GX
/-- as the law walks -/
def wkL (kvs : List (List Key × V)) (t : Str) (cs : List Nat) : Str := cs.foldl (gf kvs) t
def spLed : Sp := fun vs H Q _ => ∃ (q : Addr) (x : Str) (ws fs : List Str) (kvs : List (List Key × V)) (t r : Str), vs = [.ref q, .str t, .str r] ∧ SkAt H q x ws fs kvs ∧ Fine x ws fs kvs ∧ t ∈ ws ∧ (∀ c ∈ r.cps.toList, c ∈ x.cps.toList) ∧ ∀ H', Same H H' → Q (.str (wkL kvs t r.cps.toList)) H'
def spIsFine : Sp := fun vs H Q _ => ∃ (q : Addr) (x : Str) (ws fs : List Str) (kvs : List (List Key × V)) (r : Str), vs = [.ref q, .str r] ∧ SkAt H q x ws fs kvs ∧ Fine x ws fs kvs ∧ (∀ c ∈ r.cps.toList, c ∈ x.cps.toList) ∧ ∀ H', Same H H' → Q (.bl (decide (wkL kvs (ws.headD Str.empty) r.cps.toList ∈ fs))) H'
theorem SkAt.same {H H' : Hp} {q : Addr} {x : Str} {ws fs : List Str} {kvs : List (List Key × V)} (h : SkAt H q x ws fs kvs) (s : Same H H') : SkAt H' q x ws fs kvs := by
  obtain ⟨lw, lf, g, e1, e2, e3, e4⟩ := h
  exact ⟨lw, lf, g, s _ _ e1, s _ _ e2, s _ _ e3, s _ _ e4⟩
theorem wk_mem {x : Str} {ws fs : List Str} {kvs : List (List Key × V)} (h : Fine x ws fs kvs) : ∀ (cs : List Nat) (t : Str), t ∈ ws → (∀ c ∈ cs, c ∈ x.cps.toList) → wkL kvs t cs ∈ ws
  | [], _, ht, _ => ht
  | c :: cs, t, ht, hc => by
    obtain ⟨y, hy, e⟩ := h.gl t ht c (hc c (by simp))
    refine wk_mem h cs _ ?_ fun d hd => hc d (by simp [hd])
    rw [gf_is e]
    exact hy
theorem Fine.head {x : Str} {ws fs : List Str} {kvs : List (List Key × V)} (h : Fine x ws fs kvs) : ∃ t, ws = ws.headD Str.empty :: t := by
  have := h.mds
  unfold areMoodsL at this
  simp only [Bool.and_eq_true] at this
  have l1 : 1 ≤ ws.length := of_decide_eq_true this.1.1.1
  match ws, l1 with
  | a :: t, _ => exact ⟨t, rfl⟩
section
variable {P : Program} {w : World} {K : PySem.W.Frag} {mg : Str → Option Value} {base : Heap}
theorem scLed : FnScope ["_law_sketch_here", "_law_temper", "_law_line", "_law_glyph"] ["_law_sketch_here", "_law_temper", "_law_line"] (defScope sLed) := ⟨rfl, rfl, rfl, by decide +kernel, rfl, by decide +kernel, by decide +kernel⟩
theorem ok_led {f : Addr} {fd : FuncData} (F : Fun K "_law_led" "_law_led" sLed f fd) : FnOk P w K mg base CX0 1 f fd ["_law_sketch_here", "_law_temper", "_law_line"] spLed := by
  refine F.ok scLed (fun vs H Q E h => ?_) (fun cdv A outer s H vs Q E hr h => ?_)
  · obtain ⟨q, x, ws, fs, kvs, t, r, rfl, _⟩ := h
    rfl
  · obtain ⟨q, x, ws, fs, kvs, t, r, rfl, ⟨lw, lf, g, eq, ew, ef, eg⟩, fine, ht, hin, k⟩ := h
    refine ⟨_, pss_cons (ps_for PassesOwn.never rfl (pi_str (pv 2)) (pg_name (i := 3) scLed.nd rfl (Or.inl rfl)) (pss_one (ps_set (i := 1) scLed.nd rfl (Or.inl rfl) (pe_dget (hu_of hr) (pe_ix ix_list (pv 0) pe_int (fun _ _ => rfl)) (pe_tup (pa_cons (pv 1) (pa_cons (pv 3) pa_nil))) (fun _ _ => rfl)))))
      (pss_one (ps_ret (pv 1))), ?_⟩
    refine ⟨_, rfl, r, rfl, ?_⟩
    refine for_it walk_str (fun i σ H' => ∃ v3, σ = [some (.ref q), some (.str (wkL kvs t (r.cps.toList.take i))), some (.str r), v3] ∧ Same H H') ⟨none, rfl, Same.refl _⟩ (fun _ _ _ _ _ => trivial) (fun i y σ H2 H3 hi h hy => ?_) (fun σ H2 h => ?_)
    · obtain ⟨rfl, c, hc, rfl⟩ := hy
      obtain ⟨v3, rfl, s2⟩ := h
      have hc' : r.cps.toList[i]? = some c := by rw [Array.getElem?_toList]; exact hc
      have hm := wk_mem fine (r.cps.toList.take i) t ht fun d hd => hin d (List.mem_of_mem_take hd)
      obtain ⟨y, hy, e⟩ := fine.gl _ hm c (hin c (List.mem_of_getElem? hc'))
      refine ⟨_, rfl, q, _, _, _, rfl, rfl, SqL.of (s2 _ _ eq), atI_nat (j := 3) rfl, _, rfl, _, rfl, (by show 2 ≤ sizeLine; decide), fun t' ht' => ⟨g, .str y, rfl, ?_, ?_⟩⟩
      · have := DGet.t (k := kT (wkL kvs t (r.cps.toList.take i)) c) (keep1 (s2 _ _ eg) ht') (upd_same (o := .tup ((kT (wkL kvs t (r.cps.toList.take i)) c).map kV)))
        rw [e] at this
        exact this
      · refine ⟨some (.str (sg c)), ?_, s2.trans (same_new ht')⟩
        rw [List.take_add_one, hc']
        show _ = [_, some (V.str (wkL kvs t (r.cps.toList.take i ++ [c]))), _, _]
        have : wkL kvs t (r.cps.toList.take i ++ [c]) = y := by
          unfold wkL at e ⊢
          rw [List.foldl_append]
          exact gf_is e
        rw [this]
        rfl
    · obtain ⟨v3, rfl, s2⟩ := h
      refine ⟨_, rfl, ?_⟩
      have : r.cps.toList.take r.cps.size = r.cps.toList := by rw [← Array.length_toList, List.take_length]
      rw [this]
      exact k _ s2
theorem scFine : FnScope ["_law_sketch_here", "_law_line"] ["_law_sketch_here", "_law_line"] (defScope sFine) := ⟨rfl, rfl, rfl, by decide +kernel, rfl, by decide +kernel, by decide +kernel⟩
theorem ok_isfine {f : Addr} {fd : FuncData} (F : Fun K "_law_is_fine" "_law_is_fine" sFine f fd) (hL : Hv P w K mg base 1 "_law_led" ["_law_sketch_here", "_law_temper", "_law_line"] spLed) : FnOk P w K mg base CX0 2 f fd ["_law_sketch_here", "_law_line"] spIsFine := by
  refine F.ok scFine (fun vs H Q E h => ?_) (fun cdv A outer s H vs Q E hr h => ?_)
  · obtain ⟨q, x, ws, fs, kvs, r, rfl, _⟩ := h
    rfl
  · obtain ⟨q, x, ws, fs, kvs, r, rfl, hS, fine, hin, k⟩ := h
    refine ⟨_, pss_one (ps_ret (pe_cmpR op_in_seq (pe_cl hL hr rfl pass0 (pa_cons (pv 0) (pa_cons (pe_ix ix_list (pe_ix ix_list (pv 0) pe_int (fun _ _ => rfl)) pe_int (fun _ _ => rfl)) (pa_cons (pv 1) pa_nil)))) (pe_ix ix_list (pv 0) pe_int (fun _ _ => rfl)) (by rfl))), ?_⟩
    obtain ⟨lw, lf, g, eq, ew, ef, eg⟩ := id hS
    obtain ⟨tl, eh⟩ := fine.head
    have e0 : (ws.map V.str)[0]? = some (.str (ws.headD Str.empty)) := by
      conv => lhs; rw [eh]
      rfl
    refine ⟨_, rfl, _, rfl, q, _, _, _, rfl, rfl, SqL.of eq, atI_nat (j := 1) rfl, lw, _, _, _, rfl, rfl, SqL.of ew, atI_nat (j := 0) e0, _, rfl, ?_⟩
    refine ⟨q, x, ws, fs, kvs, _, r, rfl, hS, fine, by rw [eh]; simp, hin, fun H1 s1 => ?_⟩
    refine ⟨_, rfl, q, _, _, _, rfl, rfl, SqL.of (s1 _ _ eq), atI_nat (j := 2) rfl, lf, _, rfl, .inl (SqL.of (s1 _ _ ef)), rfl, flat_strs _, ?_⟩
    show Q (.bl (inV _ (fs.map V.str))) H1
    rw [in_strs]
    exact k _ s1
end
end My
namespace My
open PySem PySem.Spec PyProof.Rows L2
abbrev menuW : List Str := ["out", "in", "good", "moods", "signs", "a", "maa", "mab", "last"]
def spTerms : Sp := fun vs H Q _ => ∃ (p : Addr) (n : Nat), vs = [.ref p, .int (n : Int)] ∧ Wl H p ∧ n ≤ 9 ∧
  ∀ (l : Addr) (ws : List Str) (H' : Hp), ws.length = n → ws.Nodup → (∀ x ∈ ws, x ∈ menuW) → H l = none → Sb p H H' → Wl H' p → H' l = some (.lst (ws.map V.str)) → Q (.ref l) H'
def termsL (b far n : Nat) : List Str := (List.range n).map fun k => menuW.getD ((b + far * k) % 9) Str.empty
theorem terms_ok : ∀ n, n < 10 → ∀ b, b < 9 → ∀ far ∈ [1, 2, 4, 5], (termsL b far n).Nodup := by decide +kernel
theorem terms_mem (b far n : Nat) : ∀ x ∈ termsL b far n, x ∈ menuW := fun x hx => by
  obtain ⟨k, _, rfl⟩ := List.mem_map.mp hx
  have h : (b + far * k) % 9 < menuW.length := Nat.mod_lt _ (by decide)
  rw [List.getD_eq_getElem?_getD, List.getElem?_eq_getElem h]
  exact List.getElem_mem h
section
variable {P : Program} {w : World} {K : PySem.W.Frag} {mg : Str → Option Value} {base : Heap}
abbrev nTerms : List Str := ["_law_well_here", "_law_size", "_law_begin", "_law_far", "_law_menu", "_law_k"]
theorem scTerms : FnScope nTerms ["_law_well_here", "_law_size"] (defScope sTerms) := ⟨rfl, rfl, rfl, by decide +kernel, rfl, by decide +kernel, by decide +kernel⟩
theorem ok_terms {f : Addr} {fd : FuncData} (F : Fun K "_law_terms" "_law_terms" sTerms f fd) (hD : Hv P w K mg base 1 "_law_dip" ["_law_well_here", "_law_size"] spDip) (hP : Hv P w K mg base 2 "_law_pick" ["_law_well_here", "_law_menu"] spPickL) (hI : mg "int" = none) (hR : mg "range" = none) :
    FnOk P w K mg base CX0 3 f fd ["_law_well_here", "_law_size"] spTerms := by
  refine F.ok scTerms (fun vs H Q E h => ?_) (fun cdv A outer s H vs Q E hr h => ?_)
  · obtain ⟨p, n, rfl, _⟩ := h
    rfl
  · obtain ⟨p, n, rfl, hW, zn, k⟩ := h
    refine ⟨_, pss_cons (ps_asg (pe_tup (pa_cons (pe_cl hD (hr.mono (by decide)) rfl pass0 (pa_cons (pv 0) (pa_cons pe_int pa_nil))) (pa_cons (pe_cl hP hr rfl pass0 (pa_cons (pv 0) (pa_cons (pe_lst (pa_cons pe_int (pa_cons pe_int (pa_cons pe_int (pa_cons pe_int pa_nil))))) pa_nil))) pa_nil)))
          (pg_tup (by rfl) (pgs_cons (pg_name (i := 2) scTerms.nd rfl (Or.inr rfl)) (pgs_cons (pg_name (i := 3) scTerms.nd rfl (Or.inr rfl)) pgs_nil))))
      (pss_cons (ps_set (i := 4) scTerms.nd rfl (Or.inr rfl) (pe_lst (pa_cons pe_str (pa_cons pe_str (pa_cons pe_str (pa_cons pe_str (pa_cons pe_str (pa_cons pe_str (pa_cons pe_str (pa_cons pe_str (pa_cons pe_str pa_nil)))))))))))
      (pss_one (ps_ret (pe_lc (own := [("_law_k", 5)]) (g := gName 5) (tt := tYes) rfl scTerms.nd (pi_range1 rfl hR (pa_cons (pv 1) pa_nil)) (blkOk_by (N := nTerms) (sc := defScope sTerms) (by decide +kernel))
          (fun _ _ _ _ _ => pg_name (i := 5) scTerms.nd rfl (Or.inl rfl)) (fun _ _ _ _ _ => pts_nil) (fun _ _ _ _ _ => pe_ix (ix_listK (K := K) rfl) (pv 4) (pe_op op_mod (pe_callTy call_int1 (by rfl) hI (by decide +kernel) (pa_cons (pe_op op_add (pv 2) (pe_op op_mul (pv 3) (pv 5))) pa_nil)) pe_int) (fun _ _ => rfl)))))), ?_⟩
    refine ⟨_, rfl, p, 9, rfl, hW, (by decide), (by decide), fun d o d0 d1 hW1 => ?_⟩
    have s1 : Sb p H (upd H p o) := Sb.upd_
    generalize upd H p o = H1 at hW1 s1 ⊢
    refine ⟨_, rfl, (by show 4 ≤ sizeLine; decide), fun q hq => ?_⟩
    have hW2 := hW1.same (same_new (o := .lst [.int 1, .int 2, .int 4, .int 5]) hq)
    have s2 := s1.trans (Sb.of (same_new (o := .lst [.int 1, .int 2, .int 4, .int 5]) hq))
    refine ⟨p, q, _, rfl, hW2, hW1.new hq, upd_same, by decide, by decide, fun i x o2 hx hW3 => ?_⟩
    have s3 := s2.trans (Sb.upd_ (p := p) (o := o2))
    obtain ⟨far, hfar, rfl⟩ : ∃ far : Nat, far ∈ [1, 2, 4, 5] ∧ x = .int (far : Int) := by
      match i, hx with
      | 0, hx => exact ⟨1, by decide, (Option.some.inj hx).symm⟩
      | 1, hx => exact ⟨2, by decide, (Option.some.inj hx).symm⟩
      | 2, hx => exact ⟨4, by decide, (Option.some.inj hx).symm⟩
      | 3, hx => exact ⟨5, by decide, (Option.some.inj hx).symm⟩
      | _ + 4, hx => simp at hx
    generalize upd (upd H1 q (.lst [.int 1, .int 2, .int 4, .int 5])) p o2 = H3 at hW3 s3 ⊢
    obtain ⟨b, rfl⟩ := Int.eq_ofNat_of_zero_le d0
    have hb : b < 9 := by omega
    refine ⟨(by show 2 ≤ sizeLine; decide), fun t ht => ?_⟩
    have hW4 := hW3.same (same_new (o := .tup [.int (b : Int), .int (far : Int)]) ht)
    have s4 := s3.trans (Sb.of (same_new (o := .tup [.int (b : Int), .int (far : Int)]) ht))
    refine ⟨t, _, rfl, SqT.of upd_same, rfl, _, _, rfl, _, _, rfl, rfl, ?_⟩
    generalize upd H3 t (.tup [.int (b : Int), .int (far : Int)]) = H4 at hW4 s4 ⊢
    refine ⟨(by show 9 ≤ sizeLine; decide), fun m hm => ?_⟩
    have hW5 := hW4.same (same_new (o := .lst (menuW.map V.str)) hm)
    have s5 := s4.trans (Sb.of (same_new (o := .lst (menuW.map V.str)) hm))
    have em : upd H4 m (.lst (menuW.map V.str)) m = some (.lst (menuW.map V.str)) := upd_same
    refine ⟨_, rfl, n, rfl, by omega, by omega, fun D hD' => ?_⟩
    have hfar5 : far ≤ 5 := by
      simp at hfar
      omega
    refine lcG (List.range n) (fun j => some (V.str (menuW.getD ((b + far * j) % 9) Str.empty))) (by rw [List.length_range, Int.toNat_natCast]; exact walk_range) (by rw [List.length_range]; omega) hD' (fun i H x H' h => by rw [h.1]; exact Same.refl _) (fun _ _ => trivial) (fun i j y H' H'' k1 hj sj hy k2 => ?_) (fun H6 s6 e6 => ?_)
    · obtain ⟨rfl, rfl⟩ := hy
      have hi : i < n := by
        have := (List.getElem?_eq_some_iff.mp hj).1
        rw [List.length_range] at this
        exact this
      have ej : j = i := by
        rw [List.getElem?_range hi] at hj
        exact (Option.some.inj hj).symm
      subst ej
      refine ⟨rfl, _, rfl, _, rfl, _, rfl, _, rfl, _, _, rfl, rfl, .inl ⟨by omega, by omega⟩, _, _, rfl, rfl, .inl ⟨_, rfl, _, _, rfl, rfl, (by show (0 : Int) < 9; decide), ?_⟩⟩
      have ez : ((b : Int) + (far : Int) * (0 + (j : Int))) % 9 = (((b + far * j) % 9 : Nat) : Int) := by
        rw [Int.zero_add]
        push_cast
        rfl
      show rIxL K (V.ref m) (V.int (((b : Int) + (far : Int) * (0 + (j : Int))) % 9)) H'' fun y H4 => k1 (some y) H4
      rw [ez]
      have hlt : (b + far * j) % 9 < menuW.length := Nat.mod_lt _ (by decide)
      refine ⟨m, _, _, V.str (menuW.getD ((b + far * j) % 9) Str.empty), rfl, rfl, SqL.of (sj _ _ em), atI_nat ?_, k2 _ (Same.refl _)⟩
      rw [List.getElem?_map, List.getD_eq_getElem?_getD, List.getElem?_eq_getElem hlt]
      rfl
    · refine k D (termsL b far n) H6 (by unfold termsL; rw [List.length_map, List.length_range]) (terms_ok n (by omega) b hb far hfar) (terms_mem _ _ _) ?_ (s5.trans (Sb.of s6)) (hW5.same s6) ?_
      · exact s5.free (hW5.new hD') hD'
      · rw [e6, List.filterMap_eq_map']
        unfold termsL
        rw [List.map_map]
        rfl
end
end My
namespace My
open PySem PySem.Spec PyProof.Rows L2
/-- a sketch: signs, moods, good moods, goals -/
structure SkOk (mm : Nat) (x : Str) (ws fs : List Str) (kvs : List (List Key × V)) : Prop where
  hx : ∃ xs ∈ menuX, x ∈ xs
  nd : ws.Nodup
  l1 : 1 ≤ ws.length
  l2 : ws.length ≤ mm
  mem : ∀ y ∈ ws, y ∈ menuW
  sub : fs.Sublist ws
  cv : Cv kvs ws (doneL ws x)
def spSketch : Sp := fun vs H Q _ => ∃ (p : Addr) (mm : Nat), vs = [.ref p, .int 3, .int (mm : Int)] ∧ Wl H p ∧ 1 ≤ mm ∧ mm ≤ 9 ∧
  ∀ (q : Addr) (x : Str) (ws fs : List Str) (kvs : List (List Key × V)) (H' : Hp), SkOk mm x ws fs kvs → Sb p H H' → Wl H' p → SkAt H' q x ws fs kvs → Q (.ref q) H'
theorem x_small {x : Str} (h : ∃ xs ∈ menuX, x ∈ xs) : x.length ≤ 3 := by
  obtain ⟨xs, h1, h2⟩ := h
  have : ∀ xs ∈ menuX, ∀ x ∈ xs, x.length ≤ 3 := by decide +kernel
  exact this xs h1 x h2
theorem SkOk.fine {mm : Nat} {x : Str} {ws fs : List Str} {kvs : List (List Key × V)} (h : SkOk mm x ws fs kvs) (hm : mm ≤ 9) : Fine x ws fs kvs := by
  refine ⟨?_, ?_, h.sub, fun t ht c hc => ?_⟩
  · obtain ⟨xs, h1, h2⟩ := h.hx
    have : ∀ xs ∈ menuX, ∀ x ∈ xs, areSignsL [x] = true := by decide +kernel
    exact this xs h1 x h2
  · have l1 := h.l1
    have l2 := h.l2
    unfold areMoodsL
    rw [decide_eq_true (show 1 ≤ ws.length from l1), decide_eq_true (show ws.length ≤ 300 by omega), decide_eq_true h.nd]
    have all : ∀ y ∈ menuW, isWordL y = true := by decide +kernel
    have : ws.all isWordL = true := List.all_eq_true.mpr fun y hy => all y (h.mem y hy)
    rw [this]
    rfl
  · obtain ⟨y, hy, e⟩ := h.cv.2 (t, c) (by
      unfold doneL
      exact List.mem_flatMap.mpr ⟨t, ht, List.mem_map.mpr ⟨c, hc, rfl⟩⟩)
    exact ⟨y, hy, e⟩
section
variable {P : Program} {w : World} {K : PySem.W.Frag} {mg : Str → Option Value} {base : Heap}
abbrev nSketch : List Str := ["_law_well_here", "_law_most_signs", "_law_most_moods", "_law_letters", "_law_tempers", "_law_goals", "_law_temper", "_law_glyph"]
theorem scSketch : FnScope nSketch ["_law_well_here", "_law_most_signs", "_law_most_moods"] (defScope sSketch) := ⟨rfl, rfl, rfl, by decide +kernel, rfl, by decide +kernel, by decide +kernel⟩
theorem ok_sketch {f : Addr} {fd : FuncData} (F : Fun K "_law_sketch" "_law_sketch" sSketch f fd) (hD : Hv P w K mg base 1 "_law_dip" ["_law_well_here", "_law_size"] spDip) (hP : Hv P w K mg base 2 "_law_pick" ["_law_well_here", "_law_menu"] spPickL) (hT : Hv P w K mg base 3 "_law_terms" ["_law_well_here", "_law_size"] spTerms)
    (hIs : mg "isinstance" = none) (hLi : mg "list" = none) : FnOk P w K mg base CX0 4 f fd ["_law_well_here", "_law_most_signs", "_law_most_moods"] spSketch := by
  refine F.ok scSketch (fun vs H Q E h => ?_) (fun cdv A outer s H vs Q E hr h => ?_)
  · obtain ⟨p, mm, rfl, _⟩ := h
    rfl
  · obtain ⟨p, mm, rfl, hW, m1, m9, k⟩ := h
    refine ⟨_, pss_cons (ps_set (i := 3) scSketch.nd rfl (Or.inl rfl) (pe_cl hP (hr.mono (by decide)) rfl pass0 (pa_cons (pv 0) (pa_cons (pe_slice sl_list (pe_lst (pa_cons (pe_lst (pa_cons pe_str (pa_cons pe_str (pa_cons pe_str pa_nil))))
          (pa_cons (pe_lst (pa_cons pe_str (pa_cons pe_str (pa_cons pe_str pa_nil)))) (pa_cons (pe_lst (pa_cons pe_str (pa_cons pe_str (pa_cons pe_str pa_nil)))) pa_nil)))) po_none (po_some (pv 1))) pa_nil))))
      (pss_cons (ps_set (i := 3) scSketch.nd rfl (Or.inl rfl) (pe_ifExp (pt_val (pe_callB call_isi (by rfl) hIs (by decide +kernel) (pa_cons (pv 3) (pa_cons (pe_bltn (v := .ty "list") (by rfl) hLi (by decide +kernel) rfl) pa_nil))))
          (pe_ix ix_list (pv 3) (pe_cl hD (hr.mono (by decide)) rfl pass0 (pa_cons (pv 0) (pa_cons pe_int pa_nil))) (fun _ _ => rfl)) (pv 3)))
      (pss_cons (ps_par (i := 4) (j := 5) (by rfl) scSketch.nd rfl rfl (by decide) rfl rfl (pa_cons (pe_cl hT hr rfl pass0 (pa_cons (pv 0) (pa_cons (pe_op op_add pe_int (pe_cl hD (hr.mono (by decide)) rfl pass0 (pa_cons (pv 0) (pa_cons (pv 2) pa_nil)))) pa_nil))) (pa_cons pe_dnewT pa_nil)) (by rfl))
      (pss_cons (ps_for PassesOwn.never rfl (pi_list (pv 4)) (pg_name (i := 6) scSketch.nd rfl (Or.inl rfl)) (pss_one (ps_for PassesOwn.never rfl (pi_str (pv 3)) (pg_name (i := 7) scSketch.nd rfl (Or.inl rfl))
          (pss_one (ps_dput (hu_of hr) (pv 5) (pe_tup (pa_cons (pv 6) (pa_cons (pv 7) pa_nil))) (pe_cl hP (hr.mono (by decide)) rfl pass0 (pa_cons (pv 0) (pa_cons (pv 4) pa_nil))) rfl)))))
      (pss_one (ps_ret (pe_lst (pa_cons (pv 3) (pa_cons (pv 4) (pa_cons (pe_lc (own := [("_law_temper", 6)]) (g := gName 6) rfl scSketch.nd (pi_list (pv 4)) (blkOk_by (N := nSketch) (sc := defScope sSketch) (by decide +kernel))
          (fun _ _ _ _ _ => pg_name (i := 6) scSketch.nd rfl (Or.inl rfl)) (fun _ _ _ _ _ => pts_one (pt_cmpR op_eq (pe_cl hD (hr.mono (by decide)) rfl pass0 (pa_cons (pv 0) (pa_cons pe_int pa_nil))) pe_int (nomark _))) (fun _ _ _ _ _ => pv 6)) (pa_cons (pv 5) pa_nil)))))))))), ?_⟩
    -- the signs
    refine ⟨_, rfl, (by show 3 ≤ sizeLine; decide), fun q1 h1 => ⟨(by show 3 ≤ sizeLine; decide), fun q2 h2 => ⟨(by show 3 ≤ sizeLine; decide), fun q3 h3 => ⟨(by show 3 ≤ sizeLine; decide), fun q4 h4 => ?_⟩⟩⟩⟩
    refine ⟨_, rfl, 3, rfl, q4, _, rfl, SqL.of upd_same, fun q5 h5 => ?_⟩
    have ec : cutV [V.ref q1, V.ref q2, V.ref q3] none (some 3) = [V.ref q1, V.ref q2, V.ref q3] := rfl
    rw [ec]
    have s0 := ((((same_new h1).trans (same_new h2)).trans (same_new h3)).trans (same_new h4)).trans (same_new (o := .lst [V.ref q1, V.ref q2, V.ref q3]) h5)
    have hf : ∀ (j : Nat) (y : V), [V.ref q1, V.ref q2, V.ref q3][j]? = some y → ∃ (a : Addr) (xs : List Str), y = .ref a ∧ xs ∈ menuX ∧ xs.length = 3 ∧
        upd (upd (upd (upd (upd H q1 (.lst [.str "a", .str "b", .str "z"])) q2 (.lst [.str "ab", .str "by", .str "az"])) q3 (.lst [.str "abc", .str "bxz", .str "cde"])) q4 (.lst [V.ref q1, V.ref q2, V.ref q3])) q5 (.lst [V.ref q1, V.ref q2, V.ref q3]) a = some (.lst (xs.map V.str)) := fun j y hj => by
      match j, hj with
      | 0, hj => exact ⟨q1, ["a", "b", "z"], (Option.some.inj hj).symm, by simp, rfl, keep1 (keep1 (keep1 (keep1 upd_same h2) h3) h4) h5⟩
      | 1, hj => exact ⟨q2, ["ab", "by", "az"], (Option.some.inj hj).symm, by simp, rfl, keep1 (keep1 (keep1 upd_same h3) h4) h5⟩
      | 2, hj => exact ⟨q3, ["abc", "bxz", "cde"], (Option.some.inj hj).symm, by simp, rfl, keep1 (keep1 upd_same h4) h5⟩
      | _ + 3, hj => simp at hj
    have hW1 := hW.same s0
    have e5 : upd (upd (upd (upd (upd H q1 (.lst [.str "a", .str "b", .str "z"])) q2 (.lst [.str "ab", .str "by", .str "az"])) q3 (.lst [.str "abc", .str "bxz", .str "cde"])) q4 (.lst [V.ref q1, V.ref q2, V.ref q3])) q5 (.lst [V.ref q1, V.ref q2, V.ref q3]) q5 = some (.lst [V.ref q1, V.ref q2, V.ref q3]) := upd_same
    have n5 : q5 ≠ p := Wl.new (hW.same ((((same_new h1).trans (same_new h2)).trans (same_new h3)).trans (same_new h4))) h5
    generalize upd (upd (upd (upd (upd H q1 (.lst [.str "a", .str "b", .str "z"])) q2 (.lst [.str "ab", .str "by", .str "az"])) q3 (.lst [.str "abc", .str "bxz", .str "cde"])) q4 (.lst [V.ref q1, V.ref q2, V.ref q3])) q5 (.lst [V.ref q1, V.ref q2, V.ref q3]) = H1 at hf hW1 e5 s0 ⊢
    refine ⟨p, q5, _, rfl, hW1, n5, e5, (by show 0 < 3; decide), (by show 3 ≤ 1000; decide), fun j y o hj hW2 => ?_⟩
    obtain ⟨a, xs, rfl, hxs, l3, ea⟩ := hf j y hj
    have na : a ≠ p := hW1.neS ea
    have ea2 : upd H1 p o a = some (.lst (xs.map V.str)) := by rw [upd_ne na]; exact ea
    have s2 : Sb p H (upd H1 p o) := (Sb.of s0).trans Sb.upd_
    generalize upd H1 p o = H2 at hW2 ea2 s2 ⊢
    clear hf e5 hj h1 h2 h3 h4 h5 s0 hW1 ea
    refine ⟨_, rfl, .ref a, .ty "list", _, .type "list", true, rfl, .ty _, .base (.lst ea2), kit_ty (by decide +kernel), _, rfl, iteT ?_⟩
    refine ⟨_, rfl, _, rfl, p, 3, rfl, hW2, (by decide), (by decide), fun d o d0 d1 hW3 => ?_⟩
    obtain ⟨j, rfl⟩ := Int.eq_ofNat_of_zero_le d0
    have hj : j < xs.length := by omega
    have ei : xs[j]? = some xs[j] := List.getElem?_eq_getElem hj
    refine ⟨a, _, _, V.str xs[j], rfl, rfl, SqL.of (by rw [upd_ne na]; exact ea2), atI_nat (by rw [List.getElem?_map, ei]; rfl), ?_⟩
    have hx : ∃ ys ∈ menuX, xs[j] ∈ ys := ⟨xs, hxs, List.getElem_mem hj⟩
    generalize xs[j] = x at hx ⊢
    have s3 : Sb p H (upd H2 p o) := s2.trans Sb.upd_
    generalize upd H2 p o = H3 at hW3 s3 ⊢
    clear ea2 na hxs l3 hj ei d0 d1
    have xs3 := x_small hx
    -- the moods
    refine ⟨_, rfl, _, rfl, _, rfl, p, _, rfl, hW3, by omega, by omega, fun d o d0 d1 hW4 => ?_⟩
    obtain ⟨n, rfl⟩ := Int.eq_ofNat_of_zero_le d0
    have s4 : Sb p H (upd H3 p o) := s3.trans Sb.upd_
    generalize upd H3 p o = H4 at hW4 s4 ⊢
    refine ⟨_, _, rfl, rfl, p, 1 + n, by push_cast; rfl, hW4, by omega, fun lw ws H5 hl nd mem fw sw hW5 ew => ?_⟩
    have s5 := s4.trans sw
    refine fun g hg => ⟨_, _, rfl, ?_⟩
    have hW6 := hW5.same (same_new (o := .dT []) hg)
    have s6 := s5.trans (Sb.of (same_new (o := .dT []) hg))
    have ew6 := keep1 (o := .dT []) ew hg
    have nw : lw ≠ p := hW5.neS ew
    have ng : g ≠ p := hW5.new hg
    have nwg : lw ≠ g := ne_of_none ew hg
    have eg6 : upd H5 g (.dT []) g = some (.dT []) := upd_same
    have fg : H5 g = none := hg
    have hgH : H g = none := s5.free ng hg
    generalize upd H5 g (.dT []) = H6 at hW6 s6 ew6 eg6 ⊢
    have l1 : 1 ≤ ws.length := by omega
    have l2 : ws.length ≤ mm := by omega
    -- the goals
    refine ⟨_, rfl, lw, rfl, ⟨_, SqL.of ew6⟩, ?_⟩
    refine for_it (walk_listL ws V.str) (fun i σ H' => ∃ v6 v7 kvs, σ = [some (.ref p), some (.int 3), some (.int mm), some (.str x), some (.ref lw), some (.ref g), v6, v7] ∧ Wl H' p ∧ H' g = some (.dT kvs) ∧ Cv kvs ws (doneL (ws.take i) x) ∧ (∀ b o, b ≠ p → b ≠ g → H6 b = some o → H' b = some o))
      ⟨none, none, [], rfl, hW6, eg6, ⟨Nat.zero_le _, fun d hd => by simp [doneL] at hd⟩, fun b o _ _ e => e⟩ (fun i σ H' _ h => ?_) (fun i y σ H' H'' hi h hy => ?_) (fun σ H' h => ?_)
    · obtain ⟨v6, v7, kvs, rfl, _, _, _, st⟩ := h
      exact SqL.of (st _ _ nw nwg ew6)
    · obtain ⟨rfl, hy⟩ := hy
      have hm : ws[i]? = some ws[i] := List.getElem?_eq_getElem hi
      obtain rfl := map_get hm hy
      obtain ⟨v6, v7, kvs, rfl, hW7, eg7, cv, st⟩ := h
      refine ⟨_, rfl, x, rfl, ?_⟩
      refine for_it walk_str (fun j σ H' => ∃ v7 kvs, σ = [some (.ref p), some (.int 3), some (.int mm), some (.str x), some (.ref lw), some (.ref g), some (.str ws[i]), v7] ∧ Wl H' p ∧ H' g = some (.dT kvs) ∧ Cv kvs ws (doneL (ws.take i) x ++ (x.cps.toList.take j).map fun c => (ws[i], c)) ∧ (∀ b o, b ≠ p → b ≠ g → H6 b = some o → H' b = some o))
        ⟨v7, kvs, rfl, hW7, eg7, by rw [List.take_zero, List.map_nil, List.append_nil]; exact cv, st⟩ (fun _ _ _ _ _ => trivial) (fun j y σ H7 H8 hj h hy => ?_) (fun σ H7 h => ?_)
      · obtain ⟨rfl, c, hc, rfl⟩ := hy
        obtain ⟨v7, kvs, rfl, hW7, eg7, cv, st⟩ := h
        have et : (x.cps.toList.take (j + 1)).map (fun c => (ws[i], c)) = (x.cps.toList.take j).map (fun c => (ws[i], c)) ++ [(ws[i], c)] := by
          rw [List.take_add_one, Array.getElem?_toList, hc, List.map_append]
          rfl
        refine ⟨_, rfl, _, rfl, p, lw, _, rfl, hW7, nw, st _ _ nw nwg ew6, (by rw [List.length_map]; omega), (by rw [List.length_map]; omega), fun u y o hu hW8 => ?_⟩
        have hy : ∃ z ∈ ws, y = .str z := by
          rw [List.getElem?_map] at hu
          cases e : ws[u]? with
          | none => rw [e] at hu; cases hu
          | some z => rw [e] at hu; exact ⟨z, List.mem_of_getElem? e, (Option.some.inj hu).symm⟩
        obtain ⟨z, hz, rfl⟩ := hy
        have eg8 : upd H8 p o g = some (.dT kvs) := by rw [upd_ne ng]; exact eg7
        have st8 : ∀ b o', b ≠ p → b ≠ g → H6 b = some o' → upd H8 p o b = some o' := fun b o' n1 n2 e => by rw [upd_ne n1]; exact st b o' n1 n2 e
        generalize upd H8 p o = H9 at hW8 eg8 st8 ⊢
        refine ⟨_, rfl, _, rfl, _, rfl, (by show 2 ≤ sizeLine; decide), fun t ht => ⟨g, _, rfl, .inr ⟨kvs, kT ws[i] c, t, keep1 eg8 ht, rfl, upd_same, ?_, rfl⟩, ?_⟩⟩
        · have a1 := cv.1
          rw [List.length_append, done_len, List.length_take, List.length_map, List.length_take] at a1
          have a2 : min i ws.length * x.length ≤ 9 * 3 := Nat.mul_le_mul (by omega) xs3
          rw [sizeLine_eq]
          have a3 : min j x.cps.toList.length ≤ j := Nat.min_le_left ..
          have a4 : j < 4 := Nat.lt_of_lt_of_le hj (Nat.le_succ_of_le xs3)
          omega
        · have nt : g ≠ t := ne_of_none eg8 ht
          refine ⟨_, _, rfl, ((hW8.same (same_new ht)).upd_ ng), upd_same, ?_, fun b o' n1 n2 e => ?_⟩
          · rw [et, ← List.append_assoc]
            exact cv.put hz
          · rw [upd_ne n2, upd_ne (ne_of_none (st8 b o' n1 n2 e) ht)]
            exact st8 b o' n1 n2 e
      · obtain ⟨v7, kvs, rfl, hW7, eg7, cv, st⟩ := h
        refine ⟨_, _, kvs, rfl, hW7, eg7, ?_, st⟩
        have : x.cps.toList.take x.cps.size = x.cps.toList := by rw [← Array.length_toList, List.take_length]
        rw [this] at cv
        rw [done_take hm]
        exact cv
    obtain ⟨v6, v7, kvs, rfl, hW7, eg7, cv, st⟩ := h
    rw [List.take_length] at cv
    have ew7 := st _ _ nw nwg ew6
    have s7 : Sb p H H' := fun b o n e => by
      have nb : b ≠ g := fun z => by rw [z, hgH] at e; cases e
      exact st b o n nb (s6 b o n e)
    -- the good ones
    refine ⟨_, rfl, _, rfl, _, rfl, lw, rfl, ⟨_, SqL.of ew7⟩, fun D hD' => ?_⟩
    have nD : D ≠ p := hW7.new hD'
    refine lc_it (walk_listL ws V.str) (fun i H'' => Wl H'' p ∧ (∀ b o, b ≠ p → b ≠ D → H' b = some o → H'' b = some o) ∧ ∃ fs : List Str, fs.Sublist (ws.take i) ∧ H'' D = some (.lst (fs.map V.str)))
      ⟨hW7.upd_ nD, fun b o n1 n2 e => by rw [upd_ne n2]; exact e, [], by simp, upd_same⟩ (fun i H'' _ h => SqL.of (h.2.1 _ _ nw (ne_of_none ew7 hD') ew7)) (fun i y H7 H8 hi h hy => ?_) (fun H8 h => ?_)
    · obtain ⟨rfl, hy⟩ := hy
      have hm : ws[i]? = some ws[i] := List.getElem?_eq_getElem hi
      obtain rfl := map_get hm hy
      obtain ⟨hW8, st8, fs, sub, eD⟩ := h
      have etk : ws.take (i + 1) = ws.take i ++ [ws[i]] := by rw [List.take_add_one, hm]; rfl
      refine ⟨rfl, _, rfl, p, 2, rfl, hW8, (by decide), (by decide), fun d o d0 d1 hW9 => ⟨rfl, _, rfl, ite2 (fun c => ?_) (fun c => ?_)⟩⟩
      · refine ⟨_, rfl, _, by rw [upd_ne nD]; exact eD, ?_, hW9.upd_ nD, fun b o' n1 n2 e => ?_, fs ++ [ws[i]], by rw [etk]; exact sub.append (List.Sublist.refl _), ?_⟩
        · have := sub.length_le
          rw [List.length_take] at this
          rw [List.length_map, sizeLine_eq]
          omega
        · rw [upd_ne n2, upd_ne n1]
          exact st8 b o' n1 n2 e
        · rw [upd_same, List.map_append]
          rfl
      · refine ⟨hW9, fun b o' n1 n2 e => by rw [upd_ne n1]; exact st8 b o' n1 n2 e, fs, ?_, by rw [upd_ne nD]; exact eD⟩
        rw [etk]
        exact sub.trans (List.sublist_append_left _ _)
    · obtain ⟨hW8, st8, fs, sub, eD⟩ := h
      rw [List.take_length] at sub
      refine ⟨_, rfl, (by show 4 ≤ sizeLine; decide), fun q hq => ?_⟩
      have eg8 := st8 _ _ ng (ne_of_none eg7 hD') eg7
      have ew8 := st8 _ _ nw (ne_of_none ew7 hD') ew7
      refine k q x ws fs kvs _ ⟨hx, nd, l1, l2, mem, sub, cv⟩ (fun b o n e => ?_) (hW8.same (same_new hq)) ⟨lw, D, g, upd_same, keep1 ew8 hq, keep1 eD hq, keep1 eg8 hq⟩
      have e7 := s7 b o n e
      exact keep1 (st8 b o n (ne_of_none e7 hD') e7) hq
end
end My
namespace My
open PySem PySem.Spec PyProof.Rows L2
section
variable {P : Program} {w : World} {K : PySem.W.Frag} {mg : Str → Option Value} {base : Heap}
abbrev nText : List Str := ["_law_sketch_here", "_law_letters", "_law_tempers", "_law_fine", "_law_goals", "_law_lines_here", "_law_temper", "_law_glyph"]
theorem scText : FnScope nText ["_law_sketch_here"] (defScope sText) := ⟨rfl, rfl, rfl, by decide +kernel, rfl, by decide +kernel, by decide +kernel⟩
theorem ok_text {f : Addr} {fd : FuncData} (F : Fun K "_law_text" "_law_text" sText f fd) : FnOk P w K mg base CX0 1 f fd ["_law_sketch_here"] spText := by
  refine F.ok scText (fun vs H Q E h => ?_) (fun cdv A outer s H vs Q E hr h => ?_)
  · obtain ⟨q, x, ws, fs, kvs, rfl, _⟩ := h
    rfl
  · obtain ⟨q, x, ws, fs, kvs, rfl, ⟨lw, lf, g, eq, ew, ef, eg⟩, sh, k⟩ := h
    refine ⟨_, pss_cons (ps_asg (pv 0) (pg_unl (n := 4) rfl (pgs_cons (pg_name (i := 1) scText.nd rfl (Or.inl rfl)) (pgs_cons (pg_name (i := 2) scText.nd rfl (Or.inl rfl)) (pgs_cons (pg_name (i := 3) scText.nd rfl (Or.inl rfl)) (pgs_cons (pg_name (i := 4) scText.nd rfl (Or.inr rfl)) pgs_nil))))))
      (pss_cons (ps_set (i := 5) scText.nd rfl (Or.inl rfl) (pe_lst (pa_cons (pe_op op_add_str pe_str (pv 1)) (pa_cons (pe_join pe_str (pe_op op_cat (pe_lst (pa_cons pe_str pa_nil)) (pv 2))) (pa_cons (pe_join pe_str (pe_op op_cat (pe_lst (pa_cons pe_str pa_nil)) (pv 3))) pa_nil)))))
      (pss_cons (ps_for PassesOwn.never rfl (pi_list (pv 2)) (pg_name (i := 6) scText.nd rfl (Or.inr rfl)) (pss_one (ps_set (i := 5) scText.nd rfl (Or.inl rfl) (pe_op op_cat (pv 5) (pe_lc (own := [("_law_glyph", 7)]) (g := gName 7) (tt := tYes) rfl scText.nd (pi_str (pv 1)) (blkOk_by (N := nText) (sc := defScope sText) (by decide +kernel))
          (fun _ _ _ _ _ => pg_name (i := 7) scText.nd rfl (Or.inl rfl)) (fun _ _ _ _ _ => pts_nil) (fun _ _ _ _ _ => pe_op op_add_str (pe_op op_add_str (pe_op op_add_str (pe_op op_add_str (pv 6) pe_str) (pv 7)) pe_str) (pe_dget (hu_of hr) (pv 4) (pe_tup (pa_cons (pv 6) (pa_cons (pv 7) pa_nil))) (fun _ _ => rfl))))))))
      (pss_one (ps_ret (pe_join pe_str (pv 5)))))), ?_⟩
    have esp : (Str.ofString " ") = sp := by decide +kernel
    have enl : (Str.ofString "\n") = nl := by decide +kernel
    have hs := lines_short sh
    have z := sh.hx
    have z1 := sh.nw
    have z2 := sh.nf
    refine ⟨_, rfl, q, _, rfl, SqL.of eq, rfl, _, _, rfl, _, _, rfl, _, _, rfl, _, _, rfl, rfl, ?_⟩
    -- the first three lines
    refine ⟨_, rfl, _, _, rfl, rfl, ?_, ?_⟩
    · have : ("signs " : Str).length = 6 := by decide +kernel
      rw [sizeLine_eq]
      omega
    refine ⟨⟨_, rfl⟩, (by show 1 ≤ sizeLine; decide), fun a1 h1 => ⟨_, rfl, a1, lw, _, _, rfl, rfl, upd_same, keep1 ew h1, ?_, fun a2 h2 => ?_⟩⟩
    · rw [List.length_map, sizeLine_eq]
      simp
      omega
    have s2 := (same_new (o := .lst [V.str ("moods" : Str)]) h1).trans (same_new (o := .lst ([V.str ("moods" : Str)] ++ ws.map V.str)) h2)
    refine ⟨_, a2, ("moods" : Str) :: ws, rfl, rfl, .inl (SqL.of upd_same), ?_, ?_⟩
    · have b := sum_le sh.lw
      have c : ("moods" : Str).length = 5 := by decide +kernel
      have d : (Str.ofString " ").length = 1 := by decide +kernel
      rw [List.map_cons, List.sum_cons, List.length_cons, c, d]
      omega
    generalize upd (upd H a1 (.lst [V.str ("moods" : Str)])) a2 (.lst ([V.str ("moods" : Str)] ++ ws.map V.str)) = H2 at s2 ⊢
    refine ⟨⟨_, rfl⟩, (by show 1 ≤ sizeLine; decide), fun a3 h3 => ⟨_, rfl, a3, lf, _, _, rfl, rfl, upd_same, keep1 (s2 _ _ ef) h3, ?_, fun a4 h4 => ?_⟩⟩
    · rw [List.length_map, sizeLine_eq]
      simp
      omega
    have s4 := (s2.trans (same_new (o := .lst [V.str ("good" : Str)]) h3)).trans (same_new (o := .lst ([V.str ("good" : Str)] ++ fs.map V.str)) h4)
    refine ⟨_, a4, ("good" : Str) :: fs, rfl, rfl, .inl (SqL.of upd_same), ?_, ?_⟩
    · have b := sum_le sh.lf
      have c : ("good" : Str).length = 4 := by decide +kernel
      have d : (Str.ofString " ").length = 1 := by decide +kernel
      rw [List.map_cons, List.sum_cons, List.length_cons, c, d]
      omega
    generalize upd (upd H2 a3 (.lst [V.str ("good" : Str)])) a4 (.lst ([V.str ("good" : Str)] ++ fs.map V.str)) = H4 at s4 ⊢
    refine ⟨(by show 3 ≤ sizeLine; decide), fun l0 h0 => ?_⟩
    rw [esp]
    have s5 := s4.trans (same_new (o := .lst ((headL x ws fs).map V.str)) h0)
    have e5 : upd H4 l0 (.lst ((headL x ws fs).map V.str)) l0 = some (.lst ((headL x ws fs).map V.str)) := upd_same
    have ew5 := s5 _ _ ew
    have eg5 := s5 _ _ eg
    show ∃ a, _
    generalize eH5 : upd H4 l0 (.lst ((headL x ws fs).map V.str)) = H5 at s5 e5 ew5 eg5
    have eH5' : upd H4 l0 (.lst [V.str (("signs " : Str) ++ x), V.str (Txt.join sp (("moods" : Str) :: ws)), V.str (Txt.join sp (("good" : Str) :: fs))]) = H5 := eH5
    rw [eH5']
    refine ⟨_, rfl, lw, rfl, ⟨_, SqL.of ew5⟩, ?_⟩
    refine for_it (walk_listL ws V.str) (fun i σ H' => ∃ (l : Addr) (v6 : Option V), σ = [some (.ref q), some (.str x), some (.ref lw), some (.ref lf), some (.ref g), some (.ref l), v6, none] ∧ Same H5 H' ∧ H' l = some (.lst ((headL x ws fs ++ bodyL x (ws.take i) kvs).map V.str)))
      ⟨l0, none, rfl, Same.refl _, by rw [List.take_zero]; exact e5⟩ (fun i σ H' _ h => ?_) (fun i y σ H' H'' hi h hy => ?_) (fun σ H' h => ?_)
    · obtain ⟨l, v6, rfl, st, _⟩ := h
      exact SqL.of (st _ _ ew5)
    · obtain ⟨rfl, hy⟩ := hy
      have hm : ws[i]? = some ws[i] := List.getElem?_eq_getElem hi
      obtain rfl := map_get hm hy
      obtain ⟨l, v6, rfl, st, el⟩ := h
      refine ⟨_, rfl, _, rfl, x, rfl, fun D hD => ?_⟩
      refine lcG (x.cps.toList) (fun c => some (V.str (lineL kvs ws[i] c))) (by rw [Array.length_toList]; exact walk_str) (by rw [Array.length_toList]; exact Nat.le_trans z (by decide)) hD (fun i H x H' h => by rw [h.1]; exact Same.refl _) (fun _ _ => trivial) (fun j c y H7 H8 k1 hc sj hy k2 => ?_) (fun H7 s7 e7 => ?_)
      · obtain ⟨rfl, c', hc', rfl⟩ := hy
        rw [← Array.getElem?_toList, hc] at hc'
        cases hc'
        have hmw : ws[i] ∈ ws := List.getElem_mem hi
        have hcx : c ∈ x.cps.toList := List.mem_of_getElem? hc
        obtain ⟨gy, lg, egy⟩ := sh.gl ws[i] hmw c hcx
        have lt := sh.lw ws[i] hmw
        have d : (sp : Str).length = 1 := rfl
        have d2 : ({ cps := #[c] } : Str).length = 1 := rfl
        refine ⟨rfl, _, rfl, _, _, rfl, rfl, (by rw [sizeLine_eq]; omega), _, rfl, _, _, rfl, rfl, (by rw [sizeLine_eq, len_app]; omega), _, _, rfl, rfl, (by rw [sizeLine_eq, len_app, len_app]; omega), _, rfl, _, rfl, _, rfl, (by show 2 ≤ sizeLine; decide), fun t ht => ?_⟩
        refine ⟨g, V.str gy, rfl, ?_, _, _, rfl, rfl, ?_, ?_⟩
        · have := DGet.t (k := kT ws[i] c) (keep1 ((st.trans sj) _ _ eg5) ht) (upd_same (o := .tup ((kT ws[i] c).map kV)))
          rw [egy] at this
          exact this
        · rw [sizeLine_eq, len_app, len_app, len_app]
          omega
        · have := k2 _ (same_new (o := .tup ((kT ws[i] c).map kV)) ht)
          unfold lineL at this
          rw [gf_is egy] at this
          exact this
      · refine ⟨l, D, _, _, rfl, rfl, s7 _ _ el, e7, ?_, fun r hr' => ?_⟩
        · have a1 : (headL x ws fs ++ bodyL x (ws.take i) kvs).length ≤ 63 := by
            rw [List.length_append, body_len, List.length_take]
            have : min i ws.length * x.length ≤ 20 * 3 := Nat.mul_le_mul (by omega) z
            show 3 + _ ≤ 63
            omega
          have a2 : (x.cps.toList.filterMap fun c => some (V.str (lineL kvs ws[i] c))).length ≤ 3 := by
            rw [List.filterMap_eq_map', List.length_map, Array.length_toList]
            exact z
          rw [List.length_map, sizeLine_eq]
          omega
        · refine ⟨r, _, rfl, (st.trans s7).trans (same_new hr'), ?_⟩
          rw [upd_same, body_take hm, List.filterMap_eq_map', ← List.append_assoc, List.map_append (l₁ := headL x ws fs ++ bodyL x (ws.take i) kvs), List.map_map]
          rfl
    · obtain ⟨l, v6, rfl, st, el⟩ := h
      rw [List.take_length] at el
      refine ⟨⟨_, rfl⟩, _, rfl, _, l, linesL x ws fs kvs, rfl, rfl, .inl (SqL.of el), ?_, ?_⟩
      · have b := sum_le hs.2
        have c := hs.1
        have d : (Str.ofString "\n").length = 1 := by decide +kernel
        have e : (linesL x ws fs kvs).length * 200 ≤ 63 * 200 := Nat.mul_le_mul_right _ c
        rw [d]
        omega
      · rw [enl]
        exact k _ (s5.trans st)
end
end My
namespace My
open PySem PySem.Spec PyProof.Rows L2
/-- what the law takes for any values, as data -/
def menu : List PyData := [.none, .bool true, .bool false, .int 0, .int 1, .int (-1), .int 1001, .int (10 ^ 30), .str "", .str "a", .str "last", .str "ends", .str "sets", .str "windows", .str "maa", .str "A", .str "ab>",
  .str "two words", .tuple [], .tuple [.none], .tuple [.str "a"], .list [.str "a"], .list [], .dict [], .dict [(.str "a", .int 1)], .tuple [.str "", .str "a", .str "b", .str ""], .tuple [.tuple []], .tuple [.list []], .str "Last"]
/-- the values of the menu, by where its objects stand -/
def menuV (t0 t1 t2 l2 l3 d0 d1 t3 t5 t6 : Addr) : List V := [.non, .bl true, .bl false, .int 0, .int 1, .int (-1), .int 1001, .int (10 ^ 30), .str "", .str "a", .str "last", .str "ends", .str "sets", .str "windows", .str "maa", .str "A", .str "ab>",
  .str "two words", .ref t0, .ref t1, .ref t2, .ref l2, .ref l3, .ref d0, .ref d1, .ref t3, .ref t5, .ref t6, .str "Last"]
def spOdd (K : PySem.W.Frag) : Sp := fun vs H Q _ => ∃ p : Addr, vs = [.ref p] ∧ Wl H p ∧
  ∀ (v : V) (d : PyData) (H' : Hp), d ∈ menu → Sh K (del H' p) v d → Wl H' p → Same (del H p) (del H' p) → Q v H'
theorem odd_end {K : PySem.W.Frag} {H Hn : Hp} {Q : VK} {p l6 t0 t1 t2 l2 l3 d0 d1 t3 t4 t5 l4 t6 : Addr} (hs : Same H Hn) (hW : Wl Hn p) (e6 : Hn l6 = some (.lst (menuV t0 t1 t2 l2 l3 d0 d1 t3 t5 t6)))
    (g2 : Hn t0 = some (.tup []))
    (g3 : Hn t1 = some (.tup [.non]))
    (g4 : Hn t2 = some (.tup [.str "a"]))
    (g5 : Hn l2 = some (.lst [.str "a"]))
    (g6 : Hn l3 = some (.lst []))
    (g7 : Hn d0 = some (.dK []))
    (g8 : Hn d1 = some (.dK [(Sum.inr "a", .int 1)]))
    (g9 : Hn t3 = some (.tup [.str "", .str "a", .str "b", .str ""]))
    (g10 : Hn t4 = some (.tup []))
    (g11 : Hn t5 = some (.tup [.ref t4]))
    (g12 : Hn l4 = some (.lst []))
    (g13 : Hn t6 = some (.tup [.ref l4]))
    (k : ∀ (v : V) (d : PyData) (H' : Hp), d ∈ menu → Sh K (del H' p) v d → Wl H' p → Same (del H p) (del H' p) → Q v H') (d : Int) (o : HO) (b0 : 0 ≤ d) (b1 : d < 29) (hW' : Wl (upd Hn p o) p) :
    rIxL K (.ref l6) (.int d) (upd Hn p o) Q := by
  obtain ⟨w0, w1, w2, a0, a1, ep⟩ := hW
  have ne6 : l6 ≠ p := ne_of e6 ep (by intro z; cases z)
  obtain ⟨j, rfl⟩ := Int.eq_ofNat_of_zero_le b0
  have hj : j < 29 := by omega
  have ei : (menuV t0 t1 t2 l2 l3 d0 d1 t3 t5 t6)[j]? = some ((menuV t0 t1 t2 l2 l3 d0 d1 t3 t5 t6)[j]'hj) := List.getElem?_eq_getElem hj
  refine ⟨l6, menuV t0 t1 t2 l2 l3 d0 d1 t3 t5 t6, _, _, rfl, rfl, SqL.of (by rw [upd_ne ne6]; exact e6), atI_nat ei, ?_⟩
  have f2 := delk (p := p) (o := o) g2 (ne_of g2 ep (by intro z; cases z))
  have f3 := delk (p := p) (o := o) g3 (ne_of g3 ep (by intro z; cases z))
  have f4 := delk (p := p) (o := o) g4 (ne_of g4 ep (by intro z; cases z))
  have f5 := delk (p := p) (o := o) g5 (ne_of g5 ep (by intro z; cases z))
  have f6 := delk (p := p) (o := o) g6 (ne_of g6 ep (by intro z; cases z))
  have f7 := delk (p := p) (o := o) g7 (ne_of g7 ep (by intro z; cases z))
  have f8 := delk (p := p) (o := o) g8 (ne_of g8 ep (by intro z; cases z))
  have f9 := delk (p := p) (o := o) g9 (ne_of g9 ep (by intro z; cases z))
  have f10 := delk (p := p) (o := o) g10 (ne_of g10 ep (by intro z; cases z))
  have f11 := delk (p := p) (o := o) g11 (ne_of g11 ep (by intro z; cases z))
  have f12 := delk (p := p) (o := o) g12 (ne_of g12 ep (by intro z; cases z))
  have f13 := delk (p := p) (o := o) g13 (ne_of g13 ep (by intro z; cases z))
  have all : ShAll K (del (upd Hn p o) p) (menuV t0 t1 t2 l2 l3 d0 d1 t3 t5 t6) menu := by
    refine .cons (.fl .non) (.cons (.fl (.bl true)) (.cons (.fl (.bl false)) (.cons (.fl (.int 0)) (.cons (.fl (.int 1)) (.cons (.fl (.int (-1))) (.cons (.fl (.int 1001)) (.cons (.fl (.int (10 ^ 30)))
      (.cons (.fl (.str _)) (.cons (.fl (.str _)) (.cons (.fl (.str _)) (.cons (.fl (.str _)) (.cons (.fl (.str _)) (.cons (.fl (.str _)) (.cons (.fl (.str _)) (.cons (.fl (.str _)) (.cons (.fl (.str _)) (.cons (.fl (.str _)) ?_)))))))))))))))))
    exact .cons (.tup (SqT.of f2) .nil) (.cons (.tup (SqT.of f3) (.cons (.fl .non) .nil)) (.cons (.tup (SqT.of f4) (.cons (.fl (.str _)) .nil)) (.cons (.lst (SqL.of f5) (.cons (.fl (.str _)) .nil)) (.cons (.lst (SqL.of f6) .nil)
      (.cons (.dic f7 .nil .nil) (.cons (.dic f8 (.cons (.str _) .nil) (.cons (.int _) .nil)) (.cons (.tup (SqT.of f9) (.cons (.fl (.str _)) (.cons (.fl (.str _)) (.cons (.fl (.str _)) (.cons (.fl (.str _)) .nil)))))
      (.cons (.tup (SqT.of f11) (.cons (.tup (SqT.of f10) .nil) .nil)) (.cons (.tup (SqT.of f13) (.cons (.lst (SqL.of f12) .nil) .nil)) (.cons (.fl (.str _)) .nil))))))))))
  obtain ⟨dd, m1, m2⟩ := ShAll.get all ei
  exact k _ dd _ m1 m2 hW' (Same.trans (same_del hs) same_del_upd)
section
variable {P : Program} {w : World} {K : PySem.W.Frag} {mg : Str → Option Value} {base : Heap}
theorem scO : FnScope ["_law_well_here", "_law_some"] ["_law_well_here"] (defScope sOdd) :=
  ⟨rfl, rfl, rfl, by decide +kernel, rfl, by decide +kernel, by decide +kernel⟩
theorem ok_odd {f fD : Addr} {fd fdD : FuncData} (F : Fun K "_law_odd" "_law_odd" sOdd f fd) (GD : FnOk P w K mg base CX0 1 fD fdD ["_law_well_here", "_law_size"] spDip) (bD : Binds K fdD ["_law_well_here", "_law_size"] [])
    (gD : mg "_law_dip" = some (.ref fD)) (kD : PySem.W.keepIn K (.ref fD) = true) (hL : mg "len" = none) : FnOk P w K mg base CX0 2 f fd ["_law_well_here"] (spOdd K) := by
  refine F.ok scO (fun vs H Q E h => ?_) (fun cdv A outer s H vs Q E hr h => ?_)
  · obtain ⟨p, rfl, _⟩ := h
    rfl
  · obtain ⟨p, rfl, hW, k⟩ := h
    refine ⟨_, pss_cons (ps_set (i := 1) scO.nd rfl (Or.inl rfl) (pe_lst (pa_cons pe_non (pa_cons pe_bl (pa_cons pe_bl (pa_cons pe_int (pa_cons pe_int (pa_cons (pe_un un_neg pe_int) (pa_cons pe_int (pa_cons (pe_op op_pow pe_int pe_int)
        (pa_cons pe_str (pa_cons pe_str (pa_cons pe_str (pa_cons pe_str (pa_cons pe_str (pa_cons pe_str (pa_cons pe_str (pa_cons pe_str (pa_cons pe_str pa_nil)))))))))))))))))))
      (pss_cons (ps_set (i := 1) scO.nd rfl (Or.inl rfl) (pe_op op_cat (pv 1) (pe_lst (pa_cons pe_str (pa_cons (pe_tup pa_nil) (pa_cons (pe_tup (pa_cons pe_non pa_nil)) (pa_cons (pe_tup (pa_cons pe_str pa_nil)) (pa_cons (pe_lst (pa_cons pe_str pa_nil))
        (pa_cons (pe_lst pa_nil) (pa_cons pe_dnewK (pa_cons (pe_disp (pps_cons pe_str pe_int pps_nil) (by rfl) (by rfl) (fun z => by cases z) (by decide)) (pa_cons (pe_tup (pa_cons pe_str (pa_cons pe_str (pa_cons pe_str (pa_cons pe_str pa_nil)))))
        (pa_cons (pe_tup (pa_cons (pe_tup pa_nil) pa_nil)) (pa_cons (pe_tup (pa_cons (pe_lst pa_nil) pa_nil)) (pa_cons pe_str pa_nil)))))))))))))))
      (pss_one (ps_ret (pe_ix ix_list (pv 1) (pe_call GD hr rfl gD kD bD .nil pass0 (pa_cons (pv 0) (pa_cons (pe_callB call_len_seq (by rfl) hL PySem.boot_len (pa_cons (pv 1) pa_nil)) pa_nil))) (fun _ _ => rfl))))), ?_⟩
    refine ⟨1, rfl, _, _, rfl, rfl, ⟨by decide, by decide, by decide⟩, (by show 17 ≤ sizeLine; decide), fun l1 h1 => ?_⟩
    refine ⟨_, rfl, (by show 0 ≤ sizeLine; decide), fun t0 h2 => ?_⟩
    refine ⟨(by show 1 ≤ sizeLine; decide), fun t1 h3 => ?_⟩
    refine ⟨(by show 1 ≤ sizeLine; decide), fun t2 h4 => ?_⟩
    refine ⟨(by show 1 ≤ sizeLine; decide), fun l2 h5 => ?_⟩
    refine ⟨(by show 0 ≤ sizeLine; decide), fun l3 h6 => ?_⟩
    refine fun d0 h7 => ?_
    refine fun d1 h8 => ?_
    refine ⟨upd_same, [(Sum.inr "a", .int 1)], rfl, by decide, ?_⟩
    rw [upd_upd]
    refine ⟨(by show 4 ≤ sizeLine; decide), fun t3 h9 => ?_⟩
    refine ⟨(by show 0 ≤ sizeLine; decide), fun t4 h10 => ?_⟩
    refine ⟨(by show 1 ≤ sizeLine; decide), fun t5 h11 => ?_⟩
    refine ⟨(by show 0 ≤ sizeLine; decide), fun l4 h12 => ?_⟩
    refine ⟨(by show 1 ≤ sizeLine; decide), fun t6 h13 => ?_⟩
    refine ⟨(by show 12 ≤ sizeLine; decide), fun l5 h14 => ?_⟩
    refine ⟨l1, l5, _, _, rfl, rfl, (keep1 (keep1 (keep1 (keep1 (keep1 (keep1 (keep1 (keep1 (keep1 (keep1 (keep1 (keep1 (keep1 upd_same h2) h3) h4) h5) h6) h7) h8) h9) h10) h11) h12) h13) h14), upd_same, (by show 29 ≤ sizeLine; decide), fun l6 h15 => ?_⟩
    obtain ⟨w0, w1, w2, a0, a1, hp⟩ := hW
    refine ⟨_, rfl, _, rfl, _, rfl, l6, _, rfl, .inl (SqL.of upd_same), p, _, rfl, ⟨w0, w1, w2, a0, a1, (keep1 (keep1 (keep1 (keep1 (keep1 (keep1 (keep1 (keep1 (keep1 (keep1 (keep1 (keep1 (keep1 (keep1 (keep1 hp h1) h2) h3) h4) h5) h6) h7) h8) h9) h10) h11) h12) h13) h14) h15)⟩, (by show (0 : Int) < 29; decide), (by show (29 : Int) < 1073741824; decide), ?_⟩
    exact odd_end (((((((((((((((same_new h1).trans (same_new h2)).trans (same_new h3)).trans (same_new h4)).trans (same_new h5)).trans (same_new h6)).trans (same_new h7)).trans (same_new h8)).trans (same_new h9)).trans (same_new h10)).trans (same_new h11)).trans (same_new h12)).trans (same_new h13)).trans (same_new h14)).trans (same_new h15)) ⟨w0, w1, w2, a0, a1, (keep1 (keep1 (keep1 (keep1 (keep1 (keep1 (keep1 (keep1 (keep1 (keep1 (keep1 (keep1 (keep1 (keep1 (keep1 hp h1) h2) h3) h4) h5) h6) h7) h8) h9) h10) h11) h12) h13) h14) h15)⟩ upd_same
      (keep1 (keep1 (keep1 (keep1 (keep1 (keep1 (keep1 (keep1 (keep1 (keep1 (keep1 (keep1 (keep1 upd_same h3) h4) h5) h6) h7) h8) h9) h10) h11) h12) h13) h14) h15)
      (keep1 (keep1 (keep1 (keep1 (keep1 (keep1 (keep1 (keep1 (keep1 (keep1 (keep1 (keep1 upd_same h4) h5) h6) h7) h8) h9) h10) h11) h12) h13) h14) h15)
      (keep1 (keep1 (keep1 (keep1 (keep1 (keep1 (keep1 (keep1 (keep1 (keep1 (keep1 upd_same h5) h6) h7) h8) h9) h10) h11) h12) h13) h14) h15)
      (keep1 (keep1 (keep1 (keep1 (keep1 (keep1 (keep1 (keep1 (keep1 (keep1 upd_same h6) h7) h8) h9) h10) h11) h12) h13) h14) h15)
      (keep1 (keep1 (keep1 (keep1 (keep1 (keep1 (keep1 (keep1 (keep1 upd_same h7) h8) h9) h10) h11) h12) h13) h14) h15)
      (keep1 (keep1 (keep1 (keep1 (keep1 (keep1 (keep1 (keep1 upd_same h8) h9) h10) h11) h12) h13) h14) h15)
      (keep1 (keep1 (keep1 (keep1 (keep1 (keep1 (keep1 upd_same h9) h10) h11) h12) h13) h14) h15)
      (keep1 (keep1 (keep1 (keep1 (keep1 (keep1 upd_same h10) h11) h12) h13) h14) h15)
      (keep1 (keep1 (keep1 (keep1 (keep1 upd_same h11) h12) h13) h14) h15)
      (keep1 (keep1 (keep1 (keep1 upd_same h12) h13) h14) h15)
      (keep1 (keep1 (keep1 upd_same h13) h14) h15)
      (keep1 (keep1 upd_same h14) h15) k
end
end My
set_option pp.maxSteps 1500
namespace My
open PySem PySem.Spec PyProof.Rows L2 PySem.GX L2H LamX
/-! what the law's pairs say of the first good row; values that are shown; the rule of a sketch -/
def gk (p : Parts) (x : List Key × Row) : Bool := match x.1 with
  | [Sum.inr a, _] => decide (a ∈ p.gs)
  | _ => false
theorem BesOk.key {p : Parts} {L : List (List Key × Row)} (h : BesOk p L) {x : List Key × Row} (hx : x ∈ L) : x.1 = k2 (walkL p (firstL p) x.2) (walkL p (firstL p) x.2) := by
  rw [(h.bf.ok x hx).1, run_pair]
theorem BesOk.good {p : Parts} {L : List (List Key × Row)} (h : BesOk p L) {x : List Key × Row} (hx : x ∈ L) : gk p x = goodOf p x.2 := by
  unfold gk
  rw [h.key hx]
  rfl
theorem BesOk.none {p : Parts} {L : List (List Key × Row)} (h : BesOk p L) (e : L.filter (gk p) = []) : IsFirst p.sg.cps.toList (fun r => goodOf p r = true) none := fun r hr hw => by
  obtain ⟨x, hx, ex, _⟩ := h.bf.all (Nat.le_refl _) r hr
  have : x.1 = k2 (walkL p (firstL p) r) (walkL p (firstL p) r) := by rw [ex, run_pair]
  have g : gk p x = true := by
    unfold gk
    rw [this]
    exact hw
  have : x ∈ L.filter (gk p) := List.mem_filter.mpr ⟨hx, g⟩
  rw [e] at this
  cases this
theorem BesOk.some {p : Parts} {L : List (List Key × Row)} (h : BesOk p L) {m : Row} (hm : m ∈ (L.filter (gk p)).map (·.2)) (hl : ∀ y ∈ (L.filter (gk p)).map (·.2), sle m y) : IsFirst p.sg.cps.toList (fun r => goodOf p r = true) (some m) := by
  obtain ⟨x, hx, rfl⟩ := List.mem_map.mp hm
  obtain ⟨hx, g⟩ := List.mem_filter.mp hx
  refine ⟨(h.bf.ok x hx).2, by rw [← h.good hx]; exact g, fun r' hr hw => ?_⟩
  obtain ⟨z, hz, ez, lz⟩ := h.bf.all (Nat.le_refl _) r' hr
  have : z.1 = k2 (walkL p (firstL p) r') (walkL p (firstL p) r') := by rw [ez, run_pair]
  have gz : gk p z = true := by
    unfold gk
    rw [this]
    exact hw
  exact sle_trans (hl _ (List.mem_map.mpr ⟨z, List.mem_filter.mpr ⟨hz, gz⟩, rfl⟩)) lz
/-- what repr([w, d]) is asked for -/
structure Gdw (w : Str) (d : PyData) : Prop where
  sh : PyData.showableAll [.str w, d] = true
  ln : (PyData.list [.str w, d]).shown.length ≤ sizeLine
  dp : (PyData.list [.str w, d]).depth ≤ 60
  ok : PyData.strOk (PyData.list [.str w, d]).shown = true
def menu2 : List PyData := menu ++ [.int 1001, .int (-1), .bool true, .str "3"]
theorem menu2_gd : ∀ d ∈ menu2, Gdw "number" d := by
  have h : ∀ d ∈ menu2, PyData.showableAll [.str "number", d] = true ∧ (PyData.list [.str "number", d]).shown.length ≤ sizeLine ∧ (PyData.list [.str "number", d]).depth ≤ 60 ∧ PyData.strOk (PyData.list [.str "number", d]).shown = true := by decide +kernel
  exact fun d hd => let ⟨a, b, c, e⟩ := h d hd; ⟨a, b, c, e⟩
theorem menu_gdr : ∀ d ∈ menu, Gdw "rule" d := by
  have h : ∀ d ∈ menu, PyData.showableAll [.str "rule", d] = true ∧ (PyData.list [.str "rule", d]).shown.length ≤ sizeLine ∧ (PyData.list [.str "rule", d]).depth ≤ 60 ∧ PyData.strOk (PyData.list [.str "rule", d]).shown = true := by decide +kernel
  exact fun d hd => let ⟨a, b, c, e⟩ := h d hd; ⟨a, b, c, e⟩
theorem rule_text (t : Str) : listText [reprText "rule", t] = ("['rule', " : Str) ++ t ++ "]" := by
  have e : textFrom 0 "[" [reprText "rule", t] = ("['rule', " : Str) ++ t := by
    show (("[" : Str) ++ ("" : Str) ++ reprText "rule") ++ (", " : Str) ++ t = _
    have : (("[" : Str) ++ ("" : Str) ++ reprText "rule") ++ (", " : Str) = "['rule', " := by decide +kernel
    rw [this]
  unfold listText
  rw [e]
theorem gdr_str {r : Str} (h : Low r) (hl : r.length ≤ 1000000) : Gdw "rule" (.str r) := by
  have hs := repr_short h
  have e : (PyData.list [.str "rule", .str r]).shown = ("['rule', " : Str) ++ reprText r ++ "]" := by
    rw [← rule_text]
    simp only [PyData.shown, PyData.shownAll]
  refine ⟨?_, ?_, ?_, ?_⟩
  · simp only [PyData.showableAll, PyData.showable, Bool.and_self]
  · rw [e, len_app, len_app]
    have a : ("['rule', " : Str).length = 9 := by decide +kernel
    have b : ("]" : Str).length = 1 := by decide +kernel
    rw [a, b, sizeLine_eq]
    omega
  · simp only [PyData.depth, PyData.depthAll]
    omega
  · rw [e]
    exact ok_low (Low.app (Low.app (by unfold Low; decide +kernel) (repr_low h)) (by unfold Low; decide +kernel))
def spRuleL (CU : Addr) : Sp := fun vs H Q _ => ∃ (q : Addr) (x : Str) (ws fs : List Str) (kvs : List (List Key × V)), vs = [.ref q] ∧ SkAt H q x ws fs kvs ∧ Short x ws fs kvs ∧ Fine x ws fs kvs ∧
  ∀ (a : Addr) (H' : Hp), Same H H' → RuleAt H' CU a (textL x ws fs kvs) ⟨x, ws, fs, rsL x ws kvs⟩ → Q (.ref a) H'
section
variable {P : Program} {w : World} {K : PySem.W.Frag} {mg : Str → Option Value} {base : Heap} {CU : Addr}
theorem scRuleL : FnScope ["_law_sketch_here"] ["_law_sketch_here"] (defScope sRuleL) := ⟨rfl, rfl, rfl, by decide +kernel, rfl, by decide +kernel, by decide +kernel⟩
theorem ok_ruleL {f fI : Addr} {fd fdI : FuncData} (F : Fun K "_law_rule" "_law_rule" sRuleL f fd) (tx : Hv P w K mg base 1 "_law_text" ["_law_sketch_here"] spText) (MI : Mk K CU fI) (GI : FnOk P w K mg base CX0 5 fI fdI ["self", "text"] (spInit CU)) (bI : Binds K fdI ["self", "text"] []) (gI : mg "Rule" = some (.ref CU)) :
    FnOk P w K mg base CX0 7 f fd ["_law_sketch_here"] (spRuleL CU) := by
  refine F.ok scRuleL (fun vs H Q E h => ?_) (fun cdv A outer s H vs Q E hr h => ?_)
  · obtain ⟨q, x, ws, fs, kvs, rfl, _⟩ := h
    rfl
  · obtain ⟨q, x, ws, fs, kvs, rfl, hS, sh, fine, k⟩ := h
    have hr1 := hr.mono (by decide : 1 ≤ 6)
    refine ⟨_, pss_one (ps_ret (pe_make MI GI hr rfl gI bI .nil pass0 (pa_cons (pe_cl tx hr1 rfl pass0 (pa_cons (pv 0) pa_nil)) pa_nil))), ?_⟩
    refine ⟨_, rfl, q, x, ws, fs, kvs, rfl, hS, sh, fun H2 s2 => fun a dx na ndx nax => ?_⟩
    have s3 : Same H2 (upd (upd H2 dx (.own a)) a (.ins CU dx [])) := fun b o e => by rw [upd_ne (ne_of_none e na), upd_ne (ne_of_none e ndx)]; exact e
    refine ⟨a, dx, _, _, rfl, upd_same, text_small sh, text_ok fine, fine_parse fine, fun H3 k3 hR => ⟨rfl, ?_⟩⟩
    exact k a H3 (fun b o e => by have e2 := s2 _ _ e; exact k3 b o (ne_of_none e2 na) (s3 _ _ e2)) hR
theorem Fine.led {x : Str} {ws fs : List Str} {kvs : List (List Key × V)} (h : Fine x ws fs kvs) : ∀ t ∈ ws, ∀ c ∈ x.cps.toList, valV kvs (kT t c) = some (.str (ledL ⟨x, ws, fs, rsL x ws kvs⟩ t c)) := fun t ht c hc => by
  obtain ⟨y, hy, e⟩ := h.gl t ht c hc
  have e1 : ledL ⟨x, ws, fs, rsL x ws kvs⟩ t c = gf kvs t c := gf_is (fine_val h ht hc)
  rw [e, e1, gf_is e]
theorem walk_eqK {x : Str} {ws fs : List Str} {kvs : List (List Key × V)} (h : Fine x ws fs kvs) : ∀ (cs : List Nat) (t : Str), t ∈ ws → (∀ c ∈ cs, c ∈ x.cps.toList) → walkL ⟨x, ws, fs, rsL x ws kvs⟩ t cs = wkL kvs t cs
  | [], _, _, _ => rfl
  | c :: cs, t, ht, hc => by
    have hcx := hc c (by simp)
    obtain ⟨y, hy, e⟩ := h.gl t ht c hcx
    have e1 : ledL ⟨x, ws, fs, rsL x ws kvs⟩ t c = gf kvs t c := gf_is (fine_val h ht hcx)
    show walkL _ (ledL ⟨x, ws, fs, rsL x ws kvs⟩ t c) cs = wkL kvs (gf kvs t c) cs
    rw [e1]
    refine walk_eqK h cs _ ?_ fun d hd => hc d (by simp [hd])
    rw [gf_is e]
    exact hy
end
end My
namespace My
open PySem PySem.Spec PyProof.Rows L2 PySem.GX L2H LamX
/-! the law's count, which knows the moods that come alone -/
theorem count_nd {t : Str} : ∀ {L : List Str}, L.Nodup → (L.countP fun a => decide (a = t)) = if t ∈ L then 1 else 0
  | [], _ => rfl
  | a :: L, nd => by
    rw [List.nodup_cons] at nd
    rw [List.countP_cons, count_nd nd.2]
    by_cases e : a = t
    · subst e
      rw [show (if decide (a = a) = true then 1 else 0) = 1 from if_pos (decide_eq_true rfl), if_neg nd.1, if_pos List.mem_cons_self]
    · rw [show (if decide (a = t) = true then 1 else 0) = 0 from if_neg (by simp [e]), Nat.add_zero]
      have i1 : (t ∈ a :: L) ↔ t ∈ L := by
        rw [List.mem_cons]
        exact ⟨fun h => h.elim (fun z => absurd z.symm e) id, .inr⟩
      by_cases m : t ∈ L
      · rw [if_pos m, if_pos (i1.mpr m)]
      · rw [if_neg m, if_neg fun z => m (i1.mp z)]
theorem sum_sub {g : Str → Nat} {ms L : List Str} (nd : ms.Nodup) (nl : L.Nodup) (sub : ∀ t ∈ L, t ∈ ms) (z : ∀ t, t ∈ ms → t ∉ L → g t = 0) : (L.map g).sum = (ms.map g).sum := by
  have h := sum_group (fun a : Str => a) g nd L sub
  rw [show (L.map g) = L.map fun a => g a from rfl, h]
  congr 1
  refine List.map_congr_left fun t ht => ?_
  rw [count_nd nl]
  by_cases m : t ∈ L
  · rw [if_pos m, Nat.one_mul]
  · rw [if_neg m, Nat.zero_mul, z t ht m]
/-- the moods known, and what is counted of them -/
structure CntK (p : Parts) (n : Nat) (L : List Str) : Prop where
  nd : L.Nodup
  sub : ∀ t ∈ L, t ∈ p.ms
  out : ∀ t, t ∉ L → cntC p n t = 0
theorem CntK.total {p : Parts} {n : Nat} {L : List Str} (ok : PartsOk p) (h : CntK p n L) : (L.map fun t => if t ∈ p.gs then cntC p n t else 0).sum = manyN p n := by
  have n1 := moods_nd ok.mds
  have hs := ok_subG ok.gds
  rw [sum_sub n1 h.nd h.sub fun t _ m => by rw [h.out t m]; split <;> rfl]
  unfold manyN
  have e := sum_sub (g := fun t => if t ∈ p.gs then cntC p n t else 0) n1 (n1.sublist hs) (fun t ht => hs.subset ht) fun t _ m => if_neg m
  rw [← e]
  congr 1
  exact List.map_congr_left fun t ht => if_pos ht
/-- one more sign -/
theorem CntK.step {p : Parts} {n : Nat} {L : List Str} (ok : PartsOk p) (h : CntK p n L) (x : Str) : ((L.flatMap fun t => p.sg.cps.toList.map fun c => (t, c)).foldl (addC p (cntC p n)) fun _ => 0) x = cntC p (n + 1) x := by
  show _ = stepC p (cntC p n) x
  rw [step_sum, fold_add, Nat.zero_add]
  have go : ∀ l : List Str, ((l.flatMap fun t => p.sg.cps.toList.map fun c => (t, c)).map fun tc : Str × Nat => if x = ledL p tc.1 tc.2 then cntC p n tc.1 else 0).sum = (l.map fun t => (p.sg.cps.toList.map fun c => if x = ledL p t c then cntC p n t else 0).sum).sum := fun l => by
    induction l with
    | nil => rfl
    | cons t r ih => rw [List.flatMap_cons, List.map_append, List.sum_append, ih, List.map_cons, List.sum_cons, List.map_map]; rfl
  unfold prsL
  rw [go, go]
  refine sum_sub (moods_nd ok.mds) h.nd h.sub fun t _ m => ?_
  rw [h.out t m]
  generalize p.sg.cps.toList = cs
  induction cs with
  | nil => rfl
  | cons c r ih => rw [List.map_cons, List.sum_cons, ih]; split <;> rfl
end My
set_option pp.maxSteps 1500
namespace My
open PySem PySem.Spec PyProof.Rows L2 PySem.GX L2H LamX
/-! _law_counted -/
theorem nodup_lenK {α : Type} [DecidableEq α] : ∀ {l m : List α}, l.Nodup → (∀ x ∈ l, x ∈ m) → l.length ≤ m.length
  | [], _, _, _ => Nat.zero_le _
  | a :: t, m, nd, h => by
    have ha := h a (by simp)
    have nd' := List.nodup_cons.mp nd
    have i := nodup_lenK (m := m.erase a) nd'.2 (fun x hx => (List.mem_erase_of_ne (by rintro rfl; exact nd'.1 hx)).mpr (h x (by simp [hx])))
    rw [List.length_erase_of_mem ha] at i
    have : 0 < m.length := List.length_pos_of_mem ha
    rw [List.length_cons]
    omega
theorem cnt_none {c : Str → Nat} {m : Str} : ∀ {L : List Str}, m ∉ L → valV (cntD L c) (Sum.inr m) = none
  | [], _ => rfl
  | a :: t, h => by
    show valV (((Sum.inr a : Key), V.int ((c a : Nat) : Int)) :: cntD t c) _ = _
    rw [valV_neg fun z => h (by rw [Sum.inr.inj z]; exact List.mem_cons_self)]
    exact cnt_none fun z => h (List.mem_cons_of_mem _ z)
theorem cnt_new {c : Str → Nat} {m : Str} {v : Nat} {L : List Str} (h : m ∉ L) : putK (cntD L c) (Sum.inr m) (.int (v : Int)) = cntD (L ++ [m]) fun x => if x = m then v else c x := by
  rw [putK_new _ (cnt_none h)]
  show _ = List.map _ (L ++ [m])
  rw [List.map_append]
  congr 1
  · refine List.map_congr_left fun x hx => ?_
    show _ = ((Sum.inr x : Key), V.int (((if x = m then v else c x : Nat)) : Int))
    rw [if_neg fun z : x = m => h (by rw [← z]; exact hx)]
  · show [((Sum.inr m : Key), V.int (v : Int))] = [((Sum.inr m : Key), V.int (((if m = m then v else c m : Nat)) : Int))]
    rw [if_pos rfl]
/-- what stands of the fresh dict -/
structure FrK (p : Parts) (L : List Str) (c : Str → Nat) : Prop where
  nd : L.Nodup
  sub : ∀ t ∈ L, t ∈ p.ms
  out : ∀ t, t ∉ L → c t = 0
def spCountedK : Sp := fun vs H Q _ => ∃ (q : Addr) (p : Parts) (kvs : List (List Key × V)) (n : Nat), vs = [.ref q, .int (n : Int)] ∧ SkAt H q p.sg p.ms p.gs kvs ∧ PartsOk p ∧ (∀ t ∈ p.ms, ∀ c ∈ p.sg.cps.toList, valV kvs (kT t c) = some (.str (ledL p t c))) ∧ n ≤ 1000 ∧ ∀ H', Same H H' → Q (.int ((manyN p n : Nat) : Int)) H'
section
variable {P : Program} {w : World} {K : PySem.W.Frag} {mg : Str → Option Value} {base : Heap}
abbrev nCountedK : List Str := ["_law_sketch_here", "_law_measure", "_law_counts", "_law_turn", "_law_fresh", "_law_temper", "_law_glyph", "_law_aim"]
theorem scCountedK : FnScope nCountedK ["_law_sketch_here", "_law_measure"] (defScope sCountedK) := ⟨rfl, rfl, rfl, by decide +kernel, rfl, by decide +kernel, by decide +kernel⟩
theorem ok_countedK {f : Addr} {fd : FuncData} (F : Fun K "_law_counted" "_law_counted" sCountedK f fd) (hRa : mg "range" = none) (hS : mg "sum" = none) : FnOk P w K mg base CX0 1 f fd ["_law_sketch_here", "_law_measure"] spCountedK := by
  refine F.ok scCountedK (fun vs H Q E h => ?_) (fun cdv A outer s H vs Q E hr h => ?_)
  · obtain ⟨q, p, kvs, n, rfl, _⟩ := h
    rfl
  · obtain ⟨q, p, kvs, n, rfl, ⟨lw, lf, g, eq, ew, ef, eg⟩, ok, hled, hn, k⟩ := h
    have hu := hu_of hr
    refine ⟨_, pss_cons (ps_set (i := 2) scCountedK.nd rfl (Or.inr rfl) (pe_disp (pps_cons (pe_ix ix_list (pe_ix ix_list (pv 0) pe_int (fun _ _ => rfl)) pe_int (fun _ _ => rfl)) pe_int pps_nil) (by rfl) (by rfl) (fun z => by cases z) (by decide)))
      (pss_cons (ps_for PassesOwn.never rfl (pi_range1 rfl hRa (pa_cons (pv 1) pa_nil)) (pg_name (i := 3) scCountedK.nd rfl (Or.inl rfl))
        (pss_cons (ps_set (i := 4) scCountedK.nd rfl (Or.inl rfl) pe_dnewK)
        (pss_cons (ps_lock (ps_for PassesOwn.never rfl (pi_keys (pv 2)) (pg_name (i := 5) scCountedK.nd rfl (Or.inl rfl))
          (pss_one (ps_for PassesOwn.never rfl (pi_str (pe_ix ix_list (pv 0) pe_int (fun _ _ => rfl))) (pg_name (i := 6) scCountedK.nd rfl (Or.inl rfl))
            (pss_cons (ps_set (i := 7) scCountedK.nd rfl (Or.inl rfl) (pe_dget hu (pe_ix ix_list (pv 0) pe_int (fun _ _ => rfl)) (pe_tup (pa_cons (pv 5) (pa_cons (pv 6) pa_nil))) (fun _ _ => rfl)))
            (pss_one (ps_dput hu (pv 4) (pv 7) (pe_op op_add (pe_dget2 hu (pv 4) (pv 7) pe_int ⟨rfl, rfl, rfl, rfl⟩) (pe_dget hu (pv 2) (pv 5) (fun _ _ => rfl))) rfl)))))))
        (pss_one (ps_set (i := 2) scCountedK.nd rfl (Or.inr rfl) (pv 4))))))
      (pss_one (ps_ret (pe_lock (pe_callB (cr_sumK (K := K) rfl rfl) (by rfl) hS (by decide +kernel) (pa_cons (pe_lc (own := [("_law_temper", 5)]) (g := gName 5) rfl scCountedK.nd (pi_keys (pv 2)) (blkOk_by (N := nCountedK) (sc := defScope sCountedK) (by decide +kernel)) (fun _ _ _ _ _ => pg_name (i := 5) scCountedK.nd rfl (Or.inl rfl))
          (fun _ _ _ _ _ => pts_one (pt_cmpR (op_in_seqK (K := K) rfl) (pv 5) (pe_ix (ix_listK (K := K) rfl) (pv 0) pe_int (fun _ _ => rfl)) (by rfl))) (fun _ _ _ _ _ => pe_dget hu (pv 2) (pv 5) (fun _ _ => rfl))) pa_nil)))))), ?_⟩
    obtain ⟨ms', emf⟩ : ∃ ms', p.ms = firstL p :: ms' := by
      have := ok.mds
      unfold areMoodsL at this
      simp only [Bool.and_eq_true, decide_eq_true_eq] at this
      unfold firstL
      cases hms : p.ms with
      | nil => rw [hms] at this; exact absurd this.1.1.1 (by simp)
      | cons m r => exact ⟨r, rfl⟩
    have m300 : p.ms.length ≤ 300 := by
      have := ok.mds
      unfold areMoodsL at this
      simp only [Bool.and_eq_true, decide_eq_true_eq] at this
      omega
    have hfm : firstL p ∈ p.ms := by rw [emf]; exact List.mem_cons_self ..
    have hf0 : (p.ms.map V.str)[0]? = some (.str (firstL p)) := by rw [emf]; rfl
    have few : ∀ (L : List Str), L.Nodup → (∀ t ∈ L, t ∈ p.ms) → L.length ≤ 300 := fun L nd sub => Nat.le_trans (nodup_lenK nd sub) m300
    refine fun d hd => ⟨_, rfl, q, _, _, V.ref lw, rfl, rfl, SqL.of (keep1 eq hd), atI_nat (j := 1) rfl, lw, _, _, V.str (firstL p), rfl, rfl, SqL.of (keep1 ew hd), atI_nat (j := 0) hf0, upd_same, [(Sum.inr (firstL p), .int 1)], rfl, by show 1 ≤ 15; decide, ?_⟩
    have ec0 : cntD [firstL p] (cntC p 0) = [((Sum.inr (firstL p) : Key), V.int 1)] := by
      show [((Sum.inr (firstL p) : Key), V.int (((if firstL p = firstL p then 1 else 0 : Nat)) : Int))] = _
      rw [if_pos rfl]
      rfl
    have eH : upd (upd H d (.dK [])) d (.dK (mergeK [] [((Sum.inr (firstL p) : Key), V.int 1)])) = upd H d (.dK (cntD [firstL p] (cntC p 0))) := by
      rw [upd_upd, ec0]
      rfl
    rw [eH]
    have s1 : Same H (upd H d (.dK (cntD [firstL p] (cntC p 0)))) := same_new hd
    have ed1 := upd_same (a := d) (H := H) (o := .dK (cntD [firstL p] (cntC p 0)))
    generalize upd H d (.dK (cntD [firstL p] (cntC p 0))) = H1 at s1 ed1 ⊢
    clear eH hd
    have k0 : CntK p 0 [firstL p] := ⟨by simp, fun t ht => by rw [List.mem_singleton.mp ht]; exact hfm, fun t ht => if_neg fun z => ht (by rw [z]; exact List.mem_singleton.mpr rfl)⟩
    refine ⟨_, rfl, (n : Int), rfl, by omega, by omega, ?_⟩
    rw [Int.toNat_natCast]
    refine for_range (n := n) (fun i σ H' => ∃ (d : Addr) (L : List Str) (v3 v4 v5 v6 v7 : Option V), σ = [some (.ref q), some (.int (n : Int)), some (.ref d), v3, v4, v5, v6, v7] ∧ Same H H' ∧ H' d = some (.dK (cntD L (cntC p i))) ∧ CntK p i L) ⟨d, _, _, _, _, _, _, rfl, s1, ed1, k0⟩ (fun i σ H2 hi h => ?_) (fun σ H2 h => ?_)
    · obtain ⟨d, L, v3, v4, v5, v6, v7, rfl, s2, ed2, kL⟩ := h
      refine fun l hl => ?_
      have s3 := s2.trans (same_new (o := .dK []) hl)
      have ed3 := keep1 (o := .dK []) ed2 hl
      have el3 := upd_same (a := l) (H := H2) (o := .dK [])
      have nld : l ≠ d := (ne_of_none ed2 hl).symm
      have nlH : ∀ b o, H b = some o → b ≠ l := fun b o e => ne_of_none (s2 _ _ e) hl
      show tSeq _ _ _ _ _
      generalize upd H2 l (.dK []) = H3 at s3 ed3 el3 ⊢
      clear hl s2 ed2
      refine ⟨d, _, ed3, trivial, fun od => ?_⟩
      have lD : upd H3 d (.frz od (.dK (cntD L (cntC p i)))) d = some (.frz od (.dK (cntD L (cntC p i)))) := upd_same
      have off : ∀ b o, b ≠ d → H3 b = some o → upd H3 d (.frz od (.dK (cntD L (cntC p i)))) b = some o := fun b o n e => by rw [upd_ne n]; exact e
      have el4 := off _ _ nld el3
      have fin3 : ∀ b o, H b = some o → b ≠ l → b ≠ d → upd H3 d (.frz od (.dK (cntD L (cntC p i)))) b = some o := fun b o e _ n2 => off _ _ n2 (s3 _ _ e)
      have nq : q ≠ d := ne_of (s3 _ _ eq) ed3 (by intro z; cases z)
      have ng : g ≠ d := ne_of (s3 _ _ eg) ed3 (by intro z; cases z)
      have eq4 := off _ _ nq (s3 _ _ eq)
      have eg4 := off _ _ ng (s3 _ _ eg)
      have hdk : ∀ b o, H b = some o → b = d → H3 d = some o := fun b o e z => by rw [← z]; exact s3 _ _ e
      generalize upd H3 d (.frz od (.dK (cntD L (cntC p i)))) = HF at lD el4 eq4 eg4 off fin3 ⊢
      refine ⟨_, rfl, d, od, rfl, .inl ⟨_, lD, ?_⟩⟩
      refine for_it walk_keys (fun j σ H' => ∃ (L2 : List Str) (v5 v6 v7 : Option V), σ = [some (.ref q), some (.int (n : Int)), some (.ref d), some (.int (0 + (i : Int))), some (.ref l), v5, v6, v7] ∧ (∀ b o, b ≠ l → HF b = some o → H' b = some o) ∧ H' l = some (.dK (cntD L2 (((L.take j).flatMap fun t => p.sg.cps.toList.map fun c => (t, c)).foldl (addC p (cntC p i)) fun _ => 0))) ∧ FrK p L2 (((L.take j).flatMap fun t => p.sg.cps.toList.map fun c => (t, c)).foldl (addC p (cntC p i)) fun _ => 0))
        ⟨[], _, _, _, rfl, fun _ _ _ e => e, el4, ⟨List.nodup_nil, (fun t h => by cases h), fun _ _ => rfl⟩⟩ (fun j σ H' _ h => ?_) (fun j y σ H' H'' hj h hy => ?_) (fun σ H' h => ?_)
      · obtain ⟨_, _, _, _, _, st, _⟩ := h
        exact st _ _ nld.symm lD
      · obtain ⟨rfl, key, v, hq, rfl⟩ := hy
        obtain ⟨L2, v5, v6, v7, rfl, st, eL, fr⟩ := h
        rw [List.length_map] at hj
        have ht0 : L[j]? = some L[j] := List.getElem?_eq_getElem hj
        have htk : L.take (j + 1) = L.take j ++ [L[j]] := by rw [List.take_add_one, ht0]; rfl
        have htm : L[j] ∈ L := List.getElem_mem hj
        rw [htk, List.flatMap_append, List.foldl_append]
        have hkv : (((Sum.inr L[j] : Key), V.int ((cntC p i L[j] : Nat) : Int)) : Key × V) = (key, v) := by
          rw [List.getElem?_map, ht0] at hq
          exact Option.some.inj hq
        injection hkv with hk hv
        subst hk hv
        generalize L[j] = t at htm
        have htp := kL.sub t htm
        show gName 5 _ _ _ _
        rw [List.flatMap_cons, List.flatMap_nil, List.append_nil]
        generalize ((L.take j).flatMap fun t => p.sg.cps.toList.map fun c => (t, c)).foldl (addC p (cntC p i)) (fun _ => 0) = acc at eL fr ⊢
        refine ⟨_, rfl, q, _, _, V.str p.sg, rfl, rfl, SqL.of (st _ _ (fun z => by rw [z] at eq4; rw [el4] at eq4; cases eq4) eq4), atI_nat (j := 0) rfl, p.sg, rfl, ?_⟩
        refine for_it walk_str (fun m σ H' => ∃ (L2 : List Str) (v6 v7 : Option V), σ = [some (.ref q), some (.int (n : Int)), some (.ref d), some (.int (0 + (i : Int))), some (.ref l), some (.str t), v6, v7] ∧ (∀ b o, b ≠ l → HF b = some o → H' b = some o) ∧ H' l = some (.dK (cntD L2 (((p.sg.cps.toList.take m).map fun c => (t, c)).foldl (addC p (cntC p i)) acc))) ∧ FrK p L2 (((p.sg.cps.toList.take m).map fun c => (t, c)).foldl (addC p (cntC p i)) acc))
          ⟨L2, _, _, rfl, st, eL, fr⟩ (fun _ _ _ _ _ => trivial) (fun m y σ H6 H7 hm h hy => ?_) (fun σ H6 h => ?_)
        · obtain ⟨rfl, c, hc, rfl⟩ := hy
          obtain ⟨L2, v6, v7, rfl, st, eL, fr⟩ := h
          rw [← Array.getElem?_toList] at hc
          have hcx := List.mem_of_getElem? hc
          rw [List.take_add_one, hc, List.map_append, List.foldl_append]
          generalize ((p.sg.cps.toList.take m).map fun c => (t, c)).foldl (addC p (cntC p i)) acc = ac at eL fr ⊢
          obtain ⟨hg, _⟩ := ok.goal htp hcx
          have hl3 := hled t htp c hcx
          generalize hgl : ledL p t c = aim at hg hl3
          have nql : q ≠ l := fun z => by rw [z] at eq4; rw [el4] at eq4; cases eq4
          have ngl : g ≠ l := fun z => by rw [z] at eg4; rw [el4] at eg4; cases eg4
          refine ⟨_, rfl, q, _, _, V.ref g, rfl, rfl, SqL.of (st _ _ nql eq4), atI_nat (j := 3) rfl, _, rfl, _, rfl, by show 2 ≤ sizeLine; decide, fun ta hta => ⟨g, .str aim, rfl, ?_, ?_⟩⟩
          · have := DGet.t (k := kT t c) (keep1 (st _ _ ngl eg4) hta) (upd_same (o := .tup ((kT t c).map kV)))
            rw [hl3] at this
            exact this
          have eL2 := keep1 (o := .tup [.str t, .str (sg c)]) eL hta
          have lD2 := keep1 (o := .tup [.str t, .str (sg c)]) (st _ _ nld.symm lD) hta
          have st2 : ∀ b o, b ≠ l → HF b = some o → upd H7 ta (.tup [.str t, .str (sg c)]) b = some o := fun b o n1 e => keep1 (st b o n1 e) hta
          have lz := few L2 fr.nd fr.sub
          obtain ⟨o, ho, hv⟩ : ∃ o, valV (cntD L2 ac) (Sum.inr aim) = o ∧ o.getD (.int 0) = .int ((ac aim : Nat) : Int) := by
            by_cases m : aim ∈ L2
            · exact ⟨_, cnt_val m, rfl⟩
            · exact ⟨_, cnt_none m, by rw [fr.out aim m]; rfl⟩
          have g1 := DGet.k (k := Sum.inr aim) eL2
          rw [ho] at g1
          refine ⟨_, rfl, l, rfl, .inl ⟨_, .inl eL2⟩, _, rfl, o, g1, _, rfl, _, rfl, d, .int ((cntC p i t : Nat) : Int), rfl, .inl ⟨_, Sum.inr t, .inr ⟨od, lD2⟩, rfl, (cnt_val htm).symm⟩, _, _, hv, rfl, _, rfl, _, rfl, l, _, rfl, DPut.k (k := Sum.inr aim) eL2 (by rw [List.length_map, sizeLine_eq]; omega), ?_⟩
          have eN : (((ac aim : Nat) : Int) + ((cntC p i t : Nat) : Int)) = ((ac aim + cntC p i t : Nat) : Int) := by omega
          have eAdd : (fun x => if x = aim then ac aim + cntC p i t else ac x) = ([(t, c)].foldl (addC p (cntC p i)) ac) := by
            funext x
            show _ = if x = ledL p t c then ac x + cntC p i t else ac x
            rw [hgl]
            by_cases e : x = aim
            · rw [if_pos e, if_pos e, e]
            · rw [if_neg e, if_neg e]
          by_cases m : aim ∈ L2
          · refine ⟨L2, _, _, rfl, fun b o n1 e => by rw [upd_ne n1]; exact st2 b o n1 e, ?_, fr.nd, fr.sub, fun x hx => ?_⟩
            · rw [upd_same]
              show some (HO.dK (putK (cntD L2 ac) (Sum.inr aim) (.int (((ac aim : Nat) : Int) + ((cntC p i t : Nat) : Int))))) = _
              rw [eN, cnt_put m, eAdd]
              rfl
            · show ([(t, c)].foldl (addC p (cntC p i)) ac) x = 0
              rw [← eAdd]
              show (if x = aim then _ else ac x) = 0
              rw [if_neg fun z => hx (by rw [z]; exact m)]
              exact fr.out x hx
          · refine ⟨L2 ++ [aim], _, _, rfl, fun b o n1 e => by rw [upd_ne n1]; exact st2 b o n1 e, ?_, ?_, fun x hx => ?_, fun x hx => ?_⟩
            · rw [upd_same]
              show some (HO.dK (putK (cntD L2 ac) (Sum.inr aim) (.int (((ac aim : Nat) : Int) + ((cntC p i t : Nat) : Int))))) = _
              rw [eN, cnt_new m, eAdd]
              rfl
            · rw [List.nodup_append]
              refine ⟨fr.nd, by simp, fun x hx y hy e => ?_⟩
              rw [List.mem_singleton.mp hy] at e
              exact m (e ▸ hx)
            · rcases List.mem_append.mp hx with h | h
              · exact fr.sub x h
              · rw [List.mem_singleton.mp h]; exact hg
            · show ([(t, c)].foldl (addC p (cntC p i)) ac) x = 0
              rw [← eAdd]
              show (if x = aim then _ else ac x) = 0
              rw [if_neg fun z => hx (by rw [z]; exact List.mem_append_right _ (List.mem_singleton.mpr rfl))]
              exact fr.out x fun z => hx (List.mem_append_left _ z)
        · obtain ⟨L2, v6, v7, rfl, st, eL, fr⟩ := h
          rw [show p.sg.cps.size = p.sg.cps.toList.length from (Array.length_toList ..).symm, List.take_length] at eL fr
          exact ⟨L2, _, _, _, rfl, st, eL, fr⟩
      · obtain ⟨L2, v5, v6, v7, rfl, st, eL, fr⟩ := h
        rw [List.length_map, List.take_length] at eL fr
        have lD' := st _ _ nld.symm lD
        refine ⟨lD', ?_⟩
        have ec : (((L.flatMap fun t => p.sg.cps.toList.map fun c => (t, c)).foldl (addC p (cntC p i)) fun _ => 0)) = cntC p (i + 1) := funext fun x => kL.step ok x
        rw [ec] at eL fr
        refine ⟨_, rfl, l, L2, _, _, _, _, _, rfl, fun b o e => ?_, by rw [upd_ne nld]; exact eL, fr.nd, fr.sub, fr.out⟩
        by_cases hb : b = d
        · rw [hb, upd_same, ← hdk b o e hb, ed3]
        · rw [upd_ne hb]
          exact st _ _ (nlH _ _ e) (fin3 b o e (nlH _ _ e) hb)
    · obtain ⟨d, L, v3, v4, v5, v6, v7, rfl, s2, ed2, kL⟩ := h
      have lz := few L kL.nd kL.sub
      refine ⟨d, _, ed2, trivial, fun od => ?_⟩
      have lD : upd H2 d (.frz od (.dK (cntD L (cntC p n)))) d = some (.frz od (.dK (cntD L (cntC p n)))) := upd_same
      have off : ∀ b o, b ≠ d → H2 b = some o → upd H2 d (.frz od (.dK (cntD L (cntC p n)))) b = some o := fun b o n e => by rw [upd_ne n]; exact e
      have nq : q ≠ d := ne_of (s2 _ _ eq) ed2 (by intro z; cases z)
      have nf : lf ≠ d := ne_of (s2 _ _ ef) ed2 (by intro z; cases z)
      have eq4 := off _ _ nq (s2 _ _ eq)
      have ef4 := off _ _ nf (s2 _ _ ef)
      generalize upd H2 d (.frz od (.dK (cntD L (cntC p n)))) = HF at lD eq4 ef4 off ⊢
      have wk : Walk (Itk d od (cntD L (cntC p n))) L.length (fun H => H d = some (.frz od (.dK (cntD L (cntC p n))))) (fun i H x H' => H' = H ∧ ∃ k v, (cntD L (cntC p n))[i]? = some (k, v) ∧ x = kV k) := by
        have := walk_keys (d := d) (o := od) (kvs := cntD L (cntC p n))
        rwa [List.length_map] at this
      refine ⟨_, rfl, d, od, rfl, .inl ⟨_, lD, fun D hD => ?_⟩⟩
      refine lcG L (fun t => if t ∈ p.gs then some (V.int ((cntC p n t : Nat) : Int)) else none) wk (by omega) hD (fun i H x H' h => by rw [h.1]; exact Same.refl _) (fun H' s => s _ _ lD) (fun i t x H' H'' k1 hx s5 hy k2 => ?_) (fun H5 s5 el => ?_)
      · obtain ⟨rfl, key, v, hkv, rfl⟩ := hy
        rw [List.getElem?_map, hx] at hkv
        have hkv : (((Sum.inr t : Key), V.int ((cntC p n t : Nat) : Int)) : Key × V) = (key, v) := Option.some.inj hkv
        injection hkv with hk hv
        subst hk hv
        refine ⟨rfl, _, rfl, _, rfl, q, _, _, V.ref lf, rfl, rfl, SqL.of (s5 _ _ eq4), atI_nat (j := 2) rfl, lf, _, rfl, .inl (SqL.of (s5 _ _ ef4)), rfl, flat_strs _, _, rfl, ?_⟩
        show if inV (.str t) (p.gs.map V.str) = true then _ else _
        rw [in_strs]
        have k2 := k2 _ (Same.refl _)
        refine ite2 (fun c => ?_) (fun c => ?_)
        · rw [if_pos (of_decide_eq_true c)] at k2
          exact ⟨_, rfl, _, rfl, d, .int ((cntC p n t : Nat) : Int), rfl, .inl ⟨_, Sum.inr t, .inr ⟨od, s5 _ _ lD⟩, rfl, (cnt_val (List.mem_of_getElem? hx)).symm⟩, k2⟩
        · rw [if_neg fun z => c (decide_eq_true z)] at k2
          exact k2
      have efm : ∀ l : List Str, (l.filterMap fun t => if t ∈ p.gs then some (V.int ((cntC p n t : Nat) : Int)) else none) = ((l.filter fun t => decide (t ∈ p.gs)).map fun t => ((cntC p n t : Nat) : Int)).map V.int := fun l => by
        induction l with
        | nil => rfl
        | cons a t ih =>
          rw [List.filterMap_cons, List.filter_cons]
          by_cases m : a ∈ p.gs
          · rw [if_pos m, if_pos (decide_eq_true m), ih]; rfl
          · rw [if_neg m, if_neg (by simpa using m), ih]
      rw [efm] at el
      refine ⟨D, _, rfl, SqL.of el, s5 _ _ lD, ?_⟩
      have es : ∀ l : List Str, ((l.filter fun t => decide (t ∈ p.gs)).map fun t => ((cntC p n t : Nat) : Int)).sum = (((l.map fun t => if t ∈ p.gs then cntC p n t else 0).sum : Nat) : Int) := fun l => by
        induction l with
        | nil => rfl
        | cons a t ih =>
          rw [List.filter_cons, List.map_cons, List.sum_cons]
          by_cases m : a ∈ p.gs
          · rw [if_pos (decide_eq_true m), List.map_cons, List.sum_cons, ih, if_pos m]; omega
          · rw [if_neg (by simpa using m), ih, if_neg m]; omega
      rw [es, kL.total ok]
      refine k _ fun b o e => ?_
      by_cases hb : b = d
      · rw [hb, upd_same, ← ed2, ← hb]
        exact s2 _ _ e
      · rw [upd_ne hb]
        exact s5 _ _ (off _ _ hb (s2 _ _ e))
end
end My
namespace L2
open PySem PySem.Spec PyProof.Rows PySem.GX
/-! enumerate(tuple) -/
end L2
namespace L2
open PySem PySem.Spec PyProof.Rows PySem.GX
end L2
namespace My
open PySem PySem.Spec PyProof.Rows L2 PySem.GX L2H LamX
section
variable {α : Type} {J : It} {G : Hp → Prop} {Y : Nat → Hp → V → Hp → Prop} {g : TG} {tt : TT} {te : TE} {vs : List Nat} {σ : L2.St} {H1 : Hp} {D : Addr} {Qd : Hp → Prop}
/-- a tuple stands at each -/
def TupsF (H : Hp) (zs : List (Addr × List V)) : Prop := ∀ z ∈ zs, H z.1 = some (.tup z.2)
def refsF (zs : List (Addr × List V)) : List V := zs.map fun z => V.ref z.1
theorem filt_take {xs : List α} {keep : α → Bool} {i : Nat} {a : α} (h : xs[i]? = some a) : (xs.take (i + 1)).filter keep = (xs.take i).filter keep ++ (if keep a = true then [a] else []) := by
  rw [List.take_add_one, h, List.filter_append]
  cases hk : keep a with
  | true => rw [if_pos rfl]; simp [hk]
  | false => rw [if_neg (by simp)]; simp [hk]
/-- a list comprehension of new tuples, with a test -/
theorem lcTupF (xs : List α) (keep : α → Bool) (f : α → List V) (w : Walk J xs.length G Y) (hz : xs.length ≤ 16000000) (hD : H1 D = none) (hY : ∀ i H x H', Y i H x H' → Same H H') (hG : ∀ H', Same H1 H' → G H')
    (turn : ∀ (i : Nat) (a : α) (x : V) (H' H'' : Hp) (k : V → Hp → Prop) (kn : Hp → Prop), xs[i]? = some a → Same H1 H' → Y i H' x H'' → (keep a = true → ∀ t H4, Same H'' H4 → H4 t = some (.tup (f a)) → k (.ref t) H4) → (keep a = false → ∀ H4, Same H'' H4 → kn H4) →
      g x (wipe σ vs) H'' fun σ2 H2 => wipe σ2 vs = wipe σ vs ∧ tt σ2 H2 fun b H3 => if b = true then te σ2 H3 fun y H4 => k y H4 else kn H3)
    (hd : ∀ H' zs, Same H1 H' → H' D = some (.lst (refsF zs)) → zs.map (·.2) = (xs.filter keep).map f → TupsF H' zs → Qd H') :
    ∃ W : Nat → Nat → Hp → Prop, (∃ m, W 0 m (upd H1 D (.lst []))) ∧ ∀ i m H, W i m H →
      (J.stop i H ∧ Qd H) ∨ (J.go i H ∧ ∃ Nx : Hp → Prop, (∀ H', Nx H' → ∃ m', m' < m ∧ W (i + 1) m' H') ∧ ∀ x H', J.yld i H x H' → g x (wipe σ vs) H' fun σ2 H2 => wipe σ2 vs = wipe σ vs ∧ tt σ2 H2 fun b H3 =>
        if b = true then te σ2 H3 fun y H4 => ∃ acc, H4 D = some (.lst acc) ∧ acc.length < sizeLine ∧ Nx (upd H4 D (.lst (acc ++ [y]))) else Nx H3) := by
  have e0 : upd H1 D (.lst []) D = some (.lst []) := upd_same
  have nD : ∀ {H' : Hp} {b : Addr} {o : HO}, H1 b = some o → b ≠ D := fun e z => by rw [z, hD] at e; cases e
  refine dc_it w (nx := fun i H' => (Same H1 H') ∧ ∃ zs, H' D = some (.lst (refsF zs)) ∧ zs.map (·.2) = ((xs.take i).filter keep).map f ∧ TupsF H' zs) (body := fun i x H' Nx => g x (wipe σ vs) H' fun σ2 H2 => wipe σ2 vs = wipe σ vs ∧ tt σ2 H2 fun b H3 =>
        if b = true then te σ2 H3 fun y H4 => ∃ acc, H4 D = some (.lst acc) ∧ acc.length < sizeLine ∧ Nx (upd H4 D (.lst (acc ++ [y]))) else Nx H3)
    ⟨same_new hD, [], e0, rfl, fun z hz => by cases hz⟩ (fun i H' _ h => hG _ h.1) (fun i x H' H'' hi h hy => ?_) (fun H' h => ?_)
  · obtain ⟨sm, zs, eD, em, ht⟩ := h
    have ei : xs[i]? = some xs[i] := List.getElem?_eq_getElem hi
    have hl : zs.length ≤ i := by
      have := congrArg List.length em
      rw [List.length_map, List.length_map] at this
      have h2 := List.length_filter_le keep (xs.take i)
      rw [List.length_take] at h2
      omega
    refine turn i xs[i] x H' H'' (fun y H4 => ∃ acc, H4 D = some (.lst acc) ∧ acc.length < sizeLine ∧ _) _ ei sm hy (fun hk t H4 s4 et => ?_) (fun hk H4 s4 => ?_)
    · have s5 := (hY _ _ _ _ hy).trans s4
      have eD4 := s5 _ _ eD
      have nt : t ≠ D := fun z => by rw [z, eD4] at et; cases et
      refine ⟨_, eD4, by unfold refsF; rw [List.length_map, sizeLine_eq]; omega, ?_, zs ++ [(t, f xs[i])], ?_, ?_, ?_⟩
      · intro b o e
        rw [upd_ne (nD (H' := H1) e)]
        exact (sm.trans s5) _ _ e
      · rw [upd_same]
        unfold refsF
        rw [List.map_append]
        rfl
      · rw [List.map_append, em, filt_take ei, if_pos hk, List.map_append]
        rfl
      · intro z hz
        rcases List.mem_append.mp hz with m | m
        · have := s5 _ _ (ht z m)
          have nz : z.1 ≠ D := fun q => by rw [q, eD4] at this; cases this
          rw [upd_ne nz]
          exact this
        · have : z = (t, f xs[i]) := by simpa using m
          subst this
          show upd H4 D _ t = _
          rw [upd_ne nt]
          exact et
    · have s5 := (hY _ _ _ _ hy).trans s4
      refine ⟨sm.trans s5, zs, s5 _ _ eD, ?_, fun z hz => s5 _ _ (ht z hz)⟩
      rw [em, filt_take ei, if_neg (by simp [hk]), List.append_nil]
  · obtain ⟨sm, zs, eD, em, ht⟩ := h
    rw [List.take_length] at em
    exact hd H' zs sm eD em ht
end
end My
set_option pp.maxSteps 3000
namespace My
open PySem PySem.Spec PyProof.Rows L2 PySem.GX L2H LamX
theorem SkAt.kp {H H' : Hp} {p q : Addr} {x : Str} {ws fs : List Str} {kvs : List (List Key × V)} (h : SkAt H q x ws fs kvs) (w : Wl H p) (s : Kp p H H') : SkAt H' q x ws fs kvs := by
  obtain ⟨lw, lf, g, e1, e2, e3, e4⟩ := h
  exact ⟨lw, lf, g, s _ _ (w.ne e1 fun a b c z => by cases z) (fun _ z => by cases z) e1, s _ _ (w.neS e2) (fun _ z => by cases z) e2, s _ _ (w.neS e3) (fun _ z => by cases z) e3, s _ _ (w.ne e4 fun a b c z => by cases z) (fun _ z => by cases z) e4⟩
theorem RuleAt.kp {H H' : Hp} {p C a : Addr} {t : Str} {pp : Parts} (h : RuleAt H C a t pp) (w : Wl H p) (s : Kp p H H') : RuleAt H' C a t pp := by
  obtain ⟨dx, M, G, D, e1, e2, e3, e4⟩ := h
  exact ⟨dx, M, G, D, s _ _ (w.ne e1 fun a b c z => by cases z) (fun _ z => by cases z) e1, s _ _ (w.ne e2 fun a b c z => by cases z) (fun _ z => by cases z) e2, s _ _ (w.ne e3 fun a b c z => by cases z) (fun _ z => by cases z) e3, s _ _ (w.ne e4 fun a b c z => by cases z) (fun _ z => by cases z) e4⟩
abbrev qL : Str := ("_law_right" : Str) ++ ".<locals>." ++ "<lambda>"
def spRight (T : List (Addr × Str)) : Sp := fun vs H Q _ => ∃ p : Addr, vs = [.ref p] ∧ Wl H p ∧ Tabs T H ∧ ∀ H' : Hp, Kp p H H' → Tabs T H' → Q (.bl true) H'
/-- what stands while the law goes on -/
structure In9 (T : List (Addr × Str)) (CU p q a : Addr) (x : Str) (ws fs : List Str) (kvs : List (List Key × V)) (H0 H : Hp) : Prop where
  kp : Kp p H0 H
  wl : Wl H p
  tb : Tabs T H
  sk : SkAt H q x ws fs kvs
  ru : RuleAt H CU a (textL x ws fs kvs) ⟨x, ws, fs, rsL x ws kvs⟩
section
variable {T : List (Addr × Str)} {CU p q a : Addr} {x : Str} {ws fs : List Str} {kvs : List (List Key × V)} {H0 H H' : Hp}
theorem In9.same (h : In9 T CU p q a x ws fs kvs H0 H) (s : Same H H') : In9 T CU p q a x ws fs kvs H0 H' :=
  ⟨h.kp.trans (Kp.of s), h.wl.same s, Tabs.ext h.tb s, h.sk.same s, h.ru.same s⟩
theorem In9.ext (h : In9 T CU p q a x ws fs kvs H0 H) (s : ExtN H H') (t : Tabs T H') : In9 T CU p q a x ws fs kvs H0 H' :=
  ⟨h.kp.trans (Kp.ext s), h.wl.ext_ s, t, h.sk.kp h.wl (Kp.ext s), h.ru.ext s⟩
theorem In9.sb (h : In9 T CU p q a x ws fs kvs H0 H) (s : Sb p H H') (w : Wl H' p) : In9 T CU p q a x ws fs kvs H0 H' :=
  ⟨h.kp.trans (Kp.sb s), w, Tabs.sb_ h.tb h.wl s, h.sk.kp h.wl (Kp.sb s), h.ru.kp h.wl (Kp.sb s)⟩
end
theorem PSs_imp9 {X : Cx} {ss : List Stmt} {t t' : TS} (h : PSs X ss t) (m : ∀ D σ H, t' D σ H → t D σ H) : PSs X ss t' := ⟨fun pins s σ H D I q => h.run pins s σ H D I (m D σ H q)⟩
/-- what stands around -/
structure R9 (P : Program) (w : World) (K : PySem.W.Frag) (mg : Str → Option Value) (base : Heap) (T : List (Addr × Str)) (CU CR CN : Addr) (c : Nat → Addr) (bR bK bP : Addr) : Prop where
  T' : RuC K CU
  sk : Hv P w K mg base 4 "_law_sketch" ["_law_well_here", "_law_most_signs", "_law_most_moods"] spSketch
  rl : Hv P w K mg base 7 "_law_rule" ["_law_sketch_here"] (spRuleL CU)
  li : Hv P w K mg base 1 "_law_lines" ["_law_letters", "_law_most"] spLinesL
  fi : Hv P w K mg base 2 "_law_is_fine" ["_law_sketch_here", "_law_line"] spIsFine
  dip : Hv P w K mg base 1 "_law_dip" ["_law_well_here", "_law_size"] spDip
  odd : Hv P w K mg base 2 "_law_odd" ["_law_well_here"] (spOdd K)
  pkL : Hv P w K mg base 2 "_law_pick" ["_law_well_here", "_law_menu"] spPickL
  ct : Hv P w K mg base 1 "_law_counted" ["_law_sketch_here", "_law_measure"] spCountedK
  be : Hv P w K mg base 1 "_law_beside" ["_law_fore", "_law_hind"] spBeside
  my : ∃ (f : Addr) (fd : FuncData), FnOk P w K mg base CX0 3 f fd ["rule", "number"] (spMany CU) ∧ Binds K fd ["rule", "number"] [] ∧ KBn K fd ["rule", "number"] 0 ["number", "rule"] (fun _ ws => ws.reverse) (fun _ zs => zs.reverse) ∧ mg "many" = some (.ref f) ∧ PySem.W.keepIn K (.ref f) = true
  myN : HvX P w K mg base 4 "many" ["rule", "number"] (spManyN K CU CR)
  myB : HvX P w K mg base 4 "many" ["rule", "number"] (spManyB K CU CN)
  fg : ∃ (f : Addr) (fd : FuncData), FnOk P w K mg base CX0 5 f fd ["rule"] (spFirstGd T CU) ∧ Binds K fd ["rule"] [] ∧ KBn K fd ["rule"] 0 ["rule"] (fun us ws => us ++ ws) (fun vs zs => vs ++ zs) ∧ mg "first_good" = some (.ref f) ∧ PySem.W.keepIn K (.ref f) = true
  fgN : HvX P w K mg base 4 "first_good" ["rule"] (spCkX K CU CR)
  tx : PrF P w K mg base CU "text" "written"
  nou : noU K CU = true
  EC7 : ErrC K c bR bK bP CR 7
  EC3 : ErrC K c bR bK bP CN 3
  hC : ∃ (f : Addr) (fd : FuncData), Fun K "_law_class" "_law_class" sClass f fd ∧ Binds K fd ["_law_e"] [] ∧ mg "_law_class" = some (.ref f)
  hF : ∃ (f : Addr) (fd : FuncData), Fun K "_law_field" "_law_field" sField f fd ∧ Binds K fd ["_law_e"] [] ∧ mg "_law_field" = some (.ref f)
  gc : ∀ j, j < 11 → mg (cn.getD j Str.empty) = some (.ref (c j))
  g1 : mg "NotRight" = some (.ref bR)
  g2 : mg "NotKnown" = some (.ref bK)
  g3 : mg "NotPossible" = some (.ref bP)
  hIs : mg "isinstance" = none
  hL : mg "len" = none
  hVE : mg "ValueError" = none
  hLE : mg "LookupError" = none
  hAE : mg "ArithmeticError" = none
  hI : mg "int" = none
  hB : mg "bool" = none
  hRe : mg "repr" = none
  hRa : mg "range" = none
  hMin : mg "min" = none
  er : ∃ (g : Addr) (oc : Value) (od : Option Addr) (kV doc pm : Value) (an : Option Addr) (cdv ct : Value) (osl : Array (Option Value)), mg "_law_error" = some (.ref g) ∧ PySem.W.keepIn K (.ref g) = true ∧
    K.lookup g = some ⟨oc, od, .func (PySem.W.fnOf "_law_error" "_law_error" (defArgs sError) (defBody sError) (defScope sError) .none kV doc pm an cdv ct), osl⟩ ∧ PySem.W.codeIn K cdv "_law_error" = true ∧
    L2.Binds K (PySem.W.fnOf "_law_error" "_law_error" (defArgs sError) (defBody sError) (defScope sError) .none kV doc pm an cdv ct) ["_law_act"] []
abbrev nR9 : List Str := ["_law_well_here", "_law_sketch_here", "_law_lines_here", "_law_fine", "_law_measure", "_law_size", "_law_some", "_law_rows", "_law_due", "_law_made", "_law_mine", "_law_odd_here", "_law_thing", "_law_line", "_law_pair", "_law_each"]
theorem scR9 : FnScope nR9 ["_law_well_here"] (defScope sRight) := ⟨rfl, rfl, rfl, by decide +kernel, rfl, by decide +kernel, by decide +kernel⟩
end My
namespace My
open PySem PySem.Spec PyProof.Rows L2 PySem.GX L2H LamX
/-! the rows of one length among all -/
theorem rowsX_mem {cs : List Nat} : ∀ (n : Nat) (r : List Nat), r ∈ rowsX cs n → r.length = n ∧ ∀ c ∈ r, c ∈ cs
  | 0, r, h => by rw [List.mem_singleton.mp h]; exact ⟨rfl, fun _ z => by cases z⟩
  | n + 1, r, h => by
    obtain ⟨s, hs, h2⟩ := List.mem_flatMap.mp h
    obtain ⟨c, hc, rfl⟩ := List.mem_map.mp h2
    obtain ⟨l, i⟩ := rowsX_mem n s hs
    refine ⟨by rw [List.length_append, l]; rfl, fun d hd => ?_⟩
    rcases List.mem_append.mp hd with q | q
    · exact i d q
    · rw [List.mem_singleton.mp q]; exact hc
theorem allX_mem {cs : List Nat} : ∀ (n : Nat) (r : List Nat), r ∈ allX cs n → r.length ≤ n ∧ ∀ c ∈ r, c ∈ cs
  | 0, r, h => by rw [List.mem_singleton.mp h]; exact ⟨Nat.le_refl _, fun _ z => by cases z⟩
  | n + 1, r, h => by
    rcases List.mem_append.mp h with h | h
    · obtain ⟨a, b⟩ := allX_mem n r h
      exact ⟨by omega, b⟩
    · obtain ⟨a, b⟩ := rowsX_mem (n + 1) r h
      exact ⟨by omega, b⟩
theorem allX_cnt {cs : List Nat} (G : List Nat → Bool) (k : Nat) : ∀ n, k ≤ n → (((allX cs n).filter G).filter fun r => decide (r.length = k)).length = (rowsX cs k).countP G := by
  have own : ∀ m, (((rowsX cs m).filter G).filter fun r => decide (r.length = m)).length = (rowsX cs m).countP G := fun m => by
    rw [List.filter_eq_self.mpr fun r hr => decide_eq_true (rowsX_mem m r (List.mem_filter.mp hr).1).1, ← List.countP_eq_length_filter]
  have no : ∀ m, m ≠ k → (((rowsX cs m).filter G).filter fun r => decide (r.length = k)).length = 0 := fun m hm => by
    rw [List.filter_eq_nil_iff.mpr fun r hr => by
      have := (rowsX_mem m r (List.mem_filter.mp hr).1).1
      rw [decide_eq_true_eq]
      omega]
    rfl
  intro n
  induction n with
  | zero =>
    intro h
    have : k = 0 := by omega
    subst this
    exact own 0
  | succ n ih =>
    intro h
    show (((allX cs n ++ rowsX cs (n + 1)).filter G).filter _).length = _
    rw [List.filter_append, List.filter_append, List.length_append]
    by_cases e : k = n + 1
    · subst e
      rw [own (n + 1), List.filter_eq_nil_iff.mpr fun r hr => by
        have := (allX_mem n r (List.mem_filter.mp hr).1).1
        rw [decide_eq_true_eq]
        omega]
      simp
    · rw [no (n + 1) (fun z => e z.symm), ih (by omega), Nat.add_zero]
/-- the law's test of a row -/
def gX (kvs : List (List Key × V)) (ws fs : List Str) (r : List Nat) : Bool := decide (wkL kvs (ws.headD Str.empty) r ∈ fs)
theorem gX_good {x : Str} {ws fs : List Str} {kvs : List (List Key × V)} (h : Fine x ws fs kvs) {r : List Nat} (hr : ∀ c ∈ r, c ∈ x.cps.toList) : gX kvs ws fs r = goodOf ⟨x, ws, fs, rsL x ws kvs⟩ r := by
  obtain ⟨tl, eh⟩ := h.head
  have hm : ws.headD Str.empty ∈ ws := by rw [eh]; simp
  unfold gX goodOf
  rw [← walk_eqK h r _ hm hr]
  rfl
theorem many_all {x : Str} {ws fs : List Str} {kvs : List (List Key × V)} (h : Fine x ws fs kvs) (k : Nat) (hk : k ≤ 4) :
    manyN ⟨x, ws, fs, rsL x ws kvs⟩ k = (((allX x.cps.toList 4).filter (gX kvs ws fs)).filter fun r => decide (r.length = k)).length := by
  obtain ⟨tl, eh⟩ := h.head
  have hm : ws.headD Str.empty ∈ ws := by rw [eh]; simp
  rw [allX_cnt _ k 4 hk, many_rows (parts_ok (fine_parse h)) hm k, rows_X]
  refine List.countP_congr fun r hr => ?_
  rw [gX_good h (rowsX_mem k r hr).2]
  exact Iff.rfl
end My
set_option pp.maxSteps 3000
namespace My
open PySem PySem.Spec PyProof.Rows L2 PySem.GX L2H LamX
theorem ne_self9 (x : V) : (!decide (x = x)) = false := by simp
theorem sb_of_del9 {H H' : Hp} {p : Addr} (s : Same (del H p) (del H' p)) : Sb p H H' := fun b o n e => by
  have := s b o (by rw [del_ne n]; exact e)
  rwa [del_ne n] at this
theorem fm_if {α : Type} (G : α → Bool) (h : α → V) : ∀ L : List α, (L.filterMap fun r => if G r = true then some (h r) else none) = (L.filter G).map h
  | [] => rfl
  | a :: t => by
    by_cases e : G a = true
    · rw [List.filterMap_cons, if_pos e, List.filter_cons_of_pos e, fm_if G h t]
      rfl
    · rw [List.filterMap_cons, if_neg e, List.filter_cons_of_neg e, fm_if G h t]
section
variable {P : Program} {w : World} {K : PySem.W.Frag} {mg : Str → Option Value} {base : Heap} {T : List (Addr × Str)} {CU CR CN : Addr} {c : Nat → Addr} {bR bK bP : Addr}
def tOdd (K : PySem.W.Frag) : L2.St → Hp → (Bool → Hp → Prop) → Prop := fun σ H Q => ∃ (y : V) (dy : PyData) (v0 v1 v2 v3 v4 v5 v6 v7 v8 v9 v10 : Option V), σ = [v0, v1, v2, v3, v4, v5, v6, v7, v8, v9, v10, some y, none, none, none, none] ∧ Sh K H y dy ∧ Q (!inb dy 0 1000) H
def DueIs (rs : List My.Row) : Option My.Row → Prop
  | none => rs = []
  | some m => m ∈ rs ∧ ∀ y ∈ rs, sle m y
theorem due_first {p : Parts} {L : List (List Key × My.Row)} (h : BesOk p L) {o : Option My.Row} (hd : DueIs ((L.filter (gk p)).map (·.2)) o) : IsFirst p.sg.cps.toList (fun r => goodOf p r = true) o := by
  cases o with
  | none => exact h.none (List.map_eq_nil_iff.mp hd)
  | some m => exact h.some hd.1 hd.2
/-- the due row: of the rows the first one, None if there are none -/
def tDue : TE := fun σ H Q => ∃ (D : Addr) (rs : List My.Row) (v0 v1 v2 v3 v4 v5 v6 v8 v9 v10 v11 v12 : Option V), σ = [v0, v1, v2, v3, v4, v5, v6, some (.ref D), v8, v9, v10, v11, v12, none, none, none] ∧ H D = some (.lst (rs.map fun r => V.str (rT r))) ∧ rs.length ≤ 90000 ∧ (∀ r ∈ rs, r.length ≤ 90000) ∧
  ∀ (o : Option My.Row) (H' : Hp), Same H H' → DueIs rs o → Q (rowV o) H'
theorem scal_rows (o o' : Option My.Row) : scal (rowV o) (rowV o') = true := by cases o <;> cases o' <;> rfl
theorem tups_dp {K : PySem.W.Frag} {H : Hp} : ∀ {zs : List (Addr × List V)} {rs : List My.Row}, zs.map (·.2) = rs.map (fun r => [V.int ((r.length : Nat) : Int), V.str (rT r)]) → TupsF H zs → DpAll K H (refsF zs) (rs.map dR)
  | [], [], _, _ => .nil
  | [], _ :: _, e, _ => by cases e
  | _ :: _, [], e, _ => by cases e
  | z :: zs, r :: rs, e, h => by
    rw [List.map_cons, List.map_cons] at e
    injection e with e1 e2
    have h1 := h z List.mem_cons_self
    rw [e1] at h1
    exact .cons (.tup (SqT.of h1) (.cons (.int _) (.cons (.str _) .nil))) (tups_dp e2 fun y hy => h y (List.mem_cons_of_mem _ hy))
def tTail (K : PySem.W.Frag) (T : List (Addr × Str)) (CU : Addr) (H0 : Hp) : TS := fun D σ H => ∃ (p q a : Addr) (x : Str) (ws fs : List Str) (kvs : List (List Key × V)) (v2 v3 v4 v5 v6 v7 v8 : Option V), σ = [some (.ref p), some (.ref q), v2, v3, v4, v5, v6, v7, v8, none, some (.ref a), none, none, none, none, none] ∧ In9 T CU p q a x ws fs kvs H0 H ∧ Short x ws fs kvs ∧ Fine x ws fs kvs ∧ ∀ H', Kp p H0 H' → Tabs T H' → D.rt (.bl true) H'
def tEnd (K : PySem.W.Frag) (T : List (Addr × Str)) (CU : Addr) (H0 : Hp) : TS := fun D σ H => ∃ (p q a : Addr) (x : Str) (ws fs : List Str) (kvs : List (List Key × V)) (y : V) (v2 v3 v4 v5 v6 v7 v8 : Option V), σ = [some (.ref p), some (.ref q), v2, v3, v4, v5, v6, v7, v8, none, some (.ref a), some y, none, none, none, none] ∧ In9 T CU p q a x ws fs kvs H0 H ∧ Short x ws fs kvs ∧ Fine x ws fs kvs ∧ ∀ H', Kp p H0 H' → Tabs T H' → D.rt (.bl true) H'
def tMid (K : PySem.W.Frag) (T : List (Addr × Str)) (CU : Addr) (H0 : Hp) : TS := fun D σ H => ∃ (p q a : Addr) (x : Str) (ws fs : List Str) (kvs : List (List Key × V)) (v2 v3 v4 : Option V), σ = [some (.ref p), some (.ref q), v2, v3, v4, none, none, none, none, none, some (.ref a), none, none, none, none, none] ∧ In9 T CU p q a x ws fs kvs H0 H ∧ Short x ws fs kvs ∧ Fine x ws fs kvs ∧ ∀ H', Kp p H0 H' → Tabs T H' → D.rt (.bl true) H'
theorem ok_right {f cR PT : Addr} {kV doc pm ct oc : Value} {an od : Option Addr} {osl : Array (Option Value)} (lk : K.lookup f = some ⟨oc, od, .func (PySem.W.fnOf "_law_right" "_law_right" (defArgs sRight) (defBody sRight) (defScope sRight) .none kV doc pm an (.ref cR) ct), osl⟩)
    (hcd : PySem.W.codeIn K (.ref cR) "_law_right" = true) (TB : TabB base mg cR PT) (hTm : (PT, qL) ∈ T) (hTu : ∀ q ∈ T, q.1 = PT → q.2 = qL) (R : R9 P w K mg base T CU CR CN c bR bK bP) :
    FnG P w K mg base CX0 8 f (PySem.W.fnOf "_law_right" "_law_right" (defArgs sRight) (defBody sRight) (defScope sRight) .none kV doc pm an (.ref cR) ct) ["_law_well_here"] (spRight T) := by
  obtain ⟨fM, fdM, GM, bM, kbM, gM, kM⟩ := R.my
  obtain ⟨fG, fdG, GF, bF, kbF, gF, kF⟩ := R.fg
  obtain ⟨pp, gp, fdp, PT', GT, bT⟩ := R.tx
  obtain ⟨fC, fdC, FC, bC, gC⟩ := R.hC
  obtain ⟨fF, fdF, FF, bFf, gFf⟩ := R.hF
  obtain ⟨gE, ocE, odE, kVE, docE, pmE, anE, cdE, ctE, oslE, mE, kE, lE, cE, bE⟩ := R.er
  refine fnG_of lk hcd scR9 (fun vs H Q E h => ?_) (fun A outer s H vs Q E hgd hr h => ?_)
  · obtain ⟨p, rfl, _⟩ := h
    rfl
  · obtain ⟨p, rfl, hW, hT, k⟩ := h
    suffices hh : ∃ t, PSs (cxOf CX0 P w K mg base nR9 "_law_right" (defScope sRight) f (.ref cR) A outer s H E).nox (defBody sRight) t ∧ t { nx := fun _ H' => Q .non H', rt := Q } (L2.start nR9 [.ref p]) H from by
      obtain ⟨t, h1, h2⟩ := hh
      exact ⟨t, h1.nox, h2⟩
    have hr1 : Room 1 (A.deeper (envOfC "_law_right" (defScope sRight) s.heap.objs.size f (.ref cR))) := hr.mono (by decide)
    have hr2 : Room 2 (A.deeper (envOfC "_law_right" (defScope sRight) s.heap.objs.size f (.ref cR))) := hr.mono (by decide)
    have hr3 : Room 3 (A.deeper (envOfC "_law_right" (defScope sRight) s.heap.objs.size f (.ref cR))) := hr.mono (by decide)
    have hr4 : Room 4 (A.deeper (envOfC "_law_right" (defScope sRight) s.heap.objs.size f (.ref cR))) := hr.mono (by decide)
    have hr5 : Room 5 (A.deeper (envOfC "_law_right" (defScope sRight) s.heap.objs.size f (.ref cR))) := hr.mono (by decide)
    have hr6 : Room 6 (A.deeper (envOfC "_law_right" (defScope sRight) s.heap.objs.size f (.ref cR))) := hr.mono (by decide)
    have hu1 : (A.deeper (envOfC "_law_right" (defScope sRight) s.heap.objs.size f (.ref cR))).units + 1 < cLine := by have := hr.units; omega
    have hu0 : (A.deeper (envOfC "_law_right" (defScope sRight) s.heap.objs.size f (.ref cR))).units < cLine := by omega
    refine ⟨_, pss_cons (ps_set (i := 1) scR9.nd rfl (Or.inr rfl) (pe_cl R.sk hr4 rfl pass0 (pa_cons (pv 0) (pa_cons pe_int (pa_cons pe_int pa_nil)))))
      (pss_cons (ps_asg (pe_tup (pa_cons (pe_cl R.rl hr rfl pass0 (pa_cons (pv 1) pa_nil)) (pa_cons (pe_cl R.li hr1 rfl pass0 (pa_cons (pe_ix ix_list (pv 1) pe_int (fun _ _ => rfl)) (pa_cons pe_int pa_nil))) pa_nil))) (pg_tup (by rfl) (pgs_cons (pg_name (i := 10) scR9.nd rfl (Or.inr rfl)) (pgs_cons (pg_name (i := 2) scR9.nd rfl (Or.inl rfl)) pgs_nil))))
      (pss_cons (ps_setLc (i := 3) (own := [("_law_line", 13)]) (g := gName 13) (by rfl) scR9.nd rfl rfl (sw_true rfl rfl rfl (by decide +kernel)) (pi_list (pv 2)) (blkOk_by (N := nR9) (sc := defScope sRight) (by decide +kernel)) (fun _ _ _ _ _ => pg_name (i := 13) scR9.nd rfl (Or.inl rfl)) (fun _ _ _ _ _ => pts_one (pt_val (pe_cl R.fi hr2 rfl pass0 (pa_cons (pv 1) (pa_cons (pv 13) pa_nil))))) (fun _ _ _ _ _ => pv 13))
      (pss_cons (ps_for PassesOwn.never rfl (pi_range1 rfl R.hRa (pa_cons pe_int pa_nil)) (pg_name (i := 4) scR9.nd rfl (Or.inr rfl))
        (pss_one (ps_if (pt_cmpR op_ne (pe_call GM hr3 rfl gM kM bM .nil pass0 (pa_cons (pv 10) (pa_cons (pv 4) pa_nil))) (pe_callB call_len_seq (by rfl) R.hL PySem.boot_len (pa_cons (pe_lc (own := [("_law_line", 13)]) (g := gName 13) rfl scR9.nd (pi_list (pv 3)) (blkOk_by (N := nR9) (sc := defScope sRight) (by decide +kernel)) (fun _ _ _ _ _ => pg_name (i := 13) scR9.nd rfl (Or.inl rfl)) (fun _ _ _ _ _ => pts_one (pt_cmpR op_eq (pe_callB call_len_str (by rfl) R.hL PySem.boot_len (pa_cons (pv 13) pa_nil)) (pv 4) (nomark _))) (fun _ _ _ _ _ => pv 13)) pa_nil)) (nomark _)) (pss_one (ps_ret pe_bl)) pss_nil)))
      (PSs_imp9 (t' := tMid K T CU H) (pss_cons (ps_set (i := 5) scR9.nd rfl (Or.inl rfl) (pe_cl R.pkL hr2 rfl pass0 (pa_cons (pv 0) (pa_cons (pe_lst (pa_cons pe_int (pa_cons pe_int (pa_cons pe_int (pa_cons pe_int (pa_cons (pe_cl R.dip hr1 rfl pass0 (pa_cons (pv 0) (pa_cons pe_int pa_nil))) pa_nil)))))) pa_nil))))
      (pss_cons (ps_if (pt_cmpR op_ne (pe_callKw GM hr3 rfl gM kM kbM pass0 (pk_cons (pv 5) (pk_cons (pv 10) pk_nil))) (pe_cl R.ct hr1 rfl pass0 (pa_cons (pv 1) (pa_cons (pv 5) pa_nil))) (nomark _)) (pss_one (ps_ret pe_bl)) pss_nil)
      (pss_cons (ps_set (i := 6) scR9.nd rfl (Or.inr rfl) (pe_cl R.be hr1 rfl pass0 (pa_cons (pv 1) (pa_cons (pv 1) pa_nil))))
      (pss_cons (ps_lock (ps_setLc (i := 7) (own := [("_law_pair", 14)]) (g := gName 14) (by rfl) scR9.nd rfl rfl (sw_true rfl rfl rfl (by decide +kernel)) (pi_keys (pv 6)) (blkOk_by (N := nR9) (sc := defScope sRight) (by decide +kernel)) (fun _ _ _ _ _ => pg_name (i := 14) scR9.nd rfl (Or.inl rfl)) (fun _ _ _ _ _ => pts_one (pt_cmpR (op_in_seqK (K := K) rfl) (pe_ix (ix_tupK (K := K) rfl) (pv 14) pe_int (fun _ _ => rfl)) (pe_ix (ix_listK (K := K) rfl) (pv 1) pe_int (fun _ _ => rfl)) (by rfl))) (fun _ _ _ _ _ => pe_dget hu1 (pv 6) (pv 14) (fun _ _ => rfl))))
      (pss_cons (ps_set (i := 8) scR9.nd rfl (Or.inl rfl) (PE_imp (t' := tDue) (pe_ifExp (pt_cmpR (op_neNil hu0) (pv 7) (pe_lst pa_nil) (nomark _)) (pe_ix ix_tup (pe_callB (cr_minR rfl hr.units) (by rfl) R.hMin (by decide +kernel) (pa_cons (pe_lc (own := [("_law_line", 13)]) (g := gName 13) (tt := tYes) rfl scR9.nd (pi_list (pv 7)) (blkOk_by (N := nR9) (sc := defScope sRight) (by decide +kernel)) (fun _ _ _ _ _ => pg_name (i := 13) scR9.nd rfl (Or.inl rfl)) (fun _ _ _ _ _ => pts_nil) (fun _ _ _ _ _ => pe_tup (pa_cons (pe_callB call_len_str (by rfl) R.hL PySem.boot_len (pa_cons (pv 13) pa_nil)) (pa_cons (pv 13) pa_nil)))) pa_nil)) pe_int (fun _ _ => rfl)) pe_non) ?iDue))
      (pss_cons (ps_if (PW.pt (pw_or (pt_cmpR op_ne (pe_call GF hr5 rfl gF kF bF .nil pass0 (pa_cons (pv 10) pa_nil)) (pv 8) (nomark _)) (pw_or1 (pt_cmpR op_ne (pe_callKw GF hr5 rfl gF kF kbF pass0 (pk_cons (pv 10) pk_nil)) (pv 8) (nomark _))))) (pss_one (ps_ret pe_bl)) pss_nil)
      (PSs_imp9 (t' := tTail K T CU H) (pss_cons (ps_set (i := 11) scR9.nd rfl (Or.inr rfl) (pe_cl R.pkL hr2 rfl pass0 (pa_cons (pv 0) (pa_cons (pe_lst (pa_cons (pe_cl R.odd hr2 rfl pass0 (pa_cons (pv 0) pa_nil)) (pa_cons pe_int (pa_cons (pe_un un_neg pe_int) (pa_cons pe_bl (pa_cons pe_str pa_nil)))))) pa_nil))))
      (pss_cons (ps_if (PT_imp (t' := tOdd K) (PW.pt (pw_or (pt_not (pt_val (pe_callB call_isi (by rfl) R.hIs (by decide +kernel) (pa_cons (pv 11) (pa_cons (pe_bltn (v := .ty "int") (by rfl) R.hI (by decide +kernel) rfl) pa_nil)))))
          (pw_or (pt_val (pe_callB call_isi (by rfl) R.hIs (by decide +kernel) (pa_cons (pv 11) (pa_cons (pe_bltn (v := .ty "bool") (by rfl) R.hB (by decide +kernel) rfl) pa_nil))))
          (pw_or1 (pt_not (pt_chain op_le op_le pe_int (pv 11) pe_int)))))) ?iOdd)
        (pss_one (ps_if (pt_cmpR op_ne (pe_callB (call_reprLK (K := K) rfl hgd hr.units) (by rfl) R.hRe (by decide +kernel) (pa_cons (pe_lamN (T := T) (TT := TTerr K c bR bK bP) (k := 4) rfl mE kE lE cE bE scError rfl (Or.inl rfl)
            (gives_err FC bC gC FF bFf gFf R.gc R.g1 R.g2 R.g3 R.hIs R.hL R.hVE R.hLE R.hAE) TB rfl hTm hTu hr6 (lamS_by (show lamSB (defScope sRight) _ = true by decide +kernel)) rfl (fun _ _ _ _ _ => rfl)
            (fun A outer s H E f c' hr' => pe_clX R.myB hr' rfl (L2N.passes_call (L2N.takes_of rfl rfl rfl rfl) (fun _ _ _ _ z => z)) (pa_cons (pv 10) (pa_cons (pv 11) pa_nil)))) pa_nil))
            (pe_callB (call_reprLK (K := K) rfl hgd hr.units) (by rfl) R.hRe (by decide +kernel) (pa_cons (pe_lst (pa_cons pe_str (pa_cons (pv 11) pa_nil))) pa_nil)) (nomark _)) (pss_one (ps_ret pe_bl)) pss_nil)) pss_nil)
      (PSs_imp9 (t' := tEnd K T CU H) (pss_cons (ps_set (i := 12) scR9.nd rfl (Or.inr rfl) (pe_cl R.pkL hr2 rfl pass0 (pa_cons (pv 0) (pa_cons (pe_lst (pa_cons (pe_cl R.odd hr2 rfl pass0 (pa_cons (pv 0) pa_nil)) (pa_cons (pe_prop (pv 10) R.T'.cl PT' GT hr2 bT .nil pass0 (by rfl)) pa_nil))) pa_nil))))
      (pss_cons (ps_set (i := 9) scR9.nd rfl (Or.inl rfl) (pe_lst (pa_cons (pe_lamN (T := T) (TT := TTerr K c bR bK bP) (k := 4) rfl mE kE lE cE bE scError rfl (Or.inl rfl)
            (gives_err FC bC gC FF bFf gFf R.gc R.g1 R.g2 R.g3 R.hIs R.hL R.hVE R.hLE R.hAE) TB rfl hTm hTu hr6 (lamS_by (show lamSB (defScope sRight) _ = true by decide +kernel)) rfl (fun _ _ _ _ _ => rfl)
            (fun A outer s H E f c' hr' => pe_clX R.myN hr' rfl (L2N.passes_call (L2N.takes_of rfl rfl rfl rfl) (fun _ _ _ _ z => z)) (pa_cons (pv 12) (pa_cons (pv 11) pa_nil)))) pa_nil)))
      (pss_cons (ps_expr (pe_bm PySem.F.plainAttrs_list PySem.F.slot_list_append PySem.F.type_list_append mt_append (pv 9) (pa_cons (pe_lamN (T := T) (TT := TTerr K c bR bK bP) (k := 4) rfl mE kE lE cE bE scError rfl (Or.inl rfl)
            (gives_err FC bC gC FF bFf gFf R.gc R.g1 R.g2 R.g3 R.hIs R.hL R.hVE R.hLE R.hAE) TB rfl hTm hTu hr6 (lamS_by (show lamSB (defScope sRight) _ = true by decide +kernel)) rfl (fun _ _ _ _ _ => rfl)
            (fun A outer s H E f c' hr' => pe_clX R.fgN hr' rfl (L2N.passes_call (L2N.takes_of rfl rfl rfl rfl) (fun _ _ _ _ z => z)) (pa_cons (pv 12) pa_nil))) pa_nil)))
      (pss_one (ps_ret (pe_cmpR (op_eqD hr.units) (pe_lc (own := [("_law_each", 15)]) (g := gName 15) (tt := tYes) rfl scR9.nd (pi_list (pv 9)) (blkOk_by (N := nR9) (sc := defScope sRight) (by decide +kernel)) (fun _ _ _ _ _ => pg_name (i := 15) scR9.nd rfl (Or.inl rfl)) (fun _ _ _ _ _ => pts_nil)
              (fun _ _ _ _ _ => pe_callB (call_reprLK (K := K) rfl hgd hr.units) (by rfl) R.hRe (by decide +kernel) (pa_cons (pv 15) pa_nil)))
            (pe_op op_rep (pe_lst (pa_cons (pe_callB (call_reprL hgd hr.units) (by rfl) R.hRe (by decide +kernel) (pa_cons (pe_lst (pa_cons pe_str (pa_cons (pv 12) pa_nil))) pa_nil)) pa_nil)) pe_int) (by rfl))))))) ?iEnd))) ?iTail))))))) ?iMid)))), ?_⟩
    case iOdd =>
      rintro σ H Q ⟨y, dy, v0, v1, v2, v3, v4, v5, v6, v7, v8, v9, v10, rfl, hd, k⟩
      obtain ⟨ty, hty, k1, k2, _⟩ := sh_kit hd
      refine ⟨_, rfl, y, .ty "int", ty, .type "int", isI dy, rfl, .ty _, hty, k1, _, rfl, ?_⟩
      cases hI : isI dy with
      | false =>
        have e : inb dy 0 1000 = false := by
          match dy, hI with
          | .none, _ => rfl
          | .str _, _ => rfl
          | .list _, _ => rfl
          | .tuple _, _ => rfl
          | .dict _, _ => rfl
        rw [e] at k
        exact iteT k
      | true =>
        refine iteF ⟨_, rfl, y, .ty "bool", ty, .type "bool", isB dy, rfl, .ty _, hty, k2, _, rfl, ?_⟩
        cases hB : isB dy with
        | true =>
          have e : inb dy 0 1000 = false := by
            match dy, hB with
            | .bool _, _ => rfl
          rw [e] at k
          exact iteT k
        | false =>
          match dy, hd, hI, hB, k with
          | .int i, hd, _, _, k =>
            obtain rfl := sh_int hd
            refine iteF ⟨_, rfl, _, _, rfl, rfl, _, rfl, ?_⟩
            have e : inb (.int i) 0 1000 = (decide ((0 : Int) ≤ i) && decide (i ≤ 1000)) := rfl
            rw [e] at k
            by_cases h1 : (0 : Int) ≤ i
            · rw [decide_eq_true h1, Bool.true_and] at k
              refine ite2 (fun c => ⟨_, _, rfl, rfl, _, rfl, k⟩) (fun c => absurd (decide_eq_true h1) c)
            · rw [decide_eq_false h1, Bool.false_and] at k
              refine ite2 (fun c => absurd (of_decide_eq_true c) h1) (fun c => ⟨_, rfl, k⟩)
    case iEnd =>
      rintro D σ H1 ⟨p, q, a, x, ws, fs, kvs, y, v2, v3, v4, v5, v6, v7, v8, rfl, I1, sh, fine, kD⟩
      refine ⟨_, rfl, _, rfl, p, rfl, I1.wl, fun v d H2 hd shd hW2 s12 => ?_⟩
      have I2 := I1.sb (sb_of_del9 s12) hW2
      clear I1 s12
      obtain ⟨dx, M, G, D0, r1, r2, r3, r4⟩ := id I2.ru
      refine ⟨_, rfl, a, dx, _, rfl, r1, a, dx, _, .str (textL x ws fs kvs), rfl, r1, rfl, by show 2 ≤ sizeLine; decide, fun l hl => ?_⟩
      have I3 := I2.same (same_new (o := .lst [v, .str (textL x ws fs kvs)]) hl)
      refine ⟨p, l, _, rfl, I3.wl, hW2.new hl, upd_same, by show 0 < 2; decide, by show 2 ≤ 1000; decide, fun j z o2 hj hW4 => ?_⟩
      have I4 := I3.sb (Sb.upd_ (o := o2)) hW4
      have dB : Same (del H2 p) (del (upd (upd H2 l (.lst [v, .str (textL x ws fs kvs)])) p o2) p) := Same.trans (same_del (same_new hl)) same_del_upd
      obtain ⟨dz, gdz, shz⟩ : ∃ dz, Gdw "rule" dz ∧ Sh K (del (upd (upd H2 l (.lst [v, .str (textL x ws fs kvs)])) p o2) p) z dz := match j, hj with
        | 0, hj => by cases hj; exact ⟨d, menu_gdr d hd, Sh.ext (ExtN.of dB) shd⟩
        | 1, hj => by cases hj; exact ⟨.str (textL x ws fs kvs), gdr_str (text_low fine) (text_small sh), .fl (.str _)⟩
        | j + 2, hj => by simp at hj
      clear I3 I2 hW4 hj dB shd hd hW2 r1 r2 r3 r4
      show tSeq _ _ _ _ _
      generalize upd (upd H2 l (.lst [v, .str (textL x ws fs kvs)])) p o2 = H4 at I4 shz ⊢
      clear hl
      refine ⟨I4.tb, fun HF xF tF => ?_⟩
      have I5 := I4.ext xF tF
      have sh5 := Sh.ext (Kp.cut (p := p) (Kp.ext xF)) shz
      clear I4 shz xF tF
      obtain ⟨ty5, hty5, hk5⟩ := sh_noU R.nou (Sh.ext ext_of_del sh5)
      refine ⟨_, rfl, _, rfl, z, y, ty5, rfl, hty5, hk5, fun da HG sG ea => ⟨CR, da, 7, _, z, rfl, rfl, R.EC7, ea, rfl, fun la HI sI eI => ?_⟩⟩
      have eI' : HI la = some (.lst [.str "rule", z]) := eI
      refine ⟨by show 1 ≤ sizeLine; decide, fun l3 h3 => ?_⟩
      have sJ : Same HF (upd HI l3 (.lst [.ref la])) := (sG.trans sI).trans (same_new h3)
      have I6 := I5.same sJ
      have sh6 := Sh.ext (ExtN.of (same_del (p := p) sJ)) sh5
      have eJ : upd HI l3 (.lst [.ref la]) la = some (.lst [.str "rule", z]) := keep1 eI' h3
      have e3J : upd HI l3 (.lst [.ref la]) l3 = some (.lst [.ref la]) := upd_same
      have n3F : HF l3 = none := by
        cases e : HF l3 with
        | none => rfl
        | some o => rw [(sG.trans sI) _ _ e] at h3; cases h3
      have kJ : Kp p HF (upd HI l3 (.lst [.ref la])) := Kp.of sJ
      show tSeq _ _ _ _ _
      generalize upd HI l3 (.lst [.ref la]) = HJ at I6 sh6 eJ e3J kJ ⊢
      clear eI eI' h3 sI ea sG sJ
      refine ⟨_, rfl, .inl ⟨rfl, _, SqL.of e3J⟩, I6.tb, fun HK xK tK => ?_⟩
      have I7 := I6.ext xK tK
      have sh7 := Sh.ext (Kp.cut (p := p) (Kp.ext xK)) sh6
      have eK := xK _ _ eJ fun _ z => by cases z
      have e3K := xK _ _ e3J fun _ z => by cases z
      obtain ⟨ty7, hty7, hk7⟩ := sh_noU R.nou (Sh.ext ext_of_del sh7)
      refine ⟨_, rfl, z, ty7, rfl, hty7, hk7, fun db HL sL eb => ⟨CR, db, 7, _, z, rfl, rfl, R.EC7, eb, rfl, fun lb HM sM eM => ?_⟩⟩
      have eM' : HM lb = some (.lst [.str "rule", z]) := eM
      have sLM := sL.trans sM
      refine ⟨l3, _, _, rfl, rfl, sLM _ _ e3K, by show 1 < sizeLine; decide, ?_⟩
      have I8 := I7.same sLM
      have sh8 := Sh.ext (ExtN.of (same_del (p := p) sLM)) sh7
      have e3M := sLM _ _ e3K
      have eKM := sLM _ _ eK
      have na : la ≠ l3 := ne_of eK e3K (by intro z; cases z)
      have nb : lb ≠ l3 := ne_of eM' e3M (by intro z; cases z)
      have kM : Kp p HF HM := (kJ.trans (Kp.ext xK)).trans (Kp.of sLM)
      have np : l3 ≠ p := I5.wl.new n3F
      have wlM := I8.wl
      have tbM := I8.tb
      clear I7 sh7 xK tK eK e3K eJ e3J sL sM sLM I6 sh6 hty7 hk7 hty5 hk5 kJ I8 sh8
      have kN : Kp p HF (upd HM l3 (.lst ([.ref la] ++ [.ref lb]))) := fun b o n1 n2 e => by
        rw [upd_ne (ne_of_none e n3F)]
        exact kM b o n1 n2 e
      have tN : Tabs T (upd HM l3 (.lst ([.ref la] ++ [.ref lb]))) := Tabs.off tbM e3M
      have wN : Wl (upd HM l3 (.lst ([.ref la] ++ [.ref lb]))) p := wlM.upd_ np
      have kpN := I5.kp.trans kN
      have shN := Sh.ext (Kp.cut (p := p) kN) sh5
      have eN : ∀ z' ∈ [la, lb], upd HM l3 (.lst ([.ref la] ++ [.ref lb])) z' = some (.lst [.str "rule", z]) := fun z' hz => by
        simp only [List.mem_cons, List.not_mem_nil, or_false] at hz
        rcases hz with rfl | rfl
        · rw [upd_ne na]; exact eKM
        · rw [upd_ne nb]; exact eM'
      have e3N : upd HM l3 (.lst ([.ref la] ++ [.ref lb])) l3 = some (.lst ([la, lb].map V.ref)) := upd_same
      generalize upd HM l3 (.lst ([.ref la] ++ [.ref lb])) = HN at kpN tN wN eN e3N shN ⊢
      clear na nb np e3M eM' eKM kM wlM tbM kN n3F I5 sh5
      have shN' : Sh K HN z dz := Sh.ext ext_of_del shN
      generalize eS : (PyData.list [.str "rule", dz]).shown = S
      have okS : ∀ w ∈ [S, S], PyData.strOk w = true := fun w hw => by
        have : w = S := by simpa using hw
        rw [this, ← eS]; exact gdz.ok
      refine ⟨_, rfl, l3, rfl, ⟨_, SqL.of e3N⟩, fun D1 hD1 => ?_⟩
      refine lcG [la, lb] (fun _ => some (.str S)) (walk_listL [la, lb] V.ref) (by show 2 ≤ 16000000; decide) hD1 (fun i H x H' h => by rw [h.1]; exact Same.refl _) (fun H' s => SqL.of (s _ _ e3N)) (fun i z' u H' H'' k1 hz s1 hy k2 => ?_) (fun HO sO eO => ?_)
      · obtain ⟨rfl, hy⟩ := hy
        obtain rfl := map_get hz hy
        refine ⟨rfl, _, rfl, z', [.str "rule", dz], rfl, .lst (SqL.of (s1 _ _ (eN z' (List.mem_of_getElem? hz)))) (.cons (.fl (.str _)) (.cons (Sh.ext (ExtN.of s1) shN') .nil)), gdz.sh, gdz.ln, gdz.dp, ?_⟩
        rw [eS]
        exact k2 _ (Same.refl _)
      · have eO' : HO D1 = some (.lst ([S, S].map V.str)) := eO
        refine ⟨_, rfl, by show 2 ≤ sizeLine; decide, fun l4 h4 => ⟨l4, [.str "rule", dz], rfl, .lst (SqL.of upd_same) (.cons (.fl (.str _)) (.cons (Sh.ext (ExtN.of (sO.trans (same_new h4))) shN') .nil)), gdz.sh, gdz.ln, gdz.dp, ?_⟩⟩
        rw [eS]
        refine ⟨by show 1 ≤ sizeLine; decide, fun l5 h5 => ⟨l5, 2, _, rfl, rfl, upd_same, by decide, by decide, by show 2 ≤ sizeLine; decide, fun l6 h6 => ?_⟩⟩
        refine ⟨_, _, dp_dTx (keep1 (keep1 (keep1 eO' h4) h5) h6), dp_dTx (ws := [S, S]) upd_same, shaped_dTx okS, shaped_dTx okS, ?_⟩
        rw [eqv_dTx, decide_eq_true rfl]
        have sF := ((sO.trans (same_new h4)).trans (same_new h5)).trans (same_new (o := .lst (List.replicate (2 : Int).toNat [.str S]).flatten) h6)
        exact kD _ (kpN.trans (Kp.of sF)) (Tabs.ext tN sF)
    case iTail =>
      rintro D σ H1 ⟨p, q, a, x, ws, fs, kvs, v2, v3, v4, v5, v6, v7, v8, rfl, I1, sh, fine, kD⟩
      refine ⟨_, rfl, _, rfl, p, rfl, I1.wl, fun v d H2 hd shd hW2 s12 => ?_⟩
      have I2 := I1.sb (sb_of_del9 s12) hW2
      clear I1 s12
      refine ⟨1, rfl, by show 5 ≤ sizeLine; decide, fun l hl => ?_⟩
      have I3 := I2.same (same_new (o := .lst [v, .int 1001, .int (-1), .bl true, .str "3"]) hl)
      refine ⟨p, l, _, rfl, I3.wl, hW2.new hl, upd_same, by show 0 < 5; decide, by show 5 ≤ 1000; decide, fun j y o2 hj hW4 => ?_⟩
      have I4 := I3.sb (Sb.upd_ (o := o2)) hW4
      have dB : Same (del H2 p) (del (upd (upd H2 l (.lst [v, .int 1001, .int (-1), .bl true, .str "3"])) p o2) p) := Same.trans (same_del (same_new hl)) same_del_upd
      obtain ⟨dy, hdy, shy⟩ : ∃ dy, dy ∈ menu2 ∧ Sh K (del (upd (upd H2 l (.lst [v, .int 1001, .int (-1), .bl true, .str "3"])) p o2) p) y dy := match j, hj with
        | 0, hj => by cases hj; exact ⟨d, List.mem_append_left _ hd, Sh.ext (ExtN.of dB) shd⟩
        | 1, hj => by cases hj; exact ⟨.int 1001, List.mem_append_right _ (by simp), .fl (.int _)⟩
        | 2, hj => by cases hj; exact ⟨.int (-1), List.mem_append_right _ (by simp), .fl (.int _)⟩
        | 3, hj => by cases hj; exact ⟨.bool true, List.mem_append_right _ (by simp), .fl (.bl _)⟩
        | 4, hj => by cases hj; exact ⟨.str "3", List.mem_append_right _ (by simp), .fl (.str _)⟩
        | j + 5, hj => by simp at hj
      clear I3 I2 hW4 hj dB shd hd hW2
      show tSeq _ _ _ _ _
      generalize upd (upd H2 l (.lst [v, .int 1001, .int (-1), .bl true, .str "3"])) p o2 = H4 at I4 shy ⊢
      clear hl
      refine ⟨y, dy, _, _, _, _, _, _, _, _, _, _, _, rfl, Sh.ext ext_of_del shy, ?_⟩
      cases hb : inb dy 0 1000 with
      | true => exact iteF ⟨p, q, a, x, ws, fs, kvs, y, _, _, _, _, _, _, _, rfl, I4, sh, fine, kD⟩
      | false =>
        have gdy := menu2_gd dy hdy
        refine iteT ⟨I4.tb, fun HF xF tF => ?_⟩
        have I5 := I4.ext xF tF
        have sh5 := Sh.ext (Kp.cut (p := p) (Kp.ext xF)) shy
        clear I4 shy xF tF
        refine ⟨_, rfl, _, rfl, a, _, _, y, dy, rfl, I5.ru, Sh.ext ext_of_del sh5, hb, fun da HG sG ea => ⟨CN, da, 3, _, y, rfl, rfl, R.EC3, ea, rfl, fun la HI sI eI => ?_⟩⟩
        have eI' : HI la = some (.lst [.str "number", y]) := eI
        have I6 := I5.same (sG.trans sI)
        have sh6 := Sh.ext (ExtN.of (same_del (p := p) (sG.trans sI))) sh5
        refine ⟨la, [.str "number", dy], rfl, .lst (SqL.of eI') (.cons (.fl (.str _)) (.cons (Sh.ext ext_of_del sh6) .nil)), gdy.sh, gdy.ln, gdy.dp, ?_⟩
        refine ⟨_, rfl, by show 2 ≤ sizeLine; decide, fun l4 h4 => ?_⟩
        have I7 := I6.same (same_new (o := .lst [.str "number", y]) h4)
        have sh7 := Sh.ext (ExtN.of (same_del (p := p) (same_new (o := .lst [.str "number", y]) h4))) sh6
        refine ⟨l4, [.str "number", dy], rfl, .lst (SqL.of upd_same) (.cons (.fl (.str _)) (.cons (Sh.ext ext_of_del sh7) .nil)), gdy.sh, gdy.ln, gdy.dp, ?_⟩
        refine ⟨rfl, _, rfl, ?_⟩
        refine if_false_of (ne_self9 _) ?_
        exact ⟨p, q, a, x, ws, fs, kvs, y, _, _, _, _, _, _, _, rfl, I7, sh, fine, kD⟩
    case iDue =>
      rintro σ H Q ⟨D, rs, v0, v1, v2, v3, v4, v5, v6, v8, v9, v10, v11, v12, rfl, eD, lr, lm, k1⟩
      refine ⟨_, rfl, by show 0 ≤ sizeLine; decide, fun l0 h0 => ⟨D, l0, _, rfl, rfl, SqL.of (keep1 eD h0), SqL.of upd_same, _, rfl, ?_⟩⟩
      have s1 := same_new (o := .lst []) h0
      have eD1 := keep1 (o := .lst []) eD h0
      generalize upd H l0 (.lst []) = H1 at s1 eD1 ⊢
      clear h0
      cases rs with
      | nil => exact iteF (k1 none H1 s1 rfl)
      | cons r0 rs0 =>
        refine iteT ?_
        generalize ers : r0 :: rs0 = rs at eD1 lr lm k1
        have hne : rs ≠ [] := by rw [← ers]; simp
        clear ers
        refine ⟨_, rfl, D, rfl, ⟨_, SqL.of eD1⟩, fun D2 hD2 => ?_⟩
        refine lcTupF rs (fun _ => true) (fun r => [V.int ((r.length : Nat) : Int), V.str (rT r)]) (walk_listL rs fun r => V.str (rT r)) (by omega) hD2 (fun i H x H' h => by rw [h.1]; exact Same.refl _) (fun H' s => SqL.of (s _ _ eD1)) (fun i r x H' H'' kk kn hr s5 hy y1 y2 => ?_) (fun H5 zs s5 eL em hz => ?_)
        · obtain ⟨rfl, hy⟩ := hy
          obtain rfl := map_get hr hy
          have r4 := lm r (List.mem_of_getElem? hr)
          have zr : (rT r).length = r.length := List.size_toArray ..
          refine ⟨rfl, _, rfl, rT r, rfl, by rw [zr, sizeLine_eq]; omega, _, rfl, by show 2 ≤ sizeLine; decide, fun t ht => ?_⟩
          refine y1 rfl t _ (same_new ht) ?_
          rw [upd_same, zr]
        · have ft : rs.filter (fun _ => true) = rs := List.filter_eq_self.mpr fun _ _ => rfl
          rw [ft] at em
          refine ⟨D2, refsF zs, rs, rfl, SqL.of eL, tups_dp em hz, hne, fun i y r hy hr hl => ?_⟩
          unfold refsF at hy
          rw [List.getElem?_map] at hy
          obtain ⟨z, hzi, rfl⟩ := Option.map_eq_some_iff.mp hy
          have ez : z.2 = [V.int ((r.length : Nat) : Int), V.str (rT r)] := by
            have := congrArg (fun l : List (List V) => l[i]?) em
            simp only [List.getElem?_map, hzi, hr] at this
            exact Option.some.inj this
          have et := hz z (List.mem_of_getElem? hzi)
          rw [ez] at et
          exact ⟨z.1, _, _, V.str (rT r), rfl, rfl, SqT.of et, atI_nat (j := 1) rfl, k1 (some r) _ (s1.trans s5) ⟨List.mem_of_getElem? hr, hl⟩⟩
    case iMid =>
      rintro D σ H1 ⟨p, q, a, x, ws, fs, kvs, v2, v3, v4, rfl, I1, sh, fine, kD⟩
      have pok := parts_ok (fine_parse fine)
      refine ⟨_, rfl, _, rfl, p, 100, rfl, I1.wl, by decide, by decide, fun d o d0 d1 hW2 => ?_⟩
      have I2 := I1.sb (Sb.upd_ (o := o)) hW2
      clear I1 hW2
      generalize upd H1 p o = H2 at I2 ⊢
      refine ⟨by show 5 ≤ sizeLine; decide, fun l hl => ?_⟩
      have I3 := I2.same (same_new (o := .lst [.int 7, .int 20, .int 60, .int 1000, .int d]) hl)
      refine ⟨p, l, _, rfl, I3.wl, I2.wl.new hl, upd_same, by show 0 < 5; decide, by show 5 ≤ 1000; decide, fun j y o2 hj hW4 => ?_⟩
      obtain ⟨n, rfl, hn⟩ : ∃ n : Nat, y = .int (n : Int) ∧ n ≤ 1000 := match j, hj with
        | 0, hj => by cases hj; exact ⟨7, rfl, by decide⟩
        | 1, hj => by cases hj; exact ⟨20, rfl, by decide⟩
        | 2, hj => by cases hj; exact ⟨60, rfl, by decide⟩
        | 3, hj => by cases hj; exact ⟨1000, rfl, by decide⟩
        | 4, hj => by cases hj; exact ⟨d.toNat, by rw [Int.toNat_of_nonneg d0], by omega⟩
        | j + 5, hj => by simp at hj
      have I4 := I3.sb (Sb.upd_ (o := o2)) hW4
      clear I3 I2 hW4 hl hj
      show tSeq _ _ _ _ _
      generalize upd (upd H2 l (.lst [.int 7, .int 20, .int 60, .int 1000, .int d])) p o2 = H4 at I4 ⊢
      refine ⟨_, rfl, _, rfl, rfl, a, _, _, n, rfl, I4.ru, pok, hn, fun H5 s5 => ?_⟩
      have I5 := I4.same s5
      refine ⟨_, rfl, _, rfl, q, _, kvs, n, rfl, I5.sk, pok, fine.led, hn, fun H6 s6 => ⟨rfl, _, rfl, ?_⟩⟩
      refine if_false_of (ne_self9 _) ?_
      have I6 := I5.same s6
      clear I4 I5 s5 s6
      refine ⟨_, rfl, _, rfl, q, _, kvs, rfl, I6.sk, pok, fine.led, fun d L H7 s7 ed bo => ?_⟩
      have I7 := I6.same s7
      clear I6 s7
      have lL := bo.few pok
      obtain ⟨lw, lf, g, e1, e2, e3, e4⟩ := id I7.sk
      have nqd : q ≠ d := ne_of e1 ed (by intro z; cases z)
      have nfd : lf ≠ d := ne_of e3 ed (by intro z; cases z)
      refine ⟨d, _, ed, trivial, fun od => ?_⟩
      have lD : upd H7 d (.frz od (.dT (bD L))) d = some (.frz od (.dT (bD L))) := upd_same
      have off : ∀ b o, b ≠ d → H7 b = some o → upd H7 d (.frz od (.dT (bD L))) b = some o := fun b o n e => by rw [upd_ne n]; exact e
      have e1f := off _ _ nqd e1
      have e3f := off _ _ nfd e3
      generalize upd H7 d (.frz od (.dT (bD L))) = HF at lD off e1f e3f ⊢
      refine ⟨_, rfl, d, od, rfl, .inr ⟨_, lD, fun D1 hD1 => ?_⟩⟩
      have wk : Walk (Itkt d od (bD L)) L.length (fun H => H d = some (.frz od (.dT (bD L)))) (fun i H x H' => H' = H ∧ ∃ (k : List Key) (v : V) (q : Addr), (bD L)[i]? = some (k, v) ∧ x = .ref q ∧ H q = some (.tup (k.map L2.kV))) := by
        have := walk_keysT (d := d) (o := od) (kvs := bD L)
        rw [List.length_map] at this
        exact this
      have nD1d : D1 ≠ d := fun z => by rw [z, lD] at hD1; cases hD1
      refine lcG L (fun z => if gk ⟨x, ws, fs, rsL x ws kvs⟩ z = true then some (V.str (rT z.2)) else none) wk (by omega) hD1 (fun i H x H' h => by rw [h.1]; exact Same.refl _) (fun H' s => s _ _ lD) (fun i z y H' H'' k1 hz s8 hy k2 => ?_) (fun H8 s8 eD8 => ?_)
      · obtain ⟨rfl, key, v, t, hk, rfl, et⟩ := hy
        rw [List.getElem?_map, hz] at hk
        have hk := Option.some.inj hk
        injection hk with hk1 hk2
        subst hk1 hk2
        have zm := List.mem_of_getElem? hz
        have ek := bo.key zm
        have kk := k2 _ (Same.refl _)
        have et' : _ = some (HO.tup (List.map L2.kV z.1)) := et
        rw [ek] at et'
        have eg : gk ⟨x, ws, fs, rsL x ws kvs⟩ z = decide (walkL ⟨x, ws, fs, rsL x ws kvs⟩ (firstL ⟨x, ws, fs, rsL x ws kvs⟩) z.2 ∈ fs) := by
          unfold gk
          rw [ek]
        refine ⟨rfl, _, rfl, t, _, _, V.str (walkL ⟨x, ws, fs, rsL x ws kvs⟩ (firstL ⟨x, ws, fs, rsL x ws kvs⟩) z.2), rfl, rfl, SqT.of et', atI_nat (j := 0) rfl, _, rfl, q, _, _, V.ref lf, rfl, rfl, SqL.of (s8 _ _ e1f), atI_nat (j := 2) rfl, lf, _, rfl, .inl (SqL.of (s8 _ _ e3f)), rfl, flat_strs _, _, rfl, ?_⟩
        rw [in_strs, ← eg, show (if false = true then !gk ⟨x, ws, fs, rsL x ws kvs⟩ z else gk ⟨x, ws, fs, rsL x ws kvs⟩ z) = gk ⟨x, ws, fs, rsL x ws kvs⟩ z from rfl]
        refine ite2 (fun b => ?_) (fun b => ?_)
        · rw [if_pos b] at kk
          refine ⟨_, rfl, _, rfl, d, V.str (rT z.2), rfl, .inr ⟨_, z.1, t, .inr ⟨od, s8 _ _ lD⟩, rfl, et, (bD_at bo.nd zm).symm⟩, kk⟩
        · rw [if_neg b] at kk
          exact kk
      rw [fm_if] at eD8
      refine ⟨s8 _ _ lD, ?_⟩
      have s78 : Same H7 (upd H8 d (.dT (bD L))) := fun b o e => by
        by_cases hb : b = d
        · subst hb
          rw [upd_same]
          exact ed.symm.trans e
        · rw [upd_ne hb]
          exact s8 _ _ (off _ _ hb e)
      have I8 := I7.same s78
      have eD9 : upd H8 d (.dT (bD L)) D1 = some (.lst ((L.filter (gk ⟨x, ws, fs, rsL x ws kvs⟩)).map fun z => V.str (rT z.2))) := by rw [upd_ne nD1d]; exact eD8
      show tSeq _ _ _ _ _
      generalize upd H8 d (.dT (bD L)) = H9 at I8 eD9 ⊢
      clear s78 s8 eD8 hD1 wk off e1f e3f lD e1 e2 e3 e4 I7 ed
      have em : ((L.filter (gk ⟨x, ws, fs, rsL x ws kvs⟩)).map fun z => V.str (rT z.2)) = ((L.filter (gk ⟨x, ws, fs, rsL x ws kvs⟩)).map (·.2)).map fun r => V.str (rT r) := by rw [List.map_map]; rfl
      rw [em] at eD9
      refine ⟨D1, (L.filter (gk ⟨x, ws, fs, rsL x ws kvs⟩)).map (·.2), _, _, _, _, _, _, _, _, _, _, _, _, rfl, eD9, by rw [List.length_map]; exact Nat.le_trans (List.length_filter_le _ _) lL, fun r hr => ?_, fun o H10 s10 ho => ?_⟩
      · obtain ⟨z, hz, rfl⟩ := List.mem_map.mp hr
        obtain ⟨i, hi⟩ := List.mem_iff_getElem?.mp (List.mem_filter.mp hz).1
        have := bo.len i z hi
        have := (List.getElem?_eq_some_iff.mp hi).1
        omega
      have hfo := due_first bo ho
      have I10 := I8.same s10
      clear I8 s10 eD9 ho em
      refine ⟨_, rfl, a, _, _, rfl, I10.tb, I10.ru, pok, fun o1 H11 eN T11 ho1 => ?_⟩
      obtain rfl := ho1.uniq hfo
      have I11 := I10.ext eN T11
      refine ⟨_, rfl, scal_rows _ _, _, rfl, ?_⟩
      refine if_false_of (ne_self9 _) ?_
      refine ⟨_, rfl, rfl, a, _, _, rfl, I11.tb, I11.ru, pok, fun o2 H12 eN2 T12 ho2 => ?_⟩
      obtain rfl := ho2.uniq hfo
      have I12 := I11.ext eN2 T12
      refine ⟨_, rfl, scal_rows _ _, _, rfl, ?_⟩
      refine if_false_of (ne_self9 _) ?_
      exact ⟨p, q, a, x, ws, fs, kvs, _, _, _, _, _, _, _, rfl, I12, sh, fine, kD⟩
    refine ⟨_, rfl, p, 6, rfl, hW, by decide, by decide, fun q x ws fs kvs H1 sk s1 hW1 hS1 => ?_⟩
    have fine := sk.fine (by decide)
    have sh := fine.short (Nat.le_trans sk.l2 (by decide))
    have hT1 := Tabs.sb_ hT hW s1
    refine ⟨_, rfl, q, x, ws, fs, kvs, rfl, hS1, sh, fine, fun a H2 s2 hR => ?_⟩
    have I2 : In9 T CU p q a x ws fs kvs H H2 := ⟨(Kp.sb s1).trans (Kp.of s2), hW1.same s2, Tabs.ext hT1 s2, hS1.same s2, hR⟩
    clear hT1 s1 hW1 hS1 s2 hR hT hW
    obtain ⟨lw, lf, g, e1, e2, e3, e4⟩ := id I2.sk
    refine ⟨_, rfl, q, _, _, V.str x, rfl, rfl, SqL.of e1, atI_nat (j := 0) rfl, x, 4, rfl, sh.hx, by decide, fun ll H3 s3 el3 => ?_⟩
    have I3 := I2.same s3
    clear I2 s3 e1 e2 e3 e4
    refine ⟨by show 2 ≤ sizeLine; decide, fun tt htt => ?_⟩
    refine ⟨tt, [.ref a, .ref ll], rfl, SqT.of upd_same, rfl, _, _, rfl, _, _, rfl, rfl, ?_⟩
    have I4 := I3.same (same_new (o := .tup [.ref a, .ref ll]) htt)
    have el4 := keep1 (o := .tup [.ref a, .ref ll]) el3 htt
    show tSeq _ _ _ _ _
    generalize upd H3 tt (.tup [.ref a, .ref ll]) = H4 at I4 el4 ⊢
    clear I3 el3 htt
    have hx3 : x.cps.toList.length ≤ 3 := by rw [Array.length_toList]; exact sh.hx
    have lall := allX_len hx3 4 (by decide)
    have pok := parts_ok (fine_parse fine)
    refine ⟨_, rfl, ll, rfl, ⟨_, SqL.of el4⟩, fun D hD => ?_⟩
    refine lcG (allX x.cps.toList 4) (fun r => if gX kvs ws fs r = true then some (V.str (rT r)) else none) (walk_listL (allX x.cps.toList 4) fun r => V.str (rT r)) (by omega) hD (fun i H x H' h => by rw [h.1]; exact Same.refl _) (fun H' s => SqL.of (s _ _ el4)) (fun i r y H' H'' k1 hr s5 hy k2 => ?_) (fun H5 s5 eD => ?_)
    · obtain ⟨rfl, hy⟩ := hy
      obtain rfl := map_get hr hy
      have hr4 := (allX_mem 4 r (List.mem_of_getElem? hr)).2
      refine ⟨rfl, _, rfl, _, rfl, q, x, ws, fs, kvs, rT r, rfl, I4.sk.same s5, fine, hr4, fun H6 s6 => ⟨_, rfl, ?_⟩⟩
      have kk := k2 _ s6
      refine ite2 (fun b => ?_) (fun b => ?_)
      · rw [if_pos (show gX kvs ws fs r = true from b)] at kk
        exact ⟨_, rfl, kk⟩
      · rw [if_neg (show ¬ gX kvs ws fs r = true from b)] at kk
        exact kk
    rw [fm_if] at eD
    have I5 := I4.same s5
    clear I4 s5 el4 hD
    generalize hF : (allX x.cps.toList 4).filter (gX kvs ws fs) = F at eD
    have lF : F.length ≤ 200 := by rw [← hF]; exact Nat.le_trans (List.length_filter_le _ _) lall
    have mF : ∀ r ∈ F, r.length ≤ 4 := fun r hr => by rw [← hF] at hr; exact (allX_mem 4 r (List.mem_filter.mp hr).1).1
    refine ⟨5, rfl, by decide, by decide, ?_⟩
    refine for_range (lo := 0) (n := 5) (fun i σ H' => (∃ v4, σ = [some (.ref p), some (.ref q), some (.ref ll), some (.ref D), v4, none, none, none, none, none, some (.ref a), none, none, none, none, none]) ∧ In9 T CU p q a x ws fs kvs H H' ∧ H' D = some (.lst (F.map fun r => V.str (rT r))))
      ⟨⟨_, rfl⟩, I5, eD⟩ (fun i σ H6 hi h => ?_) (fun σ H6 h => ?_)
    · obtain ⟨⟨v4, rfl⟩, I6, eD6⟩ := h
      refine ⟨_, rfl, _, rfl, a, _, _, i, (show [V.ref a, V.int (0 + (i : Int))] = [V.ref a, V.int (i : Int)] from by rw [Int.zero_add]), I6.ru, pok, by omega, fun H7 s7 => ?_⟩
      have I7 := I6.same s7
      have eD7 := s7 _ _ eD6
      clear I6 eD6 s7
      refine ⟨_, rfl, D, rfl, ⟨_, SqL.of eD7⟩, fun D2 hD2 => ?_⟩
      refine lcG F (fun r => if decide (r.length = i) = true then some (V.str (rT r)) else none) (walk_listL F fun r => V.str (rT r)) (by omega) hD2 (fun i H x H' h => by rw [h.1]; exact Same.refl _) (fun H' s => SqL.of (s _ _ eD7)) (fun j r y H' H'' k1 hr s8 hy k2 => ?_) (fun H8 s8 e8 => ?_)
      · obtain ⟨rfl, hy⟩ := hy
        obtain rfl := map_get hr hy
        have kk := k2 _ (Same.refl _)
        have r4 := mF r (List.mem_of_getElem? hr)
        have zr : (rT r).length = r.length := List.size_toArray ..
        refine ⟨rfl, _, rfl, rT r, rfl, by rw [zr, sizeLine_eq]; omega, _, rfl, rfl, _, rfl, ?_⟩
        have ed : decide (V.int (((rT r).length : Nat) : Int) = V.int (0 + (i : Int))) = decide (r.length = i) := by
          refine decide_eq_decide.mpr ⟨fun z => ?_, fun z => ?_⟩
          · injection z with z
            omega
          · rw [zr, z, Int.zero_add]
        rw [ed]
        refine ite2 (fun b => ?_) (fun b => ?_)
        · rw [if_pos b] at kk
          exact ⟨_, rfl, kk⟩
        · rw [if_neg b] at kk
          exact kk
      rw [fm_if] at e8
      refine ⟨D2, _, rfl, .inl (SqL.of e8), rfl, _, rfl, ?_⟩
      have em := many_all fine i (by omega)
      rw [hF] at em
      rw [List.length_map, em]
      refine if_false_of (ne_self9 _) ?_
      exact ⟨⟨_, rfl⟩, I7.same s8, s8 _ _ eD7⟩
    · obtain ⟨⟨v4, rfl⟩, I6, eD6⟩ := h
      exact ⟨p, q, a, x, ws, fs, kvs, _, _, _, rfl, I6, sh, fine, k⟩
end
end My
namespace L2
open PySem PySem.Spec PyProof.Rows
end L2
namespace My
open PySem PySem.Spec PyProof.Rows L2 PySem.GX
/-! two sample rules, and how many good rows they have -/
theorem parse_is {t : Str} {p : Parts} (h : (parseL t).map (fun p => (p.sg, p.ms, p.gs, p.rs)) = some (p.sg, p.ms, p.gs, p.rs)) : parseL t = some p := by
  cases e : parseL t with
  | none => rw [e] at h; cases h
  | some q =>
    rw [e] at h
    obtain ⟨a, b, c, d⟩ := q
    obtain ⟨a', b', c', d'⟩ := p
    simp only [Option.map_some, Option.some.injEq, Prod.mk.injEq] at h
    obtain ⟨rfl, rfl, rfl, rfl⟩ := h
    rfl
abbrev tV : Str := "signs ab\nmoods maa mab\ngood maa\nmaa a mab\nmaa b maa\nmab a maa\nmab b mab"
def pV : Parts := ⟨"ab", ["maa", "mab"], ["maa"], [["maa", "a", "mab"], ["maa", "b", "maa"], ["mab", "a", "maa"], ["mab", "b", "mab"]]⟩
theorem parV : parseL tV = some pV := parse_is (by decide +kernel)
abbrev tF : Str := "signs ab\nmoods maa mab mac\ngood maa mab\nmaa a mab\nmaa b maa\nmab a mac\nmab b maa\nmac a mac\nmac b mac"
def pF : Parts := ⟨"ab", ["maa", "mab", "mac"], ["maa", "mab"], [["maa", "a", "mab"], ["maa", "b", "maa"], ["mab", "a", "mac"], ["mab", "b", "maa"], ["mac", "a", "mac"], ["mac", "b", "mac"]]⟩
theorem parF : parseL tF = some pF := parse_is (by decide +kernel)
/-- a rule of this text is made -/
def spSample (C : Addr) (t : Str) (p : Parts) : Sp := fun vs H Q _ => vs = [] ∧ ∀ a H', Same H H' → H a = none → RuleAt H' C a t p → Q (.ref a) H'
theorem pe_cl0 {X : Cx} {k : Nat} {x : Str} {sp : Sp} {p pos : Pos} {E : XK} (h : Hv X.prog X.w X.K X.mg X.base k x [] sp) (hr : Room k X.A) (hg : Gl X x) (hx : Passes CX0 X E) (hdb : (x == ("__debug__" : Str)) = false := by decide) :
    PE X (.Call (.Name x p) [] [] pos) (tCall sp [] E tNil) := by
  obtain ⟨f, fd, F, b, g, kp⟩ := h.ex
  exact pe_call0 F hr hg g kp b .nil hx hdb
theorem made_end {H : Hp} {C x dx : Addr} {t : Str} {p : Parts} {Q : VK} (k : ∀ a H', Same H H' → H a = none → RuleAt H' C a t p → Q (.ref a) H') (nx : H x = none) (ndx : H dx = none) (ne : dx ≠ x) (zt : t.length ≤ 1000000) (ot : PyData.strOk t = true) (pt : parseL t = some p) :
    spInit C [.ref x, .str t] (upd (upd H dx (.own x)) x (.ins C dx [])) (fun v H2 => v = .non ∧ Q (.ref x) H2) E0 :=
  ⟨x, dx, t, p, rfl, upd_same, zt, ot, pt, fun H' keep r => ⟨rfl, k x H' (fun b o e => keep b o (ne_of_none e nx) (by rw [upd_ne (ne_of_none e nx), upd_ne (ne_of_none e ndx)]; exact e)) nx r⟩⟩
section
variable {P : Program} {w : World} {K : PySem.W.Frag} {mg : Str → Option Value} {base : Heap}
theorem scsEvenR : FnScope [] [] (defScope sEvenR) := ⟨rfl, rfl, rfl, by decide +kernel, rfl, by decide +kernel, by decide +kernel⟩
theorem ok_even_rule {f fI C : Addr} {fd fdI : FuncData} {tA : Tok} (F : Fun K "even_rule" "even_rule" sEvenR f fd) (MI : Mk K C fI) (GI : FnOk P w K mg base CX0 5 fI fdI ["self", "text"] (spInit C)) (bI : Binds K fdI ["self", "text"] []) (gI : mg "Rule" = some (.ref C)) (gT : mg "EVEN" = some (.str tV tA)) :
    FnOk P w K mg base CX0 7 f fd [] (spSample C tV pV) := by
  refine F.ok scsEvenR (fun vs H Q E h => by rw [h.1]; rfl) (fun cdv A outer s H vs Q E hr h => ?_)
  obtain ⟨rfl, k⟩ := h
  exact ⟨_, pss_one (ps_ret (pe_make MI GI hr rfl gI bI .nil pass0 (pa_cons (pe_glob (v := .str tV) rfl gT ⟨_, rfl⟩) pa_nil))), fun x dx nx ndx ne => made_end k nx ndx ne (by decide +kernel) (by decide +kernel) parV⟩
theorem scsFreeR : FnScope [] [] (defScope sFreeR) := ⟨rfl, rfl, rfl, by decide +kernel, rfl, by decide +kernel, by decide +kernel⟩
theorem ok_free_rule {f fI C : Addr} {fd fdI : FuncData} {tA : Tok} (F : Fun K "free_rule" "free_rule" sFreeR f fd) (MI : Mk K C fI) (GI : FnOk P w K mg base CX0 5 fI fdI ["self", "text"] (spInit C)) (bI : Binds K fdI ["self", "text"] []) (gI : mg "Rule" = some (.ref C)) (gT : mg "FREE" = some (.str tF tA)) :
    FnOk P w K mg base CX0 7 f fd [] (spSample C tF pF) := by
  refine F.ok scsFreeR (fun vs H Q E h => by rw [h.1]; rfl) (fun cdv A outer s H vs Q E hr h => ?_)
  obtain ⟨rfl, k⟩ := h
  exact ⟨_, pss_one (ps_ret (pe_make MI GI hr rfl gI bI .nil pass0 (pa_cons (pe_glob (v := .str tF) rfl gT ⟨_, rfl⟩) pa_nil))), fun x dx nx ndx ne => made_end k nx ndx ne (by decide +kernel) (by decide +kernel) parF⟩
end
theorem ledV1 : ledL pV "maa" 97 = "mab" ∧ ledL pV "mab" 97 = "maa" ∧ ledL pV "maa" 98 = "maa" ∧ ledL pV "mab" 98 = "mab" := by decide +kernel
theorem ledF1 : ledL pF "maa" 97 = "mab" ∧ ledL pF "mab" 97 = "mac" ∧ ledL pF "mac" 97 = "mac" ∧ ledL pF "maa" 98 = "maa" ∧ ledL pF "mab" 98 = "maa" ∧ ledL pF "mac" 98 = "mac" := by decide +kernel
theorem prsF : prsL pF = [(("maa" : Str), 97), (("maa" : Str), 98), (("mab" : Str), 97), (("mab" : Str), 98), (("mac" : Str), 97), (("mac" : Str), 98)] := by decide +kernel
theorem prsV : prsL pV = [(("maa" : Str), 97), (("maa" : Str), 98), (("mab" : Str), 97), (("mab" : Str), 98)] := by decide +kernel
theorem nab : ¬ ("maa" : Str) = "mab" := by decide +kernel
theorem nba : ¬ ("mab" : Str) = "maa" := by decide +kernel
theorem nac : ¬ ("maa" : Str) = "mac" := by decide +kernel
theorem nbc : ¬ ("mab" : Str) = "mac" := by decide +kernel
theorem stepF (c : Str → Nat) : stepC pF c "maa" = c "maa" + c "mab" ∧ stepC pF c "mab" = c "maa" := by
  obtain ⟨l1, l2, l3, l4, l5, l6⟩ := ledF1
  rw [step_sum, step_sum, prsF]
  simp only [List.map_cons, List.map_nil, List.sum_cons, List.sum_nil, l1, l2, l3, l4, l5, l6]
  simp only [if_neg nab, if_neg nba, if_neg nac, if_neg nbc, if_true]
  omega
theorem stepV (c : Str → Nat) : stepC pV c "maa" = c "maa" + c "mab" ∧ stepC pV c "mab" = c "maa" + c "mab" := by
  obtain ⟨l1, l2, l3, l4⟩ := ledV1
  rw [step_sum, step_sum, prsV]
  simp only [List.map_cons, List.map_nil, List.sum_cons, List.sum_nil, l1, l2, l3, l4]
  simp only [if_neg nab, if_neg nba, if_true]
  omega
def fibL : Nat → Nat × Nat
  | 0 => (1, 2)
  | n + 1 => ((fibL n).2, (fibL n).1 + (fibL n).2)
theorem fib_cnt : ∀ n, (fibL n).1 = cntC pF n "maa" + cntC pF n "mab" ∧ (fibL n).2 = 2 * cntC pF n "maa" + cntC pF n "mab"
  | 0 => by decide +kernel
  | n + 1 => by
    obtain ⟨h1, h2⟩ := fib_cnt n
    obtain ⟨s1, s2⟩ := stepF (cntC pF n)
    show (fibL n).2 = stepC pF (cntC pF n) "maa" + stepC pF (cntC pF n) "mab" ∧ (fibL n).1 + (fibL n).2 = 2 * stepC pF (cntC pF n) "maa" + stepC pF (cntC pF n) "mab"
    rw [s1, s2]
    omega
theorem manyF (n : Nat) : manyN pF n = (fibL n).1 := by
  rw [(fib_cnt n).1]
  show cntC pF n "maa" + (cntC pF n "mab" + 0) = _
  omega
theorem even_cnt : ∀ n, cntC pV (n + 1) "maa" = 2 ^ n ∧ cntC pV (n + 1) "mab" = 2 ^ n
  | 0 => by decide +kernel
  | n + 1 => by
    obtain ⟨h1, h2⟩ := even_cnt n
    obtain ⟨s1, s2⟩ := stepV (cntC pV (n + 1))
    show stepC pV (cntC pV (n + 1)) "maa" = _ ∧ stepC pV (cntC pV (n + 1)) "mab" = _
    rw [s1, s2, h1, h2, Nat.pow_succ]
    omega
theorem manyV (n : Nat) : manyN pV (n + 1) = 2 ^ n := by
  show cntC pV (n + 1) "maa" + 0 = _
  rw [(even_cnt n).1]
  omega
theorem manyV0 : manyN pV 0 = 1 := by decide +kernel
end My
set_option pp.maxSteps 3000
namespace My
open PySem PySem.Spec PyProof.Rows L2 PySem.GX L2H LamX
/-! the law -/
abbrev NL : List Str := ["_law_script", "_law_told", "_law_first", "_law_second", "_law_turn", "_law_power"]
def spLaw (K : PySem.W.Frag) (T : List (Addr × Str)) : Sp := fun vs H Q _ => ∃ (a : Addr) (ns : List Int), vs = [.ref a] ∧ SqL K H a (ns.map V.int) ∧ ns.length ≤ 63 ∧ Tabs T H ∧ ∀ H', Q (.bl true) H'
theorem all_rep (n : Nat) : (List.replicate n true).all id = true := by
  induction n with
  | zero => rfl
  | succ n ih => rw [List.replicate_succ, List.all_cons, ih]; rfl
theorem rep_snoc {α : Type} (n : Nat) (x : α) : List.replicate n x ++ [x] = List.replicate (n + 1) x := by
  rw [List.replicate_succ']
theorem sq_ext {K : PySem.W.Frag} {H H' : Hp} {a : Addr} {xs : List V} (s : ExtN H H') (h : SqL K H a xs) : SqL K H' a xs := by
  rcases h with (h | ⟨o, h⟩) | h
  · exact .inl (.inl (s _ _ h fun _ z => by cases z))
  · exact .inl (.inr ⟨o, s _ _ h fun _ z => by cases z⟩)
  · exact .inr h
def dL4 (a b : Int) : PyData := .list [.int a, .int b, .int 1, .str ""]
theorem shaped_L4 (a b : Int) : SeqAt.shaped (dL4 a b) = true := by
  unfold dL4 SeqAt.shaped
  simp [PyData.canLay0, PyData.canLayAll0, PyData.depth, PyData.depthAll]
  decide +kernel
theorem even_first : IsFirst pV.sg.cps.toList (fun r => goodOf pV r = true) (some []) := ⟨(fun c hc => by cases hc), (by decide +kernel), fun r' _ _ => by
  by_cases e : r' = []
  · exact .inl e.symm
  · exact .inr (.inl (List.length_pos_iff.mpr e))⟩
section
variable {P : Program} {w : World} {K : PySem.W.Frag} {mg : Str → Option Value} {base : Heap} {T : List (Addr × Str)} {CU CR CN : Addr} {c : Nat → Addr} {bR bK bP : Addr}
theorem scL : FnScope NL ["_law_script"] (defScope sLaw) := ⟨rfl, rfl, rfl, by decide +kernel, rfl, by decide +kernel, by decide +kernel⟩
def tLast (K : PySem.W.Frag) (T : List (Addr × Str)) : TS := fun D σ H => ∃ (a : Addr) (ns : List Int) (v1 v2 v3 v4 v5 : Option V), σ = [some (.ref a), v1, v2, v3, v4, v5] ∧ SqL K H a (ns.map V.int) ∧ ns.length ≤ 63 ∧ Tabs T H ∧ ∀ H', D.rt (.bl true) H'
theorem ok_law {f fW fR : Addr} {fd fdW fdR : FuncData} (F : Fun K "law" "law" sLaw f fd) (hAll : mg "all" = none) (hRange : mg "range" = none) (hMax : mg "max" = none) (hMin : mg "min" = none) (hL : mg "len" = none)
    (GW : FnOk P w K mg base CX0 1 fW fdW ["_law_script", "_law_turn"] (spWell K)) (bW : Binds K fdW ["_law_script", "_law_turn"] []) (gW : mg "_law_well" = some (.ref fW)) (kW : PySem.W.keepIn K (.ref fW) = true)
    (GR : FnG P w K mg base CX0 8 fR fdR ["_law_well_here"] (spRight T)) (bR' : Binds K fdR ["_law_well_here"] []) (gR : mg "_law_right" = some (.ref fR)) (kR : PySem.W.keepIn K (.ref fR) = true) (R : R9 P w K mg base T CU CR CN c bR bK bP)
    (sV : Hv P w K mg base 7 "even_rule" [] (spSample CU tV pV)) (sF : Hv P w K mg base 7 "free_rule" [] (spSample CU tF pF)) :
    FnG P w K mg base CX0 9 f fd ["_law_script"] (spLaw K T) := by
  obtain ⟨fM, fdM, GM, bM, kbM, gM, kM⟩ := R.my
  obtain ⟨fG, fdG, GF, bF, kbF, gF, kF⟩ := R.fg
  refine F.okG scL (fun vs H Q E h => ?_) (fun cdv A outer s H vs Q E hgd hr h => ?_)
  · obtain ⟨a, ns, rfl, _⟩ := h
    rfl
  · obtain ⟨a, ns, rfl, hS, hl', hT, k⟩ := h
    have hr1 : Room 1 (A.deeper (envOfC "law" (defScope sLaw) s.heap.objs.size f cdv)) := hr.mono (by decide)
    have hr3 : Room 3 (A.deeper (envOfC "law" (defScope sLaw) s.heap.objs.size f cdv)) := hr.mono (by decide)
    have hr5 : Room 5 (A.deeper (envOfC "law" (defScope sLaw) s.heap.objs.size f cdv)) := hr.mono (by decide)
    have hr7 : Room 7 (A.deeper (envOfC "law" (defScope sLaw) s.heap.objs.size f cdv)) := hr.mono (by decide)
    refine ⟨_, pss_cons (ps_par3 (i := 1) (j := 2) (l := 3) rfl scL.nd rfl rfl rfl (by decide) (by decide) (by decide) rfl rfl rfl (pa_cons (pe_lst pa_nil) (pa_cons pe_int (pa_cons pe_int pa_nil))) (by rfl))
      (pss_cons (ps_for PassesOwn.never rfl (pi_range1 rfl hRange (pa_cons pe_int pa_nil)) (pg_name (i := 4) scL.nd rfl (Or.inl rfl))
        (pss_one (ps_par (i := 2) (j := 3) rfl scL.nd rfl rfl (by decide) rfl rfl (pa_cons (pv 3) (pa_cons (pe_op op_add (pv 2) (pv 3)) pa_nil)) rfl)))
      (pss_cons (ps_set (i := 5) scL.nd rfl (Or.inl rfl) pe_int)
      (pss_cons (ps_for PassesOwn.never rfl (pi_range1 rfl hRange (pa_cons pe_int pa_nil)) (pg_name (i := 4) scL.nd rfl (Or.inl rfl))
        (pss_one (ps_set (i := 5) scL.nd rfl (Or.inl rfl) (pe_op op_mul (pv 5) pe_int))))
      (pss_cons (ps_if (pt_cmpR (op_neD hr.units) (pe_lst (pa_cons (pe_call GM hr3 rfl gM kM bM .nil pass0 (pa_cons (pe_cl0 sF hr7 rfl pass0) (pa_cons pe_int pa_nil))) (pa_cons (pe_call GM hr3 rfl gM kM bM .nil pass0 (pa_cons (pe_cl0 sV hr7 rfl pass0) (pa_cons pe_int pa_nil))) (pa_cons (pe_call GM hr3 rfl gM kM bM .nil pass0 (pa_cons (pe_cl0 sV hr7 rfl pass0) (pa_cons pe_int pa_nil))) (pa_cons (pe_call GF hr5 rfl gF kF bF .nil pass0 (pa_cons (pe_cl0 sV hr7 rfl pass0) pa_nil)) pa_nil)))))
          (pe_lst (pa_cons (pv 2) (pa_cons (pv 5) (pa_cons pe_int (pa_cons pe_str pa_nil))))) (nomark _)) (pss_one (ps_ret pe_bl)) pss_nil)
      (PSs_imp9 (t' := tLast K T) (pss_one (ps_ret (pe_callB (cr_all rfl) (by rfl) hAll (by decide +kernel) (pa_cons
        (pe_lc (own := [("_law_turn", 4)]) (g := gName 4) (tt := tYes) (te := tCall (spRight T) [] E0 (tCons (tCall (spWell K) [] E0 (tCons (tVar 0) (tCons (tVar 4) tNil))) tNil)) rfl scL.nd
          (pi_range1 rfl hRange (pa_cons (pe_callB (call_max2 rfl) (by rfl) hMax (by decide +kernel) (pa_cons pe_int (pa_cons (pe_callB (call_min2 rfl) (by rfl) hMin (by decide +kernel) (pa_cons (pe_callB call_len_seq (by rfl) hL PySem.boot_len (pa_cons (pv 0) pa_nil)) (pa_cons pe_int pa_nil))) pa_nil))) pa_nil))
          (blkOk_by (N := NL) (sc := defScope sLaw) (by decide +kernel)) (fun _ _ _ _ _ => pg_name (i := 4) scL.nd rfl (Or.inl rfl)) (fun _ _ _ _ _ => pts_nil)
          (fun _ _ _ _ _ => pe_callG GR hgd hr rfl gR kR bR' pass0 (pa_cons (pe_call GW hr1 rfl gW kW bW .nil pass0 (pa_cons (pv 0) (pa_cons (pv 4) pa_nil))) pa_nil))) pa_nil)))) ?iLast))))), ?_⟩
    case iLast =>
      rintro D σ H ⟨a, ns, v1, v2, v3, v4, v5, rfl, hS, hl, hT, k⟩
      refine ⟨_, rfl, a, _, rfl, .inl hS, _, _, rfl, _, _, rfl, _, rfl, ?_, ?_, fun D hD => ?_⟩
      · rw [List.length_map]
        split <;> split <;> omega
      · rw [List.length_map]
        split <;> split <;> omega
      · rw [List.length_map] at *
        generalize hn : (if (if (4 : Int) < (ns.length : Int) then (4 : Int) else (ns.length : Int)) > 2 then (if (4 : Int) < (ns.length : Int) then (4 : Int) else (ns.length : Int)) else 2) = n
        have n1 : 0 ≤ n ∧ n ≤ 4 := by
          rw [← hn]
          constructor <;> split <;> split <;> omega
        refine lc_range (lo := 0) (n := n.toNat) (fun j H' => ExtN H H' ∧ Tabs T H' ∧ H' D = some (.lst (List.replicate j (V.bl true)))) ⟨ExtN.of (same_new hD), Tabs.ext hT (same_new hD), upd_same⟩ (fun j H' hj ⟨sH, tH, eD⟩ => ?_) (fun H' ⟨sH, tH, eD⟩ => ?_)
        · refine ⟨rfl, ?_⟩
          refine ⟨_, rfl, _, rfl, a, ns, _, rfl, sq_ext sH hS, (by omega), (by omega), fun p H1 s1 np hW => ?_⟩
          refine ⟨p, rfl, hW, Tabs.ext tH s1, fun H2 s2 t2 => ?_⟩
          have dp : D ≠ p := ne_of_none eD np
          have eD2 : H2 D = some (.lst (List.replicate j (V.bl true))) := s2 D _ dp (fun _ z => by cases z) (s1 _ _ eD)
          refine ⟨_, eD2, ?_, fun b o e nt => ?_, Tabs.off t2 eD2, ?_⟩
          · rw [List.length_replicate]
            exact small1000 (by omega)
          · rw [upd_ne (ne_of_none e hD)]
            have z0 := sH _ _ e nt
            exact s2 b o (ne_of_none z0 np) nt (s1 _ _ z0)
          · rw [upd_same, rep_snoc]
        · refine ⟨D, List.replicate n.toNat true, rfl, SqL.of (by rw [List.map_replicate]; exact eD), ?_⟩
          rw [all_rep]
          exact k H'
    refine ⟨by show 0 ≤ sizeLine; decide, fun l hl => ⟨_, _, _, rfl, ?_⟩⟩
    have s1 := same_new (o := .lst []) hl
    generalize upd H l (.lst []) = H1 at s1 ⊢
    refine ⟨1000, rfl, by decide, by decide, ?_⟩
    refine for_range (lo := 0) (n := 1000) (fun i σ H' => (∃ v4, σ = [some (.ref a), some (.ref l), some (.int ((fibL i).1 : Nat)), some (.int ((fibL i).2 : Nat)), v4, none]) ∧ H' = H1) ⟨⟨_, rfl⟩, rfl⟩ (fun i σ H' hi h => ?_) (fun σ H' h => ?_)
    · obtain ⟨⟨v4, rfl⟩, rfl⟩ := h
      refine ⟨_, rfl, _, rfl, _, rfl, _, _, rfl, rfl, _, _, rfl, ⟨some (.int (0 + (i : Int))), ?_⟩, rfl⟩
      show _ = [_, _, some (V.int ((fibL i).2 : Nat)), some (V.int (((fibL i).1 + (fibL i).2 : Nat) : Int)), _, _]
      rw [show (((fibL i).1 + (fibL i).2 : Nat) : Int) = ((fibL i).1 : Int) + ((fibL i).2 : Int) by omega]
      rfl
    · obtain ⟨⟨v4, rfl⟩, rfl⟩ := h
      refine ⟨999, rfl, by decide, by decide, ?_⟩
      refine for_range (lo := 0) (n := 999) (fun i σ H2 => (∃ v4, σ = [some (.ref a), some (.ref l), some (.int ((fibL 1000).1 : Nat)), some (.int ((fibL 1000).2 : Nat)), v4, some (.int ((2 ^ i : Nat) : Int))]) ∧ H2 = H') ⟨⟨_, rfl⟩, rfl⟩ (fun i σ H2 hi h => ?_) (fun σ H2 h => ?_)
      · obtain ⟨⟨v4, rfl⟩, rfl⟩ := h
        refine ⟨_, rfl, _, _, rfl, rfl, .inr ⟨by decide, by decide⟩, ⟨some (.int (0 + (i : Int))), ?_⟩, rfl⟩
        show _ = [_, _, _, _, _, some (V.int ((2 ^ (i + 1) : Nat) : Int))]
        rw [show ((2 ^ (i + 1) : Nat) : Int) = ((2 ^ i : Nat) : Int) * 2 by rw [Nat.pow_succ, Int.natCast_mul]; rfl]
        rfl
      · obtain ⟨⟨v4, rfl⟩, rfl⟩ := h
        have eF : manyN pF 1000 = (fibL 1000).1 := manyF 1000
        have eV : manyN pV 1000 = 2 ^ 999 := manyV 999
        have eV0 := manyV0
        have okF := parts_ok parF
        have okV := parts_ok parV
        generalize hF : fibL 1000 = fb at eF ⊢
        generalize hP : 2 ^ 999 = pw at eV ⊢
        clear hF hP
        refine ⟨rfl, fun f1 H2 s2 n2 hR1 => ⟨f1, tF, pF, 1000, rfl, hR1, okF, by decide, fun H3 s3 => ?_⟩⟩
        refine ⟨rfl, fun f2 H4 s4 n4 hR2 => ⟨f2, tV, pV, 1000, rfl, hR2, okV, by decide, fun H5 s5 => ?_⟩⟩
        refine ⟨rfl, fun f3 H6 s6 n6 hR3 => ⟨f3, tV, pV, 0, rfl, hR3, okV, by decide, fun H7 s7 => ?_⟩⟩
        have s17 := (((((s1.trans s2).trans s3).trans s4).trans s5).trans s6).trans s7
        clear s2 s3 s4 s5 s6 s7 hR1 hR2 hR3
        refine ⟨rfl, fun f4 H8 s8 n8 hR4 => ⟨f4, tV, pV, rfl, Tabs.ext hT (s17.trans s8), hR4, okV, fun o H9 x9 T9 ho => ?_⟩⟩
        obtain rfl := ho.uniq even_first
        have xt := ext_trans (ext_of (s17.trans s8)) x9
        clear ho hR4
        rw [eF, eV, eV0]
        refine ⟨by show 4 ≤ sizeLine; decide, fun l1 h1 => ⟨_, rfl, _, rfl, by show 4 ≤ sizeLine; decide, fun l2 h2 => ?_⟩⟩
        refine ⟨dL4 (fb.1 : Nat) (pw : Nat), dL4 (fb.1 : Nat) (pw : Nat), .lst (SqL.of (keep1 upd_same h2)) (.cons (.int _) (.cons (.int _) (.cons (.int _) (.cons (.str _) .nil)))), .lst (SqL.of upd_same) (.cons (.int _) (.cons (.int _) (.cons (.int _) (.cons (.str _) .nil)))), shaped_L4 _ _, shaped_L4 _ _, _, rfl, ?_⟩
        rw [SeqAt.eqv_refl _ (SeqAt.canLay_of_shaped (shaped_L4 _ _))]
        refine iteF ?_
        refine ⟨a, ns, _, _, _, _, _, rfl, ?_, hl', ?_, k⟩
        · exact sq_ext (ext_same xt ((same_new h1).trans (same_new h2))) hS
        · exact Tabs.ext T9 ((same_new h1).trans (same_new h2))
end
end My
namespace My
open PySem PySem.Spec PyProof.Rows L2 PySem.GX L2H LamX
/-! ### what is asked of the written part, as tests that are run -/
def okC (K : PySem.W.Frag) (C : Addr) : Bool :=
  PySem.W.findIn K (.ref C) "__getattribute__" == some (some (.builtin "BaseException.__getattribute__")) && (PySem.W.findIn K (.ref C) "__getattr__" == some none &&
  (PySem.W.subIn K (.ref C) (.type "BaseException") == some true && (PySem.W.hasDictIn K C && (PySem.W.findIn K (.ref C) "__class__" == some (some (.builtin "object.__class__")) &&
  (PySem.W.specialIn K (.builtin "object.__class__") "__get__" == some (some (.builtin "getset_descriptor.__get__")) && (PySem.W.takesIn K (.builtin "object.__class__") == some true &&
  (PySem.W.mroIn K C (.type "object") == some true && (PySem.W.findIn K (.ref C) "__setattr__" == some (some (.builtin "object.__setattr__")) && PySem.W.keepIn K (.ref C)))))))))
theorem okC_of {K : PySem.W.Frag} {C : Addr} (h : okC K C = true) : ExcC K C ∧ PySem.W.findIn K (.ref C) "__setattr__" = some (some (.builtin "object.__setattr__")) ∧ PySem.W.keepIn K (.ref C) = true := by
  unfold okC at h
  simp only [Bool.and_eq_true, beq_iff_eq] at h
  obtain ⟨h1, h2, h3, h4, h5, h6, h7, h8, h9, h10⟩ := h
  exact ⟨⟨h1, h2, h3, h4, h5, h6, h7, h8⟩, h9, h10⟩
def shp (K : PySem.W.Frag) (C B : Addr) (tl : List Value) (nid : String) : Bool := match K.lookup C with
  | some ⟨.type "type", _, .cls cd, sl⟩ => (match cd.mro, sl.toList with
    | .ref C' :: bm, [_, _, _, _, some (.builtin n), _] => C' == C && (n == nid && (!cd.hasDel && (cd.hasDict && bm == .ref B :: tl)))
    | _, _ => false)
  | _ => false
theorem shp_of {K : PySem.W.Frag} {C B : Addr} {tl : List Value} {nid : String} (q : shp K C B tl nid = true) : ∃ nm qn N bs sn sub ab col dd k0 k1 k2 k3 k5,
    K.lookup C = some (excClassObj nm qn C N bs (.ref B :: tl) true sn sub ab col dd k0 k1 k2 k3 k5 nid) := by
  unfold shp at q
  split at q
  · rename_i dd cd sl ho
    split at q
    · rename_i C' bm k0 k1 k2 k3 n k5 hm hs
      simp only [Bool.and_eq_true, beq_iff_eq, Bool.not_eq_true'] at q
      obtain ⟨rfl, rfl, hdel, hdi, hbm⟩ := q
      obtain ⟨nm, bs, mro, ns, qn, hd, sn, sub, ab, col, dl⟩ := cd
      dsimp only at hm hdel hdi
      subst hm hdel hdi hbm
      have hsl : sl = #[k0, k1, k2, k3, some (.builtin n), k5] := by
        obtain ⟨l⟩ := sl
        simp only at hs
        rw [hs]
      subst hsl
      exact ⟨nm, qn, ns, bs, sn, sub, ab, col, dd, k0, k1, k2, k3, k5, ho⟩
    · cases q
  · cases q
theorem exG_of {K : PySem.W.Frag} {C B : Addr} {Bn nid iid : String} (FB : ExcBaseFacts Bn nid iid (tailOf Bn)) (hp : ∀ self, refuseLoop self "__setattr__" (tailOf Bn) = pure ()) (h : okC K C = true) (q : shp K C B (tailOf Bn) nid = true) : ExG K C := by
  obtain ⟨a, b, c⟩ := okC_of h
  obtain ⟨nm, qn, N, bs, sn, sub, ab, col, dd, k0, k1, k2, k3, k5, e⟩ := shp_of q
  exact ⟨a, ⟨Bn, nid, iid, tailOf Bn, nm, qn, N, bs, _, sn, sub, ab, col, dd, k0, k1, k2, k3, k5, FB, fun Y => by rw [List.contains_cons]; rfl, mroOk2 hp, e⟩, b, c⟩
def chk (K : PySem.W.Frag) (C : Addr) (i : Nat) (cs bs : List Addr) : Bool :=
  okC K C && ((List.range 11).all (fun j => PySem.W.kitOne K (.ref C) (.ref (cs.getD j 0)) == some (decide (j = i))) && (shp K C (bs.getD 0 0) (tailOf "ValueError") "ValueError.__new__" && (PySem.W.findIn K (.ref C) "given" == some none &&
  (PySem.W.kitOne K (.ref C) (.ref (bs.getD 0 0)) == some true && (PySem.W.kitOne K (.ref C) (.ref (bs.getD 1 0)) == some false && (PySem.W.kitOne K (.ref C) (.ref (bs.getD 2 0)) == some false &&
  (PySem.W.kitOne K (.ref C) (.type "ValueError") == some true && (PySem.W.kitOne K (.ref C) (.type "LookupError") == some false && (PySem.W.kitOne K (.ref C) (.type "ArithmeticError") == some false &&
  (PySem.W.exmAny K (.ref C) [.ref (bs.getD 0 0), .ref (bs.getD 1 0), .ref (bs.getD 2 0)] == some true && PySem.W.typeIn K (.ref C) == some (.type "type")))))))))))
theorem chk_of {K : PySem.W.Frag} {C B0 B1 B2 : Addr} {i : Nat} {cs : List Addr} (hi : i < 8) (q : chk K C i cs [B0, B1, B2] = true) : ErrC K (fun j => cs.getD j 0) B0 B1 B2 C i ∧ ExG K C ∧ PySem.W.typeIn K (.ref C) = some (.type "type") := by
  unfold chk at q
  simp only [Bool.and_eq_true, beq_iff_eq] at q
  obtain ⟨q1, q2, q3, q4, q5, q6, q7, q8, q9, q10, q11, q12⟩ := q
  exact ⟨⟨(okC_of q1).1, hi, fun j hj => beq_iff_eq.mp (List.all_eq_true.mp q2 j (List.mem_range.mpr hj)), q4, q5, q6, q7, q8, q9, q10, q11⟩, exG_of (B := B0) PySem.F.excBase_ValueError pass_VE q1 q3, q12⟩
theorem vals_rev : ∀ {zs : List V} {ws : List Value}, Vals zs ws → Vals zs.reverse ws.reverse
  | _, _, .nil => .nil
  | _, _, .cons r t => by
    rw [List.reverse_cons, List.reverse_cons]
    exact (vals_rev t).append (.cons r .nil)
end My
namespace My
open PySem PySem.Spec PyProof.Rows L2 PySem.GX L2H LamX
theorem mk_c3 {P : Program} {w : World} {K : PySem.W.Frag} {mg : Str → Option Value} {base : Heap} {C fI : Addr} {fd : FuncData} (F : Fun K "__init__" "InvalidNumber.__init__" (inClass (top 6) 0) fI fd) (T : ExG K C) (no : PySem.W.findIn K (.ref C) "given" = some none) (gC : mg "InvalidNumber" = some (.ref C))
    (iC : PySem.W.findIn K (.ref C) "__init__" = some (some (.ref fI))) (tI : PySem.W.typeIn K (.ref fI) = some (.type "function")) : Mk1 P w K mg base "InvalidNumber" C "given" := by
  have S : FnScope ["self", "given"] ["self", "given"] (defScope (inClass (top 6) 0)) := ⟨rfl, rfl, rfl, by decide +kernel, rfl, by decide +kernel, by decide +kernel⟩
  refine ⟨T, gC, fI, fd, iC, tI, ?_, ?_, ?_⟩
  · refine F.ok S (fun vs H Q E h => by obtain ⟨a, v, rfl, _⟩ := h; rfl) (fun cdv A outer s H vs Q E hr h => ?_)
    obtain ⟨a, v, rfl, ha, k⟩ := h
    exact ⟨_, pss_one (ps_osG (pv 0) (pv 1)), _, rfl, _, rfl, a, C, rfl, T, no, .inl ⟨ha, k⟩⟩
  · obtain ⟨oc, od, kV, doc, pm, an, cdv, ct, osl, rfl, lk, hcd⟩ := F.ex
    exact ⟨fun s us ws _ hu hw => match us, ws, hu, hw with | [_, _], [], _, _ => .of_eq rfl, fun r _ => r⟩
  · obtain ⟨oc, od, kV, doc, pm, an, cdv, ct, osl, rfl, lk, hcd⟩ := F.ex
    exact ⟨fun s us ws _ hu hw => match us, ws, hu, hw with | [_], [_], _, _ => .of_eq rfl, fun r q => r.append q⟩
theorem mk_c7 {P : Program} {w : World} {K : PySem.W.Frag} {mg : Str → Option Value} {base : Heap} {C fI : Addr} {fd : FuncData} (F : Fun K "__init__" "NotARule.__init__" (inClass (top 10) 0) fI fd) (T : ExG K C) (no : PySem.W.findIn K (.ref C) "given" = some none) (gC : mg "NotARule" = some (.ref C))
    (iC : PySem.W.findIn K (.ref C) "__init__" = some (some (.ref fI))) (tI : PySem.W.typeIn K (.ref fI) = some (.type "function")) : Mk1 P w K mg base "NotARule" C "given" := by
  have S : FnScope ["self", "given"] ["self", "given"] (defScope (inClass (top 10) 0)) := ⟨rfl, rfl, rfl, by decide +kernel, rfl, by decide +kernel, by decide +kernel⟩
  refine ⟨T, gC, fI, fd, iC, tI, ?_, ?_, ?_⟩
  · refine F.ok S (fun vs H Q E h => by obtain ⟨a, v, rfl, _⟩ := h; rfl) (fun cdv A outer s H vs Q E hr h => ?_)
    obtain ⟨a, v, rfl, ha, k⟩ := h
    exact ⟨_, pss_one (ps_osG (pv 0) (pv 1)), _, rfl, _, rfl, a, C, rfl, T, no, .inl ⟨ha, k⟩⟩
  · obtain ⟨oc, od, kV, doc, pm, an, cdv, ct, osl, rfl, lk, hcd⟩ := F.ex
    exact ⟨fun s us ws _ hu hw => match us, ws, hu, hw with | [_, _], [], _, _ => .of_eq rfl, fun r _ => r⟩
  · obtain ⟨oc, od, kV, doc, pm, an, cdv, ct, osl, rfl, lk, hcd⟩ := F.ex
    exact ⟨fun s us ws _ hu hw => match us, ws, hu, hw with | [_], [_], _, _ => .of_eq rfl, fun r q => r.append q⟩
def frees : List Str := ["int", "bool", "len", "abs", "isinstance", "repr", "all", "range", "max", "min", "sum", "ValueError", "LookupError", "ArithmeticError", "str", "set", "sorted", "list", "tuple", "reversed"]
def chkF (K : PySem.W.Frag) : Bool := frees.all fun x => PySem.W.nsIn K mainGlobals x == some none
theorem free_of {K : PySem.W.Frag} {h : Heap} {mg : Str → Option Value} (X : K.In h) (G : h.Ns mainGlobals mg) (q : chkF K = true) {x : Str} (hx : x ∈ frees) : mg x = none := by
  unfold chkF at q
  exact PySem.W.mg_none_of X G (beq_iff_eq.mp (List.all_eq_true.mp q x hx))
abbrev quals4 : List Str := [qStep, qTest, qFg, qL]
def tbOf (ts : List (Addr × Addr)) : List (Addr × Str) := (ts.map (·.2)).zip quals4
theorem tabs_tb {ts : List (Addr × Addr)} {H : Hp} (hT : ∀ q ∈ ts, H q.2 = some (.tbl #[])) : Tabs (tbOf ts) H := fun z hz => by
  have := (List.of_mem_zip (a := z.1) (b := z.2) (by unfold tbOf at hz; exact hz)).1
  obtain ⟨q, hq, e⟩ := List.mem_map.mp this
  have h := hT q hq
  rw [e] at h
  exact LamX.TabS.nil h
section
variable {l : PySem.W.OpenLaw} {w : World} {K : PySem.W.Frag} {h : Heap} {mg : Str → Option Value}
theorem all_mk {fa : Addr} {C0 C1 C2 C3 C4 C5 C6 C7 C8 C9 C10 B0 B1 B2 gvc gvd CU tT gib gol giw gas gam gag grg grr gcr grb gfr gfm cps Pps gps cpt Ppt gpt gfs cfg Pfg gfg gma gsv gsf glw gld glp glt gls glx gle glf gln glb glo glr glc gli glu glk clg Plg glg gll gri pT gpT pS gpS pM gpM pG gpG : Addr} {odvc anvc odvd anvd odib anib odol anol odiw aniw odas anas odam anam odag anag odrg anrg odrr anrr odcr ancr odrb anrb odfr anfr odfm anfm odps anps odpt anpt odfs anfs odfg anfg odma anma odsv ansv odsf ansf odlw anlw odld anld odlp anlp odlt anlt odls anls odlx anlx odle anle odlf anlf odln anln odlb anlb odlo anlo odlr anlr odlc anlc odli anli odlu anlu odlk anlk odlg anlg odll anll owps owpt owfg owlg odri anri odpT anpT odpS anpS odpM anpM odpG anpG : Option Addr} {slvc slvd slib slol sliw slas slam slag slrg slrr slcr slrb slfr slfm slps slpt slfs slfg slma slsv slsf sllw slld sllp sllt slls sllx slle sllf slln sllb sllo sllr sllc slli sllu sllk sllg slll szps szpt szfg szlg slri slpT slpS slpM slpG slT : Array (Option Value)} {ocvc kVvc dcvc pmvc ctvc cdvc ocvd kVvd dcvd pmvd ctvd cdvd ocib kVib dcib pmib ctib cdib ocol kVol dcol pmol ctol cdol ociw kViw dciw pmiw ctiw cdiw ocas kVas dcas pmas ctas cdas ocam kVam dcam pmam ctam cdam ocag kVag dcag pmag ctag cdag ocrg kVrg dcrg pmrg ctrg cdrg ocrr kVrr dcrr pmrr ctrr cdrr occr kVcr dccr pmcr ctcr cdcr ocrb kVrb dcrb pmrb ctrb cdrb ocfr kVfr dcfr pmfr ctfr cdfr ocfm kVfm dcfm pmfm ctfm cdfm ocps kVps dcps pmps ctps ocpt kVpt dcpt pmpt ctpt ocfs kVfs dcfs pmfs ctfs cdfs ocfg kVfg dcfg pmfg ctfg ocma kVma dcma pmma ctma cdma ocsv kVsv dcsv pmsv ctsv cdsv ocsf kVsf dcsf pmsf ctsf cdsf oclw kVlw dclw pmlw ctlw cdlw ocld kVld dcld pmld ctld cdld oclp kVlp dclp pmlp ctlp cdlp oclt kVlt dclt pmlt ctlt cdlt ocls kVls dcls pmls ctls cdls oclx kVlx dclx pmlx ctlx cdlx ocle kVle dcle pmle ctle cdle oclf kVlf dclf pmlf ctlf cdlf ocln kVln dcln pmln ctln cdln oclb kVlb dclb pmlb ctlb cdlb oclo kVlo dclo pmlo ctlo cdlo oclr kVlr dclr pmlr ctlr cdlr oclc kVlc dclc pmlc ctlc cdlc ocli kVli dcli pmli ctli cdli oclu kVlu dclu pmlu ctlu cdlu oclk kVlk dclk pmlk ctlk cdlk oclg kVlg dclg pmlg ctlg ocll kVll dcll pmll ctll cdll ozps ozpt ozfg ozlg ocri kVri dcri pmri ctri cdri ocpT kVpT dcpT pmpT ctpT cdpT ocpS kVpS dcpS pmpS ctpS cdpS ocpM kVpM dcpM pmpM ctpM cdpM ocpG kVpG dcpG pmpG ctpG cdpG : Value} {tk0 tk1 tk2 tk3 tk4 tk6 tk7 u0 u1 u2 : Tok} {nT : Nat} {vzps vzpt vzfg vzlg : Array Value} {rsT rsS rsM rsG : List Value} (X : K.In h) (G : h.Ns mainGlobals mg) (hfa : mg "law" = some (.ref fa))
    (acC0 : PySem.W.nsIn K mainGlobals "InvalidText" = some (some (.ref C0)))
    (acC1 : PySem.W.nsIn K mainGlobals "InvalidRow" = some (some (.ref C1)))
    (acC2 : PySem.W.nsIn K mainGlobals "InvalidKind" = some (some (.ref C2)))
    (acC3 : PySem.W.nsIn K mainGlobals "InvalidNumber" = some (some (.ref C3)))
    (acC4 : PySem.W.nsIn K mainGlobals "InvalidMood" = some (some (.ref C4)))
    (acC5 : PySem.W.nsIn K mainGlobals "InvalidSign" = some (some (.ref C5)))
    (acC6 : PySem.W.nsIn K mainGlobals "InvalidPaper" = some (some (.ref C6)))
    (acC7 : PySem.W.nsIn K mainGlobals "NotARule" = some (some (.ref C7)))
    (acC8 : PySem.W.nsIn K mainGlobals "OtherSigns" = some (some (.ref C8)))
    (acC9 : PySem.W.nsIn K mainGlobals "TooMany" = some (some (.ref C9)))
    (acC10 : PySem.W.nsIn K mainGlobals "Kept" = some (some (.ref C10)))
    (acB0 : PySem.W.nsIn K mainGlobals "NotRight" = some (some (.ref B0)))
    (acB1 : PySem.W.nsIn K mainGlobals "NotKnown" = some (some (.ref B1)))
    (acB2 : PySem.W.nsIn K mainGlobals "NotPossible" = some (some (.ref B2)))
    (amvc : PySem.W.findIn K (.ref C3) "__init__" = some (some (.ref gvc)))
    (aivc : PySem.W.isFn K (.ref gvc) = true)
    (lgvc : K.lookup gvc = some ⟨ocvc, odvc, .func (PySem.W.fnOf "__init__" "InvalidNumber.__init__" (defArgs (inClass (top 6) 0)) (defBody (inClass (top 6) 0)) (defScope (inClass (top 6) 0)) .none kVvc dcvc pmvc anvc cdvc ctvc), slvc⟩)
    (cgvc : PySem.W.codeIn K cdvc "InvalidNumber.__init__" = true)
    (kgvc : PySem.W.keepIn K (.ref gvc) = true)
    (tvc : PySem.W.typeIn K (.ref gvc) = some (.type "function"))
    (amvd : PySem.W.findIn K (.ref C7) "__init__" = some (some (.ref gvd)))
    (aivd : PySem.W.isFn K (.ref gvd) = true)
    (lgvd : K.lookup gvd = some ⟨ocvd, odvd, .func (PySem.W.fnOf "__init__" "NotARule.__init__" (defArgs (inClass (top 10) 0)) (defBody (inClass (top 10) 0)) (defScope (inClass (top 10) 0)) .none kVvd dcvd pmvd anvd cdvd ctvd), slvd⟩)
    (cgvd : PySem.W.codeIn K cdvd "NotARule.__init__" = true)
    (kgvd : PySem.W.keepIn K (.ref gvd) = true)
    (tvd : PySem.W.typeIn K (.ref gvd) = some (.type "function"))
    (acCU : PySem.W.nsIn K mainGlobals "Rule" = some (some (.ref CU)))
    (agib : PySem.W.nsIn K mainGlobals "in_bounds" = some (some (.ref gib)))
    (lgib : K.lookup gib = some ⟨ocib, odib, .func (PySem.W.fnOf "in_bounds" "in_bounds" (defArgs sBounds) (defBody sBounds) (defScope sBounds) .none kVib dcib pmib anib cdib ctib), slib⟩)
    (cgib : PySem.W.codeIn K cdib "in_bounds" = true)
    (kgib : PySem.W.keepIn K (.ref gib) = true)
    (agol : PySem.W.nsIn K mainGlobals "made_of" = some (some (.ref gol)))
    (lgol : K.lookup gol = some ⟨ocol, odol, .func (PySem.W.fnOf "made_of" "made_of" (defArgs sMade) (defBody sMade) (defScope sMade) .none kVol dcol pmol anol cdol ctol), slol⟩)
    (cgol : PySem.W.codeIn K cdol "made_of" = true)
    (kgol : PySem.W.keepIn K (.ref gol) = true)
    (agiw : PySem.W.nsIn K mainGlobals "is_word" = some (some (.ref giw)))
    (lgiw : K.lookup giw = some ⟨ociw, odiw, .func (PySem.W.fnOf "is_word" "is_word" (defArgs sWord) (defBody sWord) (defScope sWord) .none kViw dciw pmiw aniw cdiw ctiw), sliw⟩)
    (cgiw : PySem.W.codeIn K cdiw "is_word" = true)
    (kgiw : PySem.W.keepIn K (.ref giw) = true)
    (agas : PySem.W.nsIn K mainGlobals "are_signs" = some (some (.ref gas)))
    (lgas : K.lookup gas = some ⟨ocas, odas, .func (PySem.W.fnOf "are_signs" "are_signs" (defArgs sSigns) (defBody sSigns) (defScope sSigns) .none kVas dcas pmas anas cdas ctas), slas⟩)
    (cgas : PySem.W.codeIn K cdas "are_signs" = true)
    (kgas : PySem.W.keepIn K (.ref gas) = true)
    (agam : PySem.W.nsIn K mainGlobals "are_moods" = some (some (.ref gam)))
    (lgam : K.lookup gam = some ⟨ocam, odam, .func (PySem.W.fnOf "are_moods" "are_moods" (defArgs sMoods) (defBody sMoods) (defScope sMoods) .none kVam dcam pmam anam cdam ctam), slam⟩)
    (cgam : PySem.W.codeIn K cdam "are_moods" = true)
    (kgam : PySem.W.keepIn K (.ref gam) = true)
    (agag : PySem.W.nsIn K mainGlobals "are_good" = some (some (.ref gag)))
    (lgag : K.lookup gag = some ⟨ocag, odag, .func (PySem.W.fnOf "are_good" "are_good" (defArgs sGood) (defBody sGood) (defScope sGood) .none kVag dcag pmag anag cdag ctag), slag⟩)
    (cgag : PySem.W.codeIn K cdag "are_good" = true)
    (kgag : PySem.W.keepIn K (.ref gag) = true)
    (agrg : PySem.W.nsIn K mainGlobals "read_goals" = some (some (.ref grg)))
    (lgrg : K.lookup grg = some ⟨ocrg, odrg, .func (PySem.W.fnOf "read_goals" "read_goals" (defArgs sGoals) (defBody sGoals) (defScope sGoals) .none kVrg dcrg pmrg anrg cdrg ctrg), slrg⟩)
    (cgrg : PySem.W.codeIn K cdrg "read_goals" = true)
    (kgrg : PySem.W.keepIn K (.ref grg) = true)
    (agrr : PySem.W.nsIn K mainGlobals "read_rule" = some (some (.ref grr)))
    (lgrr : K.lookup grr = some ⟨ocrr, odrr, .func (PySem.W.fnOf "read_rule" "read_rule" (defArgs sRead) (defBody sRead) (defScope sRead) .none kVrr dcrr pmrr anrr cdrr ctrr), slrr⟩)
    (cgrr : PySem.W.codeIn K cdrr "read_rule" = true)
    (kgrr : PySem.W.keepIn K (.ref grr) = true)
    (agcr : PySem.W.nsIn K mainGlobals "check_rule" = some (some (.ref gcr)))
    (lgcr : K.lookup gcr = some ⟨occr, odcr, .func (PySem.W.fnOf "check_rule" "check_rule" (defArgs sCRule) (defBody sCRule) (defScope sCRule) .none kVcr dccr pmcr ancr cdcr ctcr), slcr⟩)
    (cgcr : PySem.W.codeIn K cdcr "check_rule" = true)
    (kgcr : PySem.W.keepIn K (.ref gcr) = true)
    (agrb : PySem.W.nsIn K mainGlobals "row_back" = some (some (.ref grb)))
    (lgrb : K.lookup grb = some ⟨ocrb, odrb, .func (PySem.W.fnOf "row_back" "row_back" (defArgs sRowBack) (defBody sRowBack) (defScope sRowBack) .none kVrb dcrb pmrb anrb cdrb ctrb), slrb⟩)
    (cgrb : PySem.W.codeIn K cdrb "row_back" = true)
    (kgrb : PySem.W.keepIn K (.ref grb) = true)
    (agfr : PySem.W.nsIn K mainGlobals "first_row" = some (some (.ref gfr)))
    (lgfr : K.lookup gfr = some ⟨ocfr, odfr, .func (PySem.W.fnOf "first_row" "first_row" (defArgs sFirstRow) (defBody sFirstRow) (defScope sFirstRow) .none kVfr dcfr pmfr anfr cdfr ctfr), slfr⟩)
    (cgfr : PySem.W.codeIn K cdfr "first_row" = true)
    (kgfr : PySem.W.keepIn K (.ref gfr) = true)
    (agfm : PySem.W.nsIn K mainGlobals "first_moods" = some (some (.ref gfm)))
    (lgfm : K.lookup gfm = some ⟨ocfm, odfm, .func (PySem.W.fnOf "first_moods" "first_moods" (defArgs sFirstMo) (defBody sFirstMo) (defScope sFirstMo) .none kVfm dcfm pmfm anfm cdfm ctfm), slfm⟩)
    (cgfm : PySem.W.codeIn K cdfm "first_moods" = true)
    (kgfm : PySem.W.keepIn K (.ref gfm) = true)
    (agps : PySem.W.nsIn K mainGlobals "pair_step" = some (some (.ref gps)))
    (lgps : K.lookup gps = some ⟨ocps, odps, .func (PySem.W.fnOf "pair_step" "pair_step" (defArgs sPairStep) (defBody sPairStep) (defScope sPairStep) .none kVps dcps pmps anps (.ref cps) ctps), slps⟩)
    (cgps : PySem.W.codeIn K (.ref cps) "pair_step" = true)
    (kgps : PySem.W.keepIn K (.ref gps) = true)
    (agpt : PySem.W.nsIn K mainGlobals "pair_test" = some (some (.ref gpt)))
    (lgpt : K.lookup gpt = some ⟨ocpt, odpt, .func (PySem.W.fnOf "pair_test" "pair_test" (defArgs sPairTest) (defBody sPairTest) (defScope sPairTest) .none kVpt dcpt pmpt anpt (.ref cpt) ctpt), slpt⟩)
    (cgpt : PySem.W.codeIn K (.ref cpt) "pair_test" = true)
    (kgpt : PySem.W.keepIn K (.ref gpt) = true)
    (agfs : PySem.W.nsIn K mainGlobals "first_shown" = some (some (.ref gfs)))
    (lgfs : K.lookup gfs = some ⟨ocfs, odfs, .func (PySem.W.fnOf "first_shown" "first_shown" (defArgs sFirstSh) (defBody sFirstSh) (defScope sFirstSh) .none kVfs dcfs pmfs anfs cdfs ctfs), slfs⟩)
    (cgfs : PySem.W.codeIn K cdfs "first_shown" = true)
    (kgfs : PySem.W.keepIn K (.ref gfs) = true)
    (agfg : PySem.W.nsIn K mainGlobals "first_good" = some (some (.ref gfg)))
    (lgfg : K.lookup gfg = some ⟨ocfg, odfg, .func (PySem.W.fnOf "first_good" "first_good" (defArgs sFirstGood) (defBody sFirstGood) (defScope sFirstGood) .none kVfg dcfg pmfg anfg (.ref cfg) ctfg), slfg⟩)
    (cgfg : PySem.W.codeIn K (.ref cfg) "first_good" = true)
    (kgfg : PySem.W.keepIn K (.ref gfg) = true)
    (agma : PySem.W.nsIn K mainGlobals "many" = some (some (.ref gma)))
    (lgma : K.lookup gma = some ⟨ocma, odma, .func (PySem.W.fnOf "many" "many" (defArgs sMany) (defBody sMany) (defScope sMany) .none kVma dcma pmma anma cdma ctma), slma⟩)
    (cgma : PySem.W.codeIn K cdma "many" = true)
    (kgma : PySem.W.keepIn K (.ref gma) = true)
    (agsv : PySem.W.nsIn K mainGlobals "even_rule" = some (some (.ref gsv)))
    (lgsv : K.lookup gsv = some ⟨ocsv, odsv, .func (PySem.W.fnOf "even_rule" "even_rule" (defArgs sEvenR) (defBody sEvenR) (defScope sEvenR) .none kVsv dcsv pmsv ansv cdsv ctsv), slsv⟩)
    (cgsv : PySem.W.codeIn K cdsv "even_rule" = true)
    (kgsv : PySem.W.keepIn K (.ref gsv) = true)
    (agsf : PySem.W.nsIn K mainGlobals "free_rule" = some (some (.ref gsf)))
    (lgsf : K.lookup gsf = some ⟨ocsf, odsf, .func (PySem.W.fnOf "free_rule" "free_rule" (defArgs sFreeR) (defBody sFreeR) (defScope sFreeR) .none kVsf dcsf pmsf ansf cdsf ctsf), slsf⟩)
    (cgsf : PySem.W.codeIn K cdsf "free_rule" = true)
    (kgsf : PySem.W.keepIn K (.ref gsf) = true)
    (aglw : PySem.W.nsIn K mainGlobals "_law_well" = some (some (.ref glw)))
    (lglw : K.lookup glw = some ⟨oclw, odlw, .func (PySem.W.fnOf "_law_well" "_law_well" (defArgs sWell) (defBody sWell) (defScope sWell) .none kVlw dclw pmlw anlw cdlw ctlw), sllw⟩)
    (cglw : PySem.W.codeIn K cdlw "_law_well" = true)
    (kglw : PySem.W.keepIn K (.ref glw) = true)
    (agld : PySem.W.nsIn K mainGlobals "_law_dip" = some (some (.ref gld)))
    (lgld : K.lookup gld = some ⟨ocld, odld, .func (PySem.W.fnOf "_law_dip" "_law_dip" (defArgs sDip) (defBody sDip) (defScope sDip) .none kVld dcld pmld anld cdld ctld), slld⟩)
    (cgld : PySem.W.codeIn K cdld "_law_dip" = true)
    (kgld : PySem.W.keepIn K (.ref gld) = true)
    (aglp : PySem.W.nsIn K mainGlobals "_law_pick" = some (some (.ref glp)))
    (lglp : K.lookup glp = some ⟨oclp, odlp, .func (PySem.W.fnOf "_law_pick" "_law_pick" (defArgs sPick) (defBody sPick) (defScope sPick) .none kVlp dclp pmlp anlp cdlp ctlp), sllp⟩)
    (cglp : PySem.W.codeIn K cdlp "_law_pick" = true)
    (kglp : PySem.W.keepIn K (.ref glp) = true)
    (aglt : PySem.W.nsIn K mainGlobals "_law_terms" = some (some (.ref glt)))
    (lglt : K.lookup glt = some ⟨oclt, odlt, .func (PySem.W.fnOf "_law_terms" "_law_terms" (defArgs sTerms) (defBody sTerms) (defScope sTerms) .none kVlt dclt pmlt anlt cdlt ctlt), sllt⟩)
    (cglt : PySem.W.codeIn K cdlt "_law_terms" = true)
    (kglt : PySem.W.keepIn K (.ref glt) = true)
    (agls : PySem.W.nsIn K mainGlobals "_law_sketch" = some (some (.ref gls)))
    (lgls : K.lookup gls = some ⟨ocls, odls, .func (PySem.W.fnOf "_law_sketch" "_law_sketch" (defArgs sSketch) (defBody sSketch) (defScope sSketch) .none kVls dcls pmls anls cdls ctls), slls⟩)
    (cgls : PySem.W.codeIn K cdls "_law_sketch" = true)
    (kgls : PySem.W.keepIn K (.ref gls) = true)
    (aglx : PySem.W.nsIn K mainGlobals "_law_text" = some (some (.ref glx)))
    (lglx : K.lookup glx = some ⟨oclx, odlx, .func (PySem.W.fnOf "_law_text" "_law_text" (defArgs sText) (defBody sText) (defScope sText) .none kVlx dclx pmlx anlx cdlx ctlx), sllx⟩)
    (cglx : PySem.W.codeIn K cdlx "_law_text" = true)
    (kglx : PySem.W.keepIn K (.ref glx) = true)
    (agle : PySem.W.nsIn K mainGlobals "_law_led" = some (some (.ref gle)))
    (lgle : K.lookup gle = some ⟨ocle, odle, .func (PySem.W.fnOf "_law_led" "_law_led" (defArgs sLed) (defBody sLed) (defScope sLed) .none kVle dcle pmle anle cdle ctle), slle⟩)
    (cgle : PySem.W.codeIn K cdle "_law_led" = true)
    (kgle : PySem.W.keepIn K (.ref gle) = true)
    (aglf : PySem.W.nsIn K mainGlobals "_law_is_fine" = some (some (.ref glf)))
    (lglf : K.lookup glf = some ⟨oclf, odlf, .func (PySem.W.fnOf "_law_is_fine" "_law_is_fine" (defArgs sFine) (defBody sFine) (defScope sFine) .none kVlf dclf pmlf anlf cdlf ctlf), sllf⟩)
    (cglf : PySem.W.codeIn K cdlf "_law_is_fine" = true)
    (kglf : PySem.W.keepIn K (.ref glf) = true)
    (agln : PySem.W.nsIn K mainGlobals "_law_lines" = some (some (.ref gln)))
    (lgln : K.lookup gln = some ⟨ocln, odln, .func (PySem.W.fnOf "_law_lines" "_law_lines" (defArgs sLinesL) (defBody sLinesL) (defScope sLinesL) .none kVln dcln pmln anln cdln ctln), slln⟩)
    (cgln : PySem.W.codeIn K cdln "_law_lines" = true)
    (kgln : PySem.W.keepIn K (.ref gln) = true)
    (aglb : PySem.W.nsIn K mainGlobals "_law_beside" = some (some (.ref glb)))
    (lglb : K.lookup glb = some ⟨oclb, odlb, .func (PySem.W.fnOf "_law_beside" "_law_beside" (defArgs sBeside) (defBody sBeside) (defScope sBeside) .none kVlb dclb pmlb anlb cdlb ctlb), sllb⟩)
    (cglb : PySem.W.codeIn K cdlb "_law_beside" = true)
    (kglb : PySem.W.keepIn K (.ref glb) = true)
    (aglo : PySem.W.nsIn K mainGlobals "_law_odd" = some (some (.ref glo)))
    (lglo : K.lookup glo = some ⟨oclo, odlo, .func (PySem.W.fnOf "_law_odd" "_law_odd" (defArgs sOdd) (defBody sOdd) (defScope sOdd) .none kVlo dclo pmlo anlo cdlo ctlo), sllo⟩)
    (cglo : PySem.W.codeIn K cdlo "_law_odd" = true)
    (kglo : PySem.W.keepIn K (.ref glo) = true)
    (aglr : PySem.W.nsIn K mainGlobals "_law_error" = some (some (.ref glr)))
    (lglr : K.lookup glr = some ⟨oclr, odlr, .func (PySem.W.fnOf "_law_error" "_law_error" (defArgs sError) (defBody sError) (defScope sError) .none kVlr dclr pmlr anlr cdlr ctlr), sllr⟩)
    (cglr : PySem.W.codeIn K cdlr "_law_error" = true)
    (kglr : PySem.W.keepIn K (.ref glr) = true)
    (aglc : PySem.W.nsIn K mainGlobals "_law_class" = some (some (.ref glc)))
    (lglc : K.lookup glc = some ⟨oclc, odlc, .func (PySem.W.fnOf "_law_class" "_law_class" (defArgs sClass) (defBody sClass) (defScope sClass) .none kVlc dclc pmlc anlc cdlc ctlc), sllc⟩)
    (cglc : PySem.W.codeIn K cdlc "_law_class" = true)
    (kglc : PySem.W.keepIn K (.ref glc) = true)
    (agli : PySem.W.nsIn K mainGlobals "_law_field" = some (some (.ref gli)))
    (lgli : K.lookup gli = some ⟨ocli, odli, .func (PySem.W.fnOf "_law_field" "_law_field" (defArgs sField) (defBody sField) (defScope sField) .none kVli dcli pmli anli cdli ctli), slli⟩)
    (cgli : PySem.W.codeIn K cdli "_law_field" = true)
    (kgli : PySem.W.keepIn K (.ref gli) = true)
    (aglu : PySem.W.nsIn K mainGlobals "_law_rule" = some (some (.ref glu)))
    (lglu : K.lookup glu = some ⟨oclu, odlu, .func (PySem.W.fnOf "_law_rule" "_law_rule" (defArgs sRuleL) (defBody sRuleL) (defScope sRuleL) .none kVlu dclu pmlu anlu cdlu ctlu), sllu⟩)
    (cglu : PySem.W.codeIn K cdlu "_law_rule" = true)
    (kglu : PySem.W.keepIn K (.ref glu) = true)
    (aglk : PySem.W.nsIn K mainGlobals "_law_counted" = some (some (.ref glk)))
    (lglk : K.lookup glk = some ⟨oclk, odlk, .func (PySem.W.fnOf "_law_counted" "_law_counted" (defArgs sCountedK) (defBody sCountedK) (defScope sCountedK) .none kVlk dclk pmlk anlk cdlk ctlk), sllk⟩)
    (cglk : PySem.W.codeIn K cdlk "_law_counted" = true)
    (kglk : PySem.W.keepIn K (.ref glk) = true)
    (aglg : PySem.W.nsIn K mainGlobals "_law_right" = some (some (.ref glg)))
    (lglg : K.lookup glg = some ⟨oclg, odlg, .func (PySem.W.fnOf "_law_right" "_law_right" (defArgs sRight) (defBody sRight) (defScope sRight) .none kVlg dclg pmlg anlg (.ref clg) ctlg), sllg⟩)
    (cglg : PySem.W.codeIn K (.ref clg) "_law_right" = true)
    (kglg : PySem.W.keepIn K (.ref glg) = true)
    (agll : PySem.W.nsIn K mainGlobals "law" = some (some (.ref gll)))
    (lgll : K.lookup gll = some ⟨ocll, odll, .func (PySem.W.fnOf "law" "law" (defArgs sLaw) (defBody sLaw) (defScope sLaw) .none kVll dcll pmll anll cdll ctll), slll⟩)
    (cgll : PySem.W.codeIn K cdll "law" = true)
    (kgll : PySem.W.keepIn K (.ref gll) = true)
    (lzps : K.lookup cps = some ⟨ozps, owps, .fields vzps, szps⟩)
    (pzps : vzps[11]? = some (.ref Pps))
    (lzpt : K.lookup cpt = some ⟨ozpt, owpt, .fields vzpt, szpt⟩)
    (pzpt : vzpt[11]? = some (.ref Ppt))
    (lzfg : K.lookup cfg = some ⟨ozfg, owfg, .fields vzfg, szfg⟩)
    (pzfg : vzfg[11]? = some (.ref Pfg))
    (lzlg : K.lookup clg = some ⟨ozlg, owlg, .fields vzlg, szlg⟩)
    (pzlg : vzlg[11]? = some (.ref Plg))
    (amri : PySem.W.findIn K (.ref CU) "__init__" = some (some (.ref gri)))
    (airi : PySem.W.isFn K (.ref gri) = true)
    (lgri : K.lookup gri = some ⟨ocri, odri, .func (PySem.W.fnOf "__init__" "Rule.__init__" (defArgs sInit) (defBody sInit) (defScope sInit) .none kVri dcri pmri anri cdri ctri), slri⟩)
    (cgri : PySem.W.codeIn K cdri "Rule.__init__" = true)
    (kgri : PySem.W.keepIn K (.ref gri) = true)
    (atT : PySem.W.findIn K (.ref CU) "text" = some (some (.ref pT)))
    (gtT : PySem.W.specialIn K (.ref pT) "__get__" = some (some (.builtin "property.__get__")))
    (ttT : PySem.W.takesIn K (.ref pT) = some true)
    (rtT : PySem.W.recIn K pT "property" = some (.ref gpT :: rsT))
    (lgpT : K.lookup gpT = some ⟨ocpT, odpT, .func (PySem.W.fnOf "text" "Rule.text" (defArgs (inClass sRule 1)) (defBody (inClass sRule 1)) (defScope (inClass sRule 1)) .none kVpT dcpT pmpT anpT cdpT ctpT), slpT⟩)
    (cgpT : PySem.W.codeIn K cdpT "Rule.text" = true)
    (kgpT : PySem.W.keepIn K (.ref gpT) = true)
    (atS : PySem.W.findIn K (.ref CU) "signs" = some (some (.ref pS)))
    (gtS : PySem.W.specialIn K (.ref pS) "__get__" = some (some (.builtin "property.__get__")))
    (ttS : PySem.W.takesIn K (.ref pS) = some true)
    (rtS : PySem.W.recIn K pS "property" = some (.ref gpS :: rsS))
    (lgpS : K.lookup gpS = some ⟨ocpS, odpS, .func (PySem.W.fnOf "signs" "Rule.signs" (defArgs (inClass sRule 2)) (defBody (inClass sRule 2)) (defScope (inClass sRule 2)) .none kVpS dcpS pmpS anpS cdpS ctpS), slpS⟩)
    (cgpS : PySem.W.codeIn K cdpS "Rule.signs" = true)
    (kgpS : PySem.W.keepIn K (.ref gpS) = true)
    (atM : PySem.W.findIn K (.ref CU) "moods" = some (some (.ref pM)))
    (gtM : PySem.W.specialIn K (.ref pM) "__get__" = some (some (.builtin "property.__get__")))
    (ttM : PySem.W.takesIn K (.ref pM) = some true)
    (rtM : PySem.W.recIn K pM "property" = some (.ref gpM :: rsM))
    (lgpM : K.lookup gpM = some ⟨ocpM, odpM, .func (PySem.W.fnOf "moods" "Rule.moods" (defArgs (inClass sRule 3)) (defBody (inClass sRule 3)) (defScope (inClass sRule 3)) .none kVpM dcpM pmpM anpM cdpM ctpM), slpM⟩)
    (cgpM : PySem.W.codeIn K cdpM "Rule.moods" = true)
    (kgpM : PySem.W.keepIn K (.ref gpM) = true)
    (atG : PySem.W.findIn K (.ref CU) "good" = some (some (.ref pG)))
    (gtG : PySem.W.specialIn K (.ref pG) "__get__" = some (some (.builtin "property.__get__")))
    (ttG : PySem.W.takesIn K (.ref pG) = some true)
    (rtG : PySem.W.recIn K pG "property" = some (.ref gpG :: rsG))
    (lgpG : K.lookup gpG = some ⟨ocpG, odpG, .func (PySem.W.fnOf "good" "Rule.good" (defArgs (inClass sRule 4)) (defBody (inClass sRule 4)) (defScope (inClass sRule 4)) .none kVpG dcpG pmpG anpG cdpG ctpG), slpG⟩)
    (cgpG : PySem.W.codeIn K cdpG "Rule.good" = true)
    (kgpG : PySem.W.keepIn K (.ref gpG) = true)
    (av0 : PySem.W.nsIn K mainGlobals "MOST_SIGNS" = some (some (.int 3 tk0)))
    (av1 : PySem.W.nsIn K mainGlobals "MOST_MOODS" = some (some (.int 300 tk1)))
    (av2 : PySem.W.nsIn K mainGlobals "MOST_ROW" = some (some (.int 1000 tk2)))
    (av3 : PySem.W.nsIn K mainGlobals "LONGEST_WORD" = some (some (.int 8 tk3)))
    (av4 : PySem.W.nsIn K mainGlobals "LETTERS" = some (some (.str abc tk4)))
    (av6 : PySem.W.nsIn K mainGlobals "EVEN" = some (some (.str tV tk6)))
    (av7 : PySem.W.nsIn K mainGlobals "FREE" = some (some (.str tF tk7)))
    (atTT : PySem.W.nsIn K mainGlobals "TITLES" = some (some (.ref tT)))
    (ltT : K.lookup tT = some ⟨.type "tuple", none, .seq #[.str "signs" u0, .str "moods" u1, .str "good" u2] nT, slT⟩)
    (pg : PySem.W.plainGet K CU Str.empty = true)
    (hd : PySem.W.hasDictIn K CU = true)
    (po : PySem.W.plainOver K CU = true)
    (sa : PySem.W.findIn K (.ref CU) "__setattr__" = some (some (.builtin "object.__setattr__")))
    (mk : PySem.W.makesIn K CU = true)
    (kc : PySem.W.keepIn K (.ref CU) = true)
    (nf0 : PySem.W.findIn K (.ref CU) "written" = some none)
    (nf1 : PySem.W.findIn K (.ref CU) "letters" = some none)
    (nf2 : PySem.W.findIn K (.ref CU) "words" = some none)
    (nf3 : PySem.W.findIn K (.ref CU) "chosen" = some none)
    (nf4 : PySem.W.findIn K (.ref CU) "goals" = some none)
    (ic1 : PySem.W.findIn K (.ref CU) "__class__" = some (some (.builtin "object.__class__")))
    (ic2 : PySem.W.specialIn K (.builtin "object.__class__") "__get__" = some (some (.builtin "getset_descriptor.__get__")))
    (ic3 : PySem.W.takesIn K (.builtin "object.__class__") = some true)
    (ic4 : PySem.W.mroIn K CU (.type "object") = some true)
    (ic5 : PySem.W.kitOne K (.ref CU) (.ref CU) = some true)
    (ndT : [Pps, Ppt, Pfg, Plg].Nodup)
    (hch3 : chk K C3 3 [C0, C1, C2, C3, C4, C5, C6, C7, C8, C9, C10] [B0, B1, B2] = true) (hch7 : chk K C7 7 [C0, C1, C2, C3, C4, C5, C6, C7, C8, C9, C10] [B0, B1, B2] = true) (hnu : noU K CU = true) (hcf : chkF K = true) :
    ∃ fd : FuncData, (∀ (s : Shared) (v : Value), BindsTo s fd ⟨[v], []⟩ [("_law_script", v)]) ∧ ∀ base : Heap, K.In base → base.Ns mainGlobals mg → (∀ q ∈ [(cps, Pps), (cpt, Ppt), (cfg, Pfg), (clg, Plg)], TabB base mg q.1 q.2) → FnG l.prog w K mg base CX0 9 fa fd ["_law_script"] (spLaw K [(Pps, qStep), (Ppt, qTest), (Pfg, qFg), (Plg, qL)]) := by
  have e := hfa.symm.trans (PySem.W.mg_of X G agll)
  cases e
  have fr := fun {x : Str} (hx : x ∈ frees) => free_of X G hcf hx
  obtain ⟨E3, X3, y3⟩ := chk_of (by decide) hch3
  obtain ⟨E7, X7, y7⟩ := chk_of (by decide) hch7
  have mcC0 := PySem.W.mg_of X G acC0
  have mcC1 := PySem.W.mg_of X G acC1
  have mcC2 := PySem.W.mg_of X G acC2
  have mcC3 := PySem.W.mg_of X G acC3
  have mcC4 := PySem.W.mg_of X G acC4
  have mcC5 := PySem.W.mg_of X G acC5
  have mcC6 := PySem.W.mg_of X G acC6
  have mcC7 := PySem.W.mg_of X G acC7
  have mcC8 := PySem.W.mg_of X G acC8
  have mcC9 := PySem.W.mg_of X G acC9
  have mcC10 := PySem.W.mg_of X G acC10
  have mcB0 := PySem.W.mg_of X G acB0
  have mcB1 := PySem.W.mg_of X G acB1
  have mcB2 := PySem.W.mg_of X G acB2
  have Fvc := fun_mk (st := (inClass (top 6) 0)) lgvc cgvc kgvc
  have bvc := Fvc.binds (ps := ["self", "given"]) fun _ _ _ _ _ _ us hl => match us, hl with | [_, _], _ => rfl
  have Fvd := fun_mk (st := (inClass (top 10) 0)) lgvd cgvd kgvd
  have bvd := Fvd.binds (ps := ["self", "given"]) fun _ _ _ _ _ _ us hl => match us, hl with | [_, _], _ => rfl
  have mcCU := PySem.W.mg_of X G acCU
  have Fib := fun_mk (st := sBounds) lgib cgib kgib
  have bib := Fib.binds (ps := ["value", "low", "high"]) fun _ _ _ _ _ _ us hl => match us, hl with | [_, _, _], _ => rfl
  have mib := PySem.W.mg_of X G agib
  have Fol := fun_mk (st := sMade) lgol cgol kgol
  have bol := Fol.binds (ps := ["text", "letters"]) fun _ _ _ _ _ _ us hl => match us, hl with | [_, _], _ => rfl
  have mol := PySem.W.mg_of X G agol
  have Fiw := fun_mk (st := sWord) lgiw cgiw kgiw
  have biw := Fiw.binds (ps := ["text"]) fun _ _ _ _ _ _ us hl => match us, hl with | [_], _ => rfl
  have miw := PySem.W.mg_of X G agiw
  have Fas := fun_mk (st := sSigns) lgas cgas kgas
  have bas := Fas.binds (ps := ["words"]) fun _ _ _ _ _ _ us hl => match us, hl with | [_], _ => rfl
  have mas := PySem.W.mg_of X G agas
  have Fam := fun_mk (st := sMoods) lgam cgam kgam
  have bam := Fam.binds (ps := ["words"]) fun _ _ _ _ _ _ us hl => match us, hl with | [_], _ => rfl
  have mam := PySem.W.mg_of X G agam
  have Fag := fun_mk (st := sGood) lgag cgag kgag
  have bag := Fag.binds (ps := ["words", "moods"]) fun _ _ _ _ _ _ us hl => match us, hl with | [_, _], _ => rfl
  have mag := PySem.W.mg_of X G agag
  have Frg := fun_mk (st := sGoals) lgrg cgrg kgrg
  have brg := Frg.binds (ps := ["signs", "moods", "rows"]) fun _ _ _ _ _ _ us hl => match us, hl with | [_, _, _], _ => rfl
  have mrg := PySem.W.mg_of X G agrg
  have Frr := fun_mk (st := sRead) lgrr cgrr kgrr
  have brr := Frr.binds (ps := ["text"]) fun _ _ _ _ _ _ us hl => match us, hl with | [_], _ => rfl
  have mrr := PySem.W.mg_of X G agrr
  have Fcr := fun_mk (st := sCRule) lgcr cgcr kgcr
  have bcr := Fcr.binds (ps := ["value"]) fun _ _ _ _ _ _ us hl => match us, hl with | [_], _ => rfl
  have mcr := PySem.W.mg_of X G agcr
  have Frb := fun_mk (st := sRowBack) lgrb cgrb kgrb
  have brb := Frb.binds (ps := ["came", "state"]) fun _ _ _ _ _ _ us hl => match us, hl with | [_, _], _ => rfl
  have mrb := PySem.W.mg_of X G agrb
  have Ffr := fun_mk (st := sFirstRow) lgfr cgfr kgfr
  have bfr := Ffr.binds (ps := ["signs", "start", "step", "wanted"]) fun _ _ _ _ _ _ us hl => match us, hl with | [_, _, _, _], _ => rfl
  have mfr := PySem.W.mg_of X G agfr
  have Ffm := fun_mk (st := sFirstMo) lgfm cgfm kgfm
  have bfm := Ffm.binds (ps := ["one", "other"]) fun _ _ _ _ _ _ us hl => match us, hl with | [_, _], _ => rfl
  have mfm := PySem.W.mg_of X G agfm
  have Fps := fun_mk (st := sPairStep) lgps cgps kgps
  have bps := Fps.binds (ps := ["one", "other"]) fun _ _ _ _ _ _ us hl => match us, hl with | [_, _], _ => rfl
  have mps := PySem.W.mg_of X G agps
  have Fpt := fun_mk (st := sPairTest) lgpt cgpt kgpt
  have bpt := Fpt.binds (ps := ["one", "other", "test"]) fun _ _ _ _ _ _ us hl => match us, hl with | [_, _, _], _ => rfl
  have mpt := PySem.W.mg_of X G agpt
  have Ffs := fun_mk (st := sFirstSh) lgfs cgfs kgfs
  have bfs := Ffs.binds (ps := ["one", "other", "test"]) fun _ _ _ _ _ _ us hl => match us, hl with | [_, _, _], _ => rfl
  have mfs := PySem.W.mg_of X G agfs
  have Ffg := fun_mk (st := sFirstGood) lgfg cgfg kgfg
  have bfg := Ffg.binds (ps := ["rule"]) fun _ _ _ _ _ _ us hl => match us, hl with | [_], _ => rfl
  have mfg := PySem.W.mg_of X G agfg
  have Fma := fun_mk (st := sMany) lgma cgma kgma
  have bma := Fma.binds (ps := ["rule", "number"]) fun _ _ _ _ _ _ us hl => match us, hl with | [_, _], _ => rfl
  have mma := PySem.W.mg_of X G agma
  have Fsv := fun_mk (st := sEvenR) lgsv cgsv kgsv
  have bsv := Fsv.binds (ps := []) fun _ _ _ _ _ _ us hl => match us, hl with | [], _ => rfl
  have msv := PySem.W.mg_of X G agsv
  have Fsf := fun_mk (st := sFreeR) lgsf cgsf kgsf
  have bsf := Fsf.binds (ps := []) fun _ _ _ _ _ _ us hl => match us, hl with | [], _ => rfl
  have msf := PySem.W.mg_of X G agsf
  have Flw := fun_mk (st := sWell) lglw cglw kglw
  have blw := Flw.binds (ps := ["_law_script", "_law_turn"]) fun _ _ _ _ _ _ us hl => match us, hl with | [_, _], _ => rfl
  have mlw := PySem.W.mg_of X G aglw
  have Fld := fun_mk (st := sDip) lgld cgld kgld
  have bld := Fld.binds (ps := ["_law_well_here", "_law_size"]) fun _ _ _ _ _ _ us hl => match us, hl with | [_, _], _ => rfl
  have mld := PySem.W.mg_of X G agld
  have Flp := fun_mk (st := sPick) lglp cglp kglp
  have blp := Flp.binds (ps := ["_law_well_here", "_law_menu"]) fun _ _ _ _ _ _ us hl => match us, hl with | [_, _], _ => rfl
  have mlp := PySem.W.mg_of X G aglp
  have Flt := fun_mk (st := sTerms) lglt cglt kglt
  have blt := Flt.binds (ps := ["_law_well_here", "_law_size"]) fun _ _ _ _ _ _ us hl => match us, hl with | [_, _], _ => rfl
  have mlt := PySem.W.mg_of X G aglt
  have Fls := fun_mk (st := sSketch) lgls cgls kgls
  have bls := Fls.binds (ps := ["_law_well_here", "_law_most_signs", "_law_most_moods"]) fun _ _ _ _ _ _ us hl => match us, hl with | [_, _, _], _ => rfl
  have mls := PySem.W.mg_of X G agls
  have Flx := fun_mk (st := sText) lglx cglx kglx
  have blx := Flx.binds (ps := ["_law_sketch_here"]) fun _ _ _ _ _ _ us hl => match us, hl with | [_], _ => rfl
  have mlx := PySem.W.mg_of X G aglx
  have Fle := fun_mk (st := sLed) lgle cgle kgle
  have ble := Fle.binds (ps := ["_law_sketch_here", "_law_temper", "_law_line"]) fun _ _ _ _ _ _ us hl => match us, hl with | [_, _, _], _ => rfl
  have mle := PySem.W.mg_of X G agle
  have Flf := fun_mk (st := sFine) lglf cglf kglf
  have blf := Flf.binds (ps := ["_law_sketch_here", "_law_line"]) fun _ _ _ _ _ _ us hl => match us, hl with | [_, _], _ => rfl
  have mlf := PySem.W.mg_of X G aglf
  have Fln := fun_mk (st := sLinesL) lgln cgln kgln
  have bln := Fln.binds (ps := ["_law_letters", "_law_most"]) fun _ _ _ _ _ _ us hl => match us, hl with | [_, _], _ => rfl
  have mln := PySem.W.mg_of X G agln
  have Flb := fun_mk (st := sBeside) lglb cglb kglb
  have blb := Flb.binds (ps := ["_law_fore", "_law_hind"]) fun _ _ _ _ _ _ us hl => match us, hl with | [_, _], _ => rfl
  have mlb := PySem.W.mg_of X G aglb
  have Flo := fun_mk (st := sOdd) lglo cglo kglo
  have blo := Flo.binds (ps := ["_law_well_here"]) fun _ _ _ _ _ _ us hl => match us, hl with | [_], _ => rfl
  have mlo := PySem.W.mg_of X G aglo
  have Flr := fun_mk (st := sError) lglr cglr kglr
  have blr := Flr.binds (ps := ["_law_act"]) fun _ _ _ _ _ _ us hl => match us, hl with | [_], _ => rfl
  have mlr := PySem.W.mg_of X G aglr
  have Flc := fun_mk (st := sClass) lglc cglc kglc
  have blc := Flc.binds (ps := ["_law_e"]) fun _ _ _ _ _ _ us hl => match us, hl with | [_], _ => rfl
  have mlc := PySem.W.mg_of X G aglc
  have Fli := fun_mk (st := sField) lgli cgli kgli
  have bli := Fli.binds (ps := ["_law_e"]) fun _ _ _ _ _ _ us hl => match us, hl with | [_], _ => rfl
  have mli := PySem.W.mg_of X G agli
  have Flu := fun_mk (st := sRuleL) lglu cglu kglu
  have blu := Flu.binds (ps := ["_law_sketch_here"]) fun _ _ _ _ _ _ us hl => match us, hl with | [_], _ => rfl
  have mlu := PySem.W.mg_of X G aglu
  have Flk := fun_mk (st := sCountedK) lglk cglk kglk
  have blk := Flk.binds (ps := ["_law_sketch_here", "_law_measure"]) fun _ _ _ _ _ _ us hl => match us, hl with | [_, _], _ => rfl
  have mlk := PySem.W.mg_of X G aglk
  have Flg := fun_mk (st := sRight) lglg cglg kglg
  have blg := Flg.binds (ps := ["_law_well_here"]) fun _ _ _ _ _ _ us hl => match us, hl with | [_], _ => rfl
  have mlg := PySem.W.mg_of X G aglg
  have Fll := fun_mk (st := sLaw) lgll cgll kgll
  have bll := Fll.binds (ps := ["_law_script"]) fun _ _ _ _ _ _ us hl => match us, hl with | [_], _ => rfl
  have mll := PySem.W.mg_of X G agll
  have Fri := fun_mk (st := sInit) lgri cgri kgri
  have bri := Fri.binds (ps := ["self", "text"]) fun _ _ _ _ _ _ us hl => match us, hl with | [_, _], _ => rfl
  have FpT := fun_mk (st := (inClass sRule 1)) lgpT cgpT kgpT
  have bpT := FpT.binds (ps := ["self"]) fun _ _ _ _ _ _ us hl => match us, hl with | [_], _ => rfl
  have FpS := fun_mk (st := (inClass sRule 2)) lgpS cgpS kgpS
  have bpS := FpS.binds (ps := ["self"]) fun _ _ _ _ _ _ us hl => match us, hl with | [_], _ => rfl
  have FpM := fun_mk (st := (inClass sRule 3)) lgpM cgpM kgpM
  have bpM := FpM.binds (ps := ["self"]) fun _ _ _ _ _ _ us hl => match us, hl with | [_], _ => rfl
  have FpG := fun_mk (st := (inClass sRule 4)) lgpG cgpG kgpG
  have bpG := FpG.binds (ps := ["self"]) fun _ _ _ _ _ _ us hl => match us, hl with | [_], _ => rfl
  have v0 := PySem.W.mg_of X G av0
  have v1 := PySem.W.mg_of X G av1
  have v2 := PySem.W.mg_of X G av2
  have v3 := PySem.W.mg_of X G av3
  have v4 := PySem.W.mg_of X G av4
  have v6 := PySem.W.mg_of X G av6
  have v7 := PySem.W.mg_of X G av7
  refine ⟨PySem.W.fnOf "law" "law" (defArgs sLaw) (defBody sLaw) (defScope sLaw) .none kVll dcll pmll anll cdll ctll, fun s v => .of_eq rfl, fun base _ _ hTB => ?_⟩
  have TBs : TabB base mg cps Pps := hTB (cps, Pps) (by simp)
  have TBt : TabB base mg cpt Ppt := hTB (cpt, Ppt) (by simp)
  have TBp : TabB base mg cfg Pfg := hTB (cfg, Pfg) (by simp)
  have TBw : TabB base mg clg Plg := hTB (clg, Plg) (by simp)
  have nd1 : Pps ≠ Ppt ∧ Pps ≠ Pfg ∧ Pps ≠ Plg ∧ Ppt ≠ Pfg ∧ Ppt ≠ Plg ∧ Pfg ≠ Plg := by
    simp only [List.nodup_cons, List.mem_cons, List.not_mem_nil, or_false, not_or] at ndT
    exact ⟨ndT.1.1, ndT.1.2.1, ndT.1.2.2, ndT.2.1.1, ndT.2.1.2, ndT.2.2.1⟩
  obtain ⟨d1, d2, d3, d4, d5, d6⟩ := nd1
  have uq : ∀ (Pz : Addr) (qz : Str), (Pz, qz) ∈ [(Pps, qStep), (Ppt, qTest), (Pfg, qFg), (Plg, qL)] → ∀ z ∈ [(Pps, qStep), (Ppt, qTest), (Pfg, qFg), (Plg, qL)], z.1 = Pz → z.2 = qz := by
    intro Pz qz hz z hz2 e
    simp only [List.mem_cons, List.not_mem_nil, or_false, Prod.mk.injEq] at hz hz2
    rcases hz with ⟨rfl, rfl⟩ | ⟨rfl, rfl⟩ | ⟨rfl, rfl⟩ | ⟨rfl, rfl⟩ <;> rcases hz2 with rfl | rfl | rfl | rfl <;> first | rfl | exact absurd e d1 | exact absurd e.symm d1 | exact absurd e d2 | exact absurd e.symm d2 | exact absurd e d3 | exact absurd e.symm d3 | exact absurd e d4 | exact absurd e.symm d4 | exact absurd e d5 | exact absurd e.symm d5 | exact absurd e d6 | exact absurd e.symm d6
  have ms : (Pps, qStep) ∈ [(Pps, qStep), (Ppt, qTest), (Pfg, qFg), (Plg, qL)] := by simp
  have mt : (Ppt, qTest) ∈ [(Pps, qStep), (Ppt, qTest), (Pfg, qFg), (Plg, qL)] := by simp
  have mp : (Pfg, qFg) ∈ [(Pps, qStep), (Ppt, qTest), (Pfg, qFg), (Plg, qL)] := by simp
  have mw : (Plg, qL) ∈ [(Pps, qStep), (Ppt, qTest), (Pfg, qFg), (Plg, qL)] := by simp
  have T : RuC K CU := ⟨⟨pg, hd, po, sa⟩, nf0, nf1, nf2, nf3, nf4⟩
  have IU : InR K CU := ⟨T.cl, ic1, ic2, ic3, ic4, ic5⟩
  have Z3 : RzC l.prog w K mg base "InvalidNumber" C3 := ⟨mk_c3 Fvc X3 E3.no mcC3 amvc tvc, X3.toExcC.hs, y3⟩
  have Z7 : RzC l.prog w K mg base "NotARule" C7 := ⟨mk_c7 Fvd X7 E7.no mcC7 amvd tvd, X7.toExcC.hs, y7⟩
  have hIb : Hv l.prog w K mg base 1 "in_bounds" ["value", "low", "high"] (spInB K) := ⟨_, _, ok_inb Fib (fr (by decide)) (fr (by decide)) (fr (by decide)), bib, mib, kgib⟩
  have hOl : Hv l.prog w K mg base 1 "made_of" ["text", "letters"] spMade := ⟨_, _, ok_made Fol (fr (by decide)), bol, mol, kgol⟩
  have hIw : Hv l.prog w K mg base 2 "is_word" ["text"] spWord := ⟨_, _, ok_word Fiw hOl (fr (by decide)) v3 v4, biw, miw, kgiw⟩
  have hAs : Hv l.prog w K mg base 2 "are_signs" ["words"] (spSigns K) := ⟨_, _, ok_signs Fas hOl v4 (fr (by decide)) (fr (by decide)) (fr (by decide)) v0, bas, mas, kgas⟩
  have hAm : Hv l.prog w K mg base 3 "are_moods" ["words"] (spMoods K) := ⟨_, _, ok_moods Fam hIw (fr (by decide)) (fr (by decide)) (fr (by decide)) v1, bam, mam, kgam⟩
  have hAg : Hv l.prog w K mg base 1 "are_good" ["words", "moods"] (spGood K) := ⟨_, _, ok_good Fag, bag, mag, kgag⟩
  have hRg : Hv l.prog w K mg base 1 "read_goals" ["signs", "moods", "rows"] spGoals := ⟨_, _, ok_goals Frg (fr (by decide)) (fr (by decide)), brg, mrg, kgrg⟩
  have kT : ∀ H, SqT K H tT (titles.map V.str) := fun H => .inr ⟨_, _, _, ltT, rfl, rfl, by show 3 ≤ sizeLine; decide, .cons ⟨_, rfl⟩ (.cons ⟨_, rfl⟩ (.cons ⟨_, rfl⟩ .nil))⟩
  have hRr : Hv l.prog w K mg base 4 "read_rule" ["text"] spRead := ⟨_, _, ok_read Frr hAs hAm hAg hRg (PySem.W.mg_of X G atTT) kT (fr (by decide)) (fr (by decide)), brr, mrr, kgrr⟩
  have GI := ok_init (P := l.prog) (w := w) (base := base) Fri T hRr (fr (by decide)) (fr (by decide))
  have MI : Mk K CU gri := ⟨mk, amri, airi, kc⟩
  have scT : FnScope ["self"] ["self"] (defScope (inClass sRule 1)) := ⟨rfl, rfl, rfl, by decide +kernel, rfl, by decide +kernel, by decide +kernel⟩
  have GT : FnOk l.prog w K mg base CX0 1 gpT _ ["self"] (getSp CU "written") := fn_getter lgpT cgpT scT rfl rfl T.cl nf0
  have PT : PrF l.prog w K mg base CU "text" "written" := ⟨pT, gpT, _, ⟨atT, gtT, ttT, _, rtT⟩, GT, bpT⟩
  have scS : FnScope ["self"] ["self"] (defScope (inClass sRule 2)) := ⟨rfl, rfl, rfl, by decide +kernel, rfl, by decide +kernel, by decide +kernel⟩
  have GS : FnOk l.prog w K mg base CX0 1 gpS _ ["self"] (getSp CU "letters") := fn_getter lgpS cgpS scS rfl rfl T.cl nf1
  have PS : PrF l.prog w K mg base CU "signs" "letters" := ⟨pS, gpS, _, ⟨atS, gtS, ttS, _, rtS⟩, GS, bpS⟩
  have scM : FnScope ["self"] ["self"] (defScope (inClass sRule 3)) := ⟨rfl, rfl, rfl, by decide +kernel, rfl, by decide +kernel, by decide +kernel⟩
  have GM : FnOk l.prog w K mg base CX0 1 gpM _ ["self"] (getSp CU "words") := fn_getter lgpM cgpM scM rfl rfl T.cl nf2
  have PM : PrF l.prog w K mg base CU "moods" "words" := ⟨pM, gpM, _, ⟨atM, gtM, ttM, _, rtM⟩, GM, bpM⟩
  have scG : FnScope ["self"] ["self"] (defScope (inClass sRule 4)) := ⟨rfl, rfl, rfl, by decide +kernel, rfl, by decide +kernel, by decide +kernel⟩
  have GG : FnOk l.prog w K mg base CX0 1 gpG _ ["self"] (getSp CU "chosen") := fn_getter lgpG cgpG scG rfl rfl T.cl nf3
  have PG : PrF l.prog w K mg base CU "good" "chosen" := ⟨pG, gpG, _, ⟨atG, gtG, ttG, _, rtG⟩, GG, bpG⟩
  have hCr : Hv l.prog w K mg base 1 "check_rule" ["value"] (spCkR1 CU) := ⟨_, _, ok_ckR1 Fcr IU (fr (by decide)) mcCU, bcr, mcr, kgcr⟩
  have hCx : HvX l.prog w K mg base 3 "check_rule" ["value"] (spCkX K CU C7) := ⟨_, _, ok_ckX Fcr Z7 (fr (by decide)) mcCU, bcr, mcr, kgcr⟩
  have hRb : Hv l.prog w K mg base 1 "row_back" ["came", "state"] (spRowBack K) := ⟨_, _, ok_rowBack Frb (fr (by decide)), brb, mrb, kgrb⟩
  have hFr : Hv l.prog w K mg base 3 "first_row" ["signs", "start", "step", "wanted"] (spFirstRow l.prog w K mg base) := ⟨_, _, ok_firstRow Ffr hRb (fr (by decide)), bfr, mfr, kgfr⟩
  have hFm : Hv l.prog w K mg base 3 "first_moods" ["one", "other"] (spFirstMo CU) := ⟨_, _, ok_firstMo Ffm T PM, bfm, mfm, kgfm⟩
  have hPs : Hv l.prog w K mg base 1 "pair_step" ["one", "other"] (spPairStep K l.prog w mg base [(Pps, qStep), (Ppt, qTest), (Pfg, qFg), (Plg, qL)] CU) := ⟨_, _, ok_pairStep lgps cgps TBs ms (uq _ _ ms) T, bps, mps, kgps⟩
  have hPt : Hv l.prog w K mg base 3 "pair_test" ["one", "other", "test"] (spPairTest K l.prog w mg base [(Pps, qStep), (Ppt, qTest), (Pfg, qFg), (Plg, qL)] CU) := ⟨_, _, ok_pairTest lgpt cgpt TBt mt (uq _ _ mt) T PG, bpt, mpt, kgpt⟩
  have hFs : Hv l.prog w K mg base 4 "first_shown" ["one", "other", "test"] (spFirstSh K l.prog w mg base [(Pps, qStep), (Ppt, qTest), (Pfg, qFg), (Plg, qL)] CU) := ⟨_, _, ok_firstSh Ffs T PS hFr hFm hPs hPt, bfs, mfs, kgfs⟩
  have GMA := ok_many (P := l.prog) (w := w) (base := base) Fma T hCr hIb v2 PM PG (fr (by decide)) (fr (by decide))
  have GFG := ok_firstGd (P := l.prog) (w := w) (base := base) (T := [(Pps, qStep), (Ppt, qTest), (Pfg, qFg), (Plg, qL)]) lgfg cgfg TBp mp (uq _ _ mp) hCr hFs
  have hDp : Hv l.prog w K mg base 1 "_law_dip" ["_law_well_here", "_law_size"] spDip := ⟨_, _, ok_dip Fld (fr (by decide)), bld, mld, kgld⟩
  have hPl : Hv l.prog w K mg base 2 "_law_pick" ["_law_well_here", "_law_menu"] spPickL := ⟨_, _, ok_pickL Flp hDp (fr (by decide)), blp, mlp, kglp⟩
  have hTe : Hv l.prog w K mg base 3 "_law_terms" ["_law_well_here", "_law_size"] spTerms := ⟨_, _, ok_terms Flt hDp hPl (fr (by decide)) (fr (by decide)), blt, mlt, kglt⟩
  have hSk : Hv l.prog w K mg base 4 "_law_sketch" ["_law_well_here", "_law_most_signs", "_law_most_moods"] spSketch := ⟨_, _, ok_sketch Fls hDp hPl hTe (fr (by decide)) (fr (by decide)), bls, mls, kgls⟩
  have hTx : Hv l.prog w K mg base 1 "_law_text" ["_law_sketch_here"] spText := ⟨_, _, ok_text Flx, blx, mlx, kglx⟩
  have hLe : Hv l.prog w K mg base 1 "_law_led" ["_law_sketch_here", "_law_temper", "_law_line"] spLed := ⟨_, _, ok_led Fle, ble, mle, kgle⟩
  have hFi : Hv l.prog w K mg base 2 "_law_is_fine" ["_law_sketch_here", "_law_line"] spIsFine := ⟨_, _, ok_isfine Flf hLe, blf, mlf, kglf⟩
  have hLi : Hv l.prog w K mg base 1 "_law_lines" ["_law_letters", "_law_most"] spLinesL := ⟨_, _, ok_linesL Fln (fr (by decide)), bln, mln, kgln⟩
  have hBe : Hv l.prog w K mg base 1 "_law_beside" ["_law_fore", "_law_hind"] spBeside := ⟨_, _, ok_beside Flb (fr (by decide)), blb, mlb, kglb⟩
  have hOd : Hv l.prog w K mg base 2 "_law_odd" ["_law_well_here"] (spOdd K) := ⟨_, _, ok_odd Flo (ok_dip Fld (fr (by decide))) bld mld kgld (fr (by decide)), blo, mlo, kglo⟩
  have hCt : Hv l.prog w K mg base 1 "_law_counted" ["_law_sketch_here", "_law_measure"] spCountedK := ⟨_, _, ok_countedK Flk (fr (by decide)) (fr (by decide)), blk, mlk, kglk⟩
  have hRl : Hv l.prog w K mg base 7 "_law_rule" ["_law_sketch_here"] (spRuleL CU) := ⟨_, _, ok_ruleL Flu hTx MI GI bri mcCU, blu, mlu, kglu⟩
  have hSv : Hv l.prog w K mg base 7 "even_rule" [] (spSample CU tV pV) := ⟨_, _, ok_even_rule Fsv MI GI bri mcCU v6, bsv, msv, kgsv⟩
  have hSf : Hv l.prog w K mg base 7 "free_rule" [] (spSample CU tF pF) := ⟨_, _, ok_free_rule Fsf MI GI bri mcCU v7, bsf, msf, kgsf⟩
  have R : R9 l.prog w K mg base [(Pps, qStep), (Ppt, qTest), (Pfg, qFg), (Plg, qL)] CU C7 C3 (fun j => ([C0, C1, C2, C3, C4, C5, C6, C7, C8, C9, C10] : List Addr).getD j 0) B0 B1 B2 := {
    T' := T
    sk := hSk
    rl := hRl
    li := hLi
    fi := hFi
    dip := hDp
    odd := hOd
    pkL := hPl
    ct := hCt
    be := hBe
    my := ⟨_, _, GMA, bma, ⟨fun s us ws _ hu hw => match us, ws, hu, hw with | [], [_, _], _, _ => .of_eq rfl, fun _ q => vals_rev q⟩, mma, kgma⟩
    myN := ⟨_, _, ok_manyN Fma hCx, bma, mma, kgma⟩
    myB := ⟨_, _, ok_manyB Fma hCr hIb v2 Z3, bma, mma, kgma⟩
    fg := ⟨_, _, GFG, bfg, ⟨fun s us ws _ hu hw => match us, ws, hu, hw with | [], [_], _, _ => .of_eq rfl, fun r q => r.append q⟩, mfg, kgfg⟩
    fgN := ⟨_, _, ok_firstGdN Ffg hCx, bfg, mfg, kgfg⟩
    tx := PT
    nou := hnu
    EC7 := E7
    EC3 := E3
    hC := ⟨_, _, Flc, blc, mlc⟩
    hF := ⟨_, _, Fli, bli, mli⟩
    gc := fun j hj => match j, hj with
      | 0, _ => mcC0
      | 1, _ => mcC1
      | 2, _ => mcC2
      | 3, _ => mcC3
      | 4, _ => mcC4
      | 5, _ => mcC5
      | 6, _ => mcC6
      | 7, _ => mcC7
      | 8, _ => mcC8
      | 9, _ => mcC9
      | 10, _ => mcC10
      | n + 11, h => absurd h (by omega)
    g1 := mcB0
    g2 := mcB1
    g3 := mcB2
    hIs := (fr (by decide))
    hL := (fr (by decide))
    hVE := (fr (by decide))
    hLE := (fr (by decide))
    hAE := (fr (by decide))
    hI := (fr (by decide))
    hB := (fr (by decide))
    hRe := (fr (by decide))
    hRa := (fr (by decide))
    hMin := (fr (by decide))
    er := ⟨glr, oclr, odlr, kVlr, dclr, pmlr, anlr, cdlr, ctlr, sllr, mlr, kglr, lglr, cglr, blr⟩ }
  have GR := ok_right lglg cglg TBw mw (uq _ _ mw) R
  have GW := ok_well (P := l.prog) (w := w) (mg := mg) (base := base) Flw (fr (by decide)) (fr (by decide)) (fr (by decide))
  exact ok_law Fll (fr (by decide)) (fr (by decide)) (fr (by decide)) (fr (by decide)) (fr (by decide)) GW blw mlw kglw GR blg mlg kglg R hSv hSf
end
end My
open PySem PySem.W PyProof.Rows
set_option maxRecDepth 100000 in
set_option maxHeartbeats 0 in
theorem PySem.Challenge.cw_shortlooks_k09_good_rows_holds : PySem.Challenge.rw_shortlooks_k09_good_rows.Holds := by
  w_on; o_law; k_head; (case hw => w_witness2)
  k_fill
  refine' L2.walk_GT (l := PySem.Challenge.rw_shortlooks_k09_good_rows) (n := 63) (k := 9) (x := "_law_script") (ts := [(_, _), (_, _), (_, _), (_, _)]) (sp := fun K ts => My.spLaw K (My.tbOf ts)) rfl (by decide) rfl ⟨rfl, by decide, by decide⟩ (fun w h Y => PySem.W.km_in_of Y) ?Y ?F (fun _ _ a ns hl hT hS => ⟨a, ns, rfl, hS, hl, My.tabs_tb hT, fun _ => rfl⟩)
  case F =>
    intro w mg fa h KX G hmg
    refine' My.all_mk KX G hmg ?acC0 ?acC1 ?acC2 ?acC3 ?acC4 ?acC5 ?acC6 ?acC7 ?acC8 ?acC9 ?acC10 ?acB0 ?acB1 ?acB2 ?amvc ?aivc ?lgvc ?cgvc ?kgvc ?tvc ?amvd ?aivd ?lgvd ?cgvd ?kgvd ?tvd ?acCU ?agib ?lgib ?cgib ?kgib ?agol ?lgol ?cgol ?kgol ?agiw ?lgiw ?cgiw ?kgiw ?agas ?lgas ?cgas ?kgas ?agam ?lgam ?cgam ?kgam ?agag ?lgag ?cgag ?kgag ?agrg ?lgrg ?cgrg ?kgrg ?agrr ?lgrr ?cgrr ?kgrr ?agcr ?lgcr ?cgcr ?kgcr ?agrb ?lgrb ?cgrb ?kgrb ?agfr ?lgfr ?cgfr ?kgfr ?agfm ?lgfm ?cgfm ?kgfm ?agps ?lgps ?cgps ?kgps ?agpt ?lgpt ?cgpt ?kgpt ?agfs ?lgfs ?cgfs ?kgfs ?agfg ?lgfg ?cgfg ?kgfg ?agma ?lgma ?cgma ?kgma ?agsv ?lgsv ?cgsv ?kgsv ?agsf ?lgsf ?cgsf ?kgsf ?aglw ?lglw ?cglw ?kglw ?agld ?lgld ?cgld ?kgld ?aglp ?lglp ?cglp ?kglp ?aglt ?lglt ?cglt ?kglt ?agls ?lgls ?cgls ?kgls ?aglx ?lglx ?cglx ?kglx ?agle ?lgle ?cgle ?kgle ?aglf ?lglf ?cglf ?kglf ?agln ?lgln ?cgln ?kgln ?aglb ?lglb ?cglb ?kglb ?aglo ?lglo ?cglo ?kglo ?aglr ?lglr ?cglr ?kglr ?aglc ?lglc ?cglc ?kglc ?agli ?lgli ?cgli ?kgli ?aglu ?lglu ?cglu ?kglu ?aglk ?lglk ?cglk ?kglk ?aglg ?lglg ?cglg ?kglg ?agll ?lgll ?cgll ?kgll ?lzps ?pzps ?lzpt ?pzpt ?lzfg ?pzfg ?lzlg ?pzlg ?amri ?airi ?lgri ?cgri ?kgri ?atT ?gtT ?ttT ?rtT ?lgpT ?cgpT ?kgpT ?atS ?gtS ?ttS ?rtS ?lgpS ?cgpS ?kgpS ?atM ?gtM ?ttM ?rtM ?lgpM ?cgpM ?kgpM ?atG ?gtG ?ttG ?rtG ?lgpG ?cgpG ?kgpG ?av0 ?av1 ?av2 ?av3 ?av4 ?av6 ?av7 ?atTT ?ltT ?pg ?hd ?po ?sa ?mk ?kc ?nf0 ?nf1 ?nf2 ?nf3 ?nf4 ?ic1 ?ic2 ?ic3 ?ic4 ?ic5 ?ndT ?hch3 ?hch7 ?hnu ?hcf
    (case acC0 => k_is)
    (case acC1 => k_is)
    (case acC2 => k_is)
    (case acC3 => k_is)
    (case acC4 => k_is)
    (case acC5 => k_is)
    (case acC6 => k_is)
    (case acC7 => k_is)
    (case acC8 => k_is)
    (case acC9 => k_is)
    (case acC10 => k_is)
    (case acB0 => k_is)
    (case acB1 => k_is)
    (case acB2 => k_is)
    (case amvc => k_is)
    (case aivc => k_is)
    (case lgvc => k_is)
    (case cgvc => k_is)
    (case kgvc => k_is)
    (case tvc => k_is)
    (case amvd => k_is)
    (case aivd => k_is)
    (case lgvd => k_is)
    (case cgvd => k_is)
    (case kgvd => k_is)
    (case tvd => k_is)
    (case acCU => k_is)
    (case agib => k_is)
    (case lgib => k_is)
    (case cgib => k_is)
    (case kgib => k_is)
    (case agol => k_is)
    (case lgol => k_is)
    (case cgol => k_is)
    (case kgol => k_is)
    (case agiw => k_is)
    (case lgiw => k_is)
    (case cgiw => k_is)
    (case kgiw => k_is)
    (case agas => k_is)
    (case lgas => k_is)
    (case cgas => k_is)
    (case kgas => k_is)
    (case agam => k_is)
    (case lgam => k_is)
    (case cgam => k_is)
    (case kgam => k_is)
    (case agag => k_is)
    (case lgag => k_is)
    (case cgag => k_is)
    (case kgag => k_is)
    (case agrg => k_is)
    (case lgrg => k_is)
    (case cgrg => k_is)
    (case kgrg => k_is)
    (case agrr => k_is)
    (case lgrr => k_is)
    (case cgrr => k_is)
    (case kgrr => k_is)
    (case agcr => k_is)
    (case lgcr => k_is)
    (case cgcr => k_is)
    (case kgcr => k_is)
    (case agrb => k_is)
    (case lgrb => k_is)
    (case cgrb => k_is)
    (case kgrb => k_is)
    (case agfr => k_is)
    (case lgfr => k_is)
    (case cgfr => k_is)
    (case kgfr => k_is)
    (case agfm => k_is)
    (case lgfm => k_is)
    (case cgfm => k_is)
    (case kgfm => k_is)
    (case agps => k_is)
    (case lgps => k_is)
    (case cgps => k_is)
    (case kgps => k_is)
    (case agpt => k_is)
    (case lgpt => k_is)
    (case cgpt => k_is)
    (case kgpt => k_is)
    (case agfs => k_is)
    (case lgfs => k_is)
    (case cgfs => k_is)
    (case kgfs => k_is)
    (case agfg => k_is)
    (case lgfg => k_is)
    (case cgfg => k_is)
    (case kgfg => k_is)
    (case agma => k_is)
    (case lgma => k_is)
    (case cgma => k_is)
    (case kgma => k_is)
    (case agsv => k_is)
    (case lgsv => k_is)
    (case cgsv => k_is)
    (case kgsv => k_is)
    (case agsf => k_is)
    (case lgsf => k_is)
    (case cgsf => k_is)
    (case kgsf => k_is)
    (case aglw => k_is)
    (case lglw => k_is)
    (case cglw => k_is)
    (case kglw => k_is)
    (case agld => k_is)
    (case lgld => k_is)
    (case cgld => k_is)
    (case kgld => k_is)
    (case aglp => k_is)
    (case lglp => k_is)
    (case cglp => k_is)
    (case kglp => k_is)
    (case aglt => k_is)
    (case lglt => k_is)
    (case cglt => k_is)
    (case kglt => k_is)
    (case agls => k_is)
    (case lgls => k_is)
    (case cgls => k_is)
    (case kgls => k_is)
    (case aglx => k_is)
    (case lglx => k_is)
    (case cglx => k_is)
    (case kglx => k_is)
    (case agle => k_is)
    (case lgle => k_is)
    (case cgle => k_is)
    (case kgle => k_is)
    (case aglf => k_is)
    (case lglf => k_is)
    (case cglf => k_is)
    (case kglf => k_is)
    (case agln => k_is)
    (case lgln => k_is)
    (case cgln => k_is)
    (case kgln => k_is)
    (case aglb => k_is)
    (case lglb => k_is)
    (case cglb => k_is)
    (case kglb => k_is)
    (case aglo => k_is)
    (case lglo => k_is)
    (case cglo => k_is)
    (case kglo => k_is)
    (case aglr => k_is)
    (case lglr => k_is)
    (case cglr => k_is)
    (case kglr => k_is)
    (case aglc => k_is)
    (case lglc => k_is)
    (case cglc => k_is)
    (case kglc => k_is)
    (case agli => k_is)
    (case lgli => k_is)
    (case cgli => k_is)
    (case kgli => k_is)
    (case aglu => k_is)
    (case lglu => k_is)
    (case cglu => k_is)
    (case kglu => k_is)
    (case aglk => k_is)
    (case lglk => k_is)
    (case cglk => k_is)
    (case kglk => k_is)
    (case aglg => k_is)
    (case lglg => k_is)
    (case cglg => k_is)
    (case kglg => k_is)
    (case agll => k_is)
    (case lgll => k_is)
    (case cgll => k_is)
    (case kgll => k_is)
    (case lzps => k_is)
    (case pzps => exact rfl)
    (case lzpt => k_is)
    (case pzpt => exact rfl)
    (case lzfg => k_is)
    (case pzfg => exact rfl)
    (case lzlg => k_is)
    (case pzlg => exact rfl)
    (case amri => k_is)
    (case airi => k_is)
    (case lgri => k_is)
    (case cgri => k_is)
    (case kgri => k_is)
    (case atT => k_is)
    (case gtT => k_is)
    (case ttT => k_is)
    (case rtT => k_is)
    (case lgpT => k_is)
    (case cgpT => k_is)
    (case kgpT => k_is)
    (case atS => k_is)
    (case gtS => k_is)
    (case ttS => k_is)
    (case rtS => k_is)
    (case lgpS => k_is)
    (case cgpS => k_is)
    (case kgpS => k_is)
    (case atM => k_is)
    (case gtM => k_is)
    (case ttM => k_is)
    (case rtM => k_is)
    (case lgpM => k_is)
    (case cgpM => k_is)
    (case kgpM => k_is)
    (case atG => k_is)
    (case gtG => k_is)
    (case ttG => k_is)
    (case rtG => k_is)
    (case lgpG => k_is)
    (case cgpG => k_is)
    (case kgpG => k_is)
    (case av0 => k_is)
    (case av1 => k_is)
    (case av2 => k_is)
    (case av3 => k_is)
    (case av4 => k_is)
    (case av6 => k_is)
    (case av7 => k_is)
    (case atTT => k_is)
    (case ltT => k_is)
    (case pg => k_is)
    (case hd => k_is)
    (case po => k_is)
    (case sa => k_is)
    (case mk => k_is)
    (case kc => k_is)
    (case nf0 => k_is)
    (case nf1 => k_is)
    (case nf2 => k_is)
    (case nf3 => k_is)
    (case nf4 => k_is)
    (case ic1 => k_is)
    (case ic2 => k_is)
    (case ic3 => k_is)
    (case ic4 => k_is)
    (case ic5 => first | kernel_rfl | rfl | decide)
    (case ndT => exact of_decide_eq_true (by kernel_rfl))
    (case hch3 => kernel_rfl)
    (case hch7 => kernel_rfl)
    (case hnu => kernel_rfl)
    (case hcf => kernel_rfl)
  case Y =>
    intro w h Y q hq
    simp only [List.mem_cons, List.not_mem_nil, or_false] at hq
    rcases hq with hq | hq | hq | hq <;> (rw [hq]; exact ⟨PySem.W.km_tabs_of Y _ (by repeat first | exact List.Mem.head _ | apply List.Mem.tail), by kernel_rfl, PySem.W.codeHd_of_K (PySem.W.km_in_of Y) (by kernel_rfl)⟩)
