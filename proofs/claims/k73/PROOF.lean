import PyProof.Rows.All
import Wide.All
import OpenK.AllK
import Wide.FinOn
import PyProof.EqAt
import PyProof.EqKinds
import PyProof.TupleCall
import KE.KFromBytes
import HandS.ForMost
import HandS.Exc
import HandS.ExcInit
import HandS.ExcIs
import HandS.IsInst
import HandS.ExcOwn
import HandS.ExcValue
import HandS.Defaults
import HandS.Set
import HandS.Strs
import PyProof.Rows.SetFrom
import PyProof.StrWalks
import PyProof.Rows.SortStr
import PyProof.Rows.SortShellAny
import PyProof.SetRoads
import HandS.DictComp
import HandS.Walk
import HandS.NoneIn
import HandS.Flow
import HandS.FStr
import HandS.Star
import HandS.Property
import HandS.SetBool
import HandS.HotCalls
import KE.KUnpack
import KE.KTryMore
import HandS.Lambda
import HandS.EndTab
import PyProof.StrLawsRepr
import KE.KUnpackStar
import HandS.TupAny
import PyProof.StrBlock2
import PyProof.NeKinds
import HandS.Style
import HandS.TryOnly
import HandS.More
import HandS.CallLocal
import HandS.Comp
import HandS.Iter
import HandS.Conv
import KE.KDictPairs
import KE.KDictCopyH
import HandS.RaiseMore
import PySem.Challenge.RW_shortlooks_k73_whole_what_is_accepted_is
set_option Elab.async false
set_option linter.all false
set_option maxRecDepth 100000
set_option maxHeartbeats 8000000
namespace PySem
namespace GX
open PySem.W PySem.Calls PyProof.Rows PySem.HandSPX
open Builtin Builtin.ObjectAttr

section
variable {M : Model} {Ar : Around} {Er : Value → Shared → Prop} {hh : Heap} {gg : Array GenState} {dd : Drawn} {tt : Nat} {oo : OsState}
variable {n1 n2 : Str} {C N : Addr} {b1 b2 b3 : List Value} {hx : Bool} {l1 : List Str} {l2 : List Value} {ab : Bool} {cl : Option Bool} {da : Option Addr} {m0 m1 m2 m3 m5 : Option Value} {B nid iid : String}

theorem chkNew (F : ExcBaseFacts B nid iid b3) (hT : ∀ Y : String, b2.contains (.type Y) = b3.contains (.type Y)) {rs : List Value} {kw : List (Str × Value)} {Q : Unit → Shared → Prop}
    (hC : hh.get? C = some (excClassObj n1 n2 C N b1 b2 hx l1 l2 ab cl da m0 m1 m2 m3 m5 nid))
    (hq : Q () ⟨hh, gg, dd, tt, oo⟩) :
    wpAny M Ar (checkBuiltinCall nid ⟨.ref C :: rs, kw⟩) Q Er ⟨hh, gg, dd, tt, oo⟩ := by
  have c1 : (Value.ref C :: b2).contains (.type B) = true := by
    rw [List.contains_cons, hT, F.hasB, Bool.or_true]
  have c2 := F.noStar
  simp only [checkBuiltinCall, F.newKind, F.newSplit, F.newRow]
  repeat (first
    | refine wpAny_loadPart_at hC ?_
    | (refine wpAny_isSubtype_exc hC ?_; rw [c1])
    | refine wpAny_staticBase_exc hC ?_
    | refine wpAny_madeBy_exc hC ?_
    | simp only [bne_self_eq_false, Bool.false_eq_true, if_false]
    | wp_step)
  exact hq
end
section
variable {pr : Program} {wd : World} {Ar : Around} {Er : Value → Shared → Prop} {Rr : Result → Shared → Prop} {hh : Heap} {gg : Array GenState} {dd : Drawn} {tt : Nat} {oo : OsState}
variable {n1 n2 : Str} {C N : Addr} {b1 b2 b3 : List Value} {hx : Bool} {l1 : List Str} {l2 : List Value} {ab : Bool} {cl : Option Bool} {da : Option Addr} {m0 m1 m2 m3 m5 : Option Value} {B nid iid : String}

theorem newK (F : ExcBaseFacts B nid iid b3) (hT : ∀ Y : String, b2.contains (.type Y) = b3.contains (.type Y)) {rs : List Value} {kw : List (Str × Value)}
    (hC : hh.get? C = some (excClassObj n1 n2 C N b1 b2 hx l1 l2 ab cl da m0 m1 m2 m3 m5 nid))
    (hq : Rr (.ok (.ret (.ref (hh.objs.size + 1)))) ⟨(hh.push (W.kdv_tup rs)).push (excO C hh.objs.size), gg, dd, tt, oo⟩)
    (hrs : rs.length ≤ sizeLine) :
    codeAny (model pr wd) Ar (.builtin nid ⟨.ref C :: rs, kw⟩) Rr ⟨hh, gg, dd, tt, oo⟩ := by
  have c0 := F.ends
  have cB : (Value.ref C :: b2).contains (.type B) = true := by
    rw [List.contains_cons, hT, F.hasB, Bool.or_true]
  have cA : (Value.ref C :: b2).contains (.type "AttributeError") = false := by
    rw [List.contains_cons, hT, F.noAttr]; rfl
  have cN : (Value.ref C :: b2).contains (.type "NameError") = false := by
    rw [List.contains_cons, hT, F.noName]; rfl
  refine codeAny_builtinAt F.entry ?_
  unfold Builtin.«BaseException.__new__»
  refine wpAt_bind ?_
  show wpAt _ _ _ (stack >>= _) _ _ _
  refine wpAt_bind (wpAt_stack fun p below => wpAt_of_wpAny ?_)
  wp_walk
  refine wpAt_of_wpAny ?_
  rw [F.owner]
  repeat (first
    | with_reducible refine wpAny_madeHere_exc F.canon hC ?_
    | with_reducible refine wpAny_loadPart_at hC ?_
    | (with_reducible refine wpAny_isSubtype_exc hC ?_; first | rw [cB] | rw [cA] | rw [cN])
    | wp_step)
  show Rr _ _
  rw [Heap.size_push]
  exact hq
end
end GX
end PySem
namespace PySem
namespace GX
open PySem.W PySem.Calls PyProof.Rows PySem.HandSPX
open Builtin Builtin.ObjectAttr
section
variable {M : Model} {Ar : Around} {Er : Value → Shared → Prop} {hh : Heap} {gg : Array GenState} {dd : Drawn} {tt : Nat} {oo : OsState}
variable {n1 n2 : Str} {C N : Addr} {b1 b2 b3 : List Value} {hx : Bool} {l1 : List Str} {l2 : List Value} {ab : Bool} {cl : Option Bool} {da : Option Addr} {m0 m1 m2 m3 m5 : Option Value} {B nid iid : String}
theorem chkCall {rs : List Value} {kw : List (Str × Value)} {Q : Unit → Shared → Prop}
    (hC : hh.get? C = some (excClassObj n1 n2 C N b1 b2 hx l1 l2 ab cl da m0 m1 m2 m3 m5 nid))
    (hq : Q () ⟨hh, gg, dd, tt, oo⟩) :
    wpAny M Ar (checkBuiltinCall "type.__call__" ⟨.ref C :: rs, kw⟩) Q Er ⟨hh, gg, dd, tt, oo⟩ := by
  have z3 := tc_sub
  have zT : (⟨hh, gg, dd, tt, oo⟩ : Shared).TypeIs (.ref C) "type" := ⟨_, hC, rfl⟩
  simp only [checkBuiltinCall, tc_kind, tc_split]
  repeat (any_goals (first
    | assumption
    | with_reducible refine wpAny_loadPart_at hC ?_
    | with_reducible refine wpAny_onRaise ?_
    | with_reducible refine wpAny_map ?_
    | wp_step))
end
section
variable {pr : Program} {wd : World} {Ar : Around} {Er : Value → Shared → Prop} {Rr : Result → Shared → Prop} {hh : Heap} {gg : Array GenState} {dd : Drawn} {tt : Nat} {oo : OsState}
variable {n1 n2 : Str} {C N : Addr} {b1 b2 b3 : List Value} {hx : Bool} {l1 : List Str} {l2 : List Value} {ab : Bool} {cl : Option Bool} {da : Option Addr} {m0 m1 m2 m3 m5 : Option Value} {B nid iid : String}

theorem typeK (F : ExcBaseFacts B nid iid b3) (hT : ∀ Y : String, b2.contains (.type Y) = b3.contains (.type Y)) {rs : List Value} {kw : List (Str × Value)} {fI : Addr} {Q : Fin → Shared → Prop}
    (hC : hh.get? C = some (excClassObj n1 n2 C N b1 b2 hx l1 l2 ab cl da m0 m1 m2 m3 m5 nid))
    (hi : W.Looks (model pr wd) hh (typeLookup (.ref C) "__init__") (some (.ref fI)))
    (hb : ∀ self, W.Looks (model pr wd) hh (bindSpecial (.ref fI) self) (.ref fI, [self]))
    (hrs : rs.length ≤ sizeLine)
    (hq : codeAny (model pr wd) Ar (.call (.ref fI) ⟨.ref (hh.objs.size + 1) :: rs, kw⟩)
      (fun r s' => match r with
        | .ok (.ret v) => v = .none ∧ Q (.done (.ret (.ref (hh.objs.size + 1)))) s'
        | .ok _ => False
        | .error e => Er e s')
      ⟨(hh.push (W.kdv_tup rs)).push (excO C hh.objs.size), gg, dd, tt, oo⟩) :
    wpAny (model pr wd) Ar (Builtin.«type.__call__» ⟨.ref C :: rs, kw⟩) Q Er ⟨hh, gg, dd, tt, oo⟩ := by
  repeat (first
    | with_reducible refine wpAny_loadPart_at hC ?_
    | with_reducible refine wpAny_madeBy_exc hC ?_
    | wp_step)
  refine codeAny_call_builtin_code (Code.quiet_builtin _ F.quiet) (chkNew F hT hC ?_)
  refine newK F hT hC ?_ hrs
  show wpAny _ _ _ _ _ _
  have kk : ∀ b o, hh.get? b = some o → ((hh.push (W.kdv_tup rs)).push (excO C hh.objs.size)).get? b = some o :=
    fun b o e => Heap.get?_push_of_some _ (Heap.get?_push_of_some _ e)
  have hC1 := kk _ _ hC
  have hgt : ((hh.push (W.kdv_tup rs)).push (excO C hh.objs.size)).get? (hh.objs.size + 1) = some (excO C hh.objs.size) := by
    heap_get
  have cC : (Value.ref C :: b2).contains (.ref C) = true := by simp
  have j1 := hi.keeps kk
  have j2 := (hb (.ref (hh.objs.size + 1))).keeps kk
  unfold isInstance
  repeat (first
    | with_reducible refine wpAny_loadPart_at hgt ?_
    | (with_reducible refine wpAny_isSubtype_exc hC1 ?_; rw [cC])
    | wp_step)
  show wpAny _ _ (typeLookup (.ref C) _) _ _ _
  refine j1.at ?_
  refine wpAny_holding (wpAny_bind (j2.at ?_))
  refine wpAny_bind (wpAny_call (codeAny_mono hq fun r s' z => ?_))
  rcases r with e | (v | _ | _ | _) <;> first | exact z | exact z.elim | skip
  obtain ⟨rfl, z⟩ := z
  first
    | exact wpAny_pure (wpAny_pure z)
    | (wp_walk; exact z)

theorem callK (F : ExcBaseFacts B nid iid b3) (hT : ∀ Y : String, b2.contains (.type Y) = b3.contains (.type Y)) {rs : List Value} {kw : List (Str × Value)} {fI : Addr}
    (hC : hh.get? C = some (excClassObj n1 n2 C N b1 b2 hx l1 l2 ab cl da m0 m1 m2 m3 m5 nid))
    (hi : W.Looks (model pr wd) hh (typeLookup (.ref C) "__init__") (some (.ref fI)))
    (hb : ∀ self, W.Looks (model pr wd) hh (bindSpecial (.ref fI) self) (.ref fI, [self]))
    (hrs : rs.length ≤ sizeLine)
    (hq : codeAny (model pr wd) (Ar.under (.builtin "type.__call__" ⟨.ref C :: rs, kw⟩)) (.call (.ref fI) ⟨.ref (hh.objs.size + 1) :: rs, kw⟩) (W.InitBack (hh.objs.size + 1) Rr)
      ⟨(hh.push (W.kdv_tup rs)).push (excO C hh.objs.size), gg, dd, tt, oo⟩) :
    codeAny (model pr wd) Ar (.call (.ref C) ⟨rs, kw⟩) Rr ⟨hh, gg, dd, tt, oo⟩ := by
  have z1 := tc_lookup
  have z2 := tc_bind (.ref C)
  have zT : (⟨hh, gg, dd, tt, oo⟩ : Shared).TypeIs (.ref C) "type" := ⟨_, hC, rfl⟩
  refine codeAny_of_tree ?_
  show wpAny _ _ (callAny (.ref C) _) _ _ _
  repeat (any_goals (first
    | assumption
    | with_reducible refine wpAny_loadPart_at hC ?_
    | wp_step))
  refine ⟨rfl, ?_⟩
  refine codeAny_call_builtin_at (Code.quiet_builtin _ (by decide +kernel)) entry_typeCall (chkCall hC (typeK F hT hC hi hb hrs ?_))
  refine codeAny_mono hq fun r s' z => ?_
  rcases r with e | (v | _ | _ | _) <;> exact z
end
end GX
end PySem
namespace PySem
namespace GX
open PySem.W PySem.Calls PyProof.Rows PySem.HandSPX
open Builtin Builtin.ObjectAttr
/-- what an own class's mro must say for a store to an instance -/
structure MroOk (l : List Value) : Prop where
  pass : ∀ self, refuseLoop self "__setattr__" l = pure ()
  ob : l.contains (.type "object") = true
  ne : l.isEmpty = false
section
variable {pr : Program} {wd : World} {Ar : Around} {Er : Value → Shared → Prop} {Rr : Result → Shared → Prop} {hh : Heap} {gg : Array GenState} {dd : Drawn} {tt : Nat} {oo : OsState}
theorem osaN {K : W.Frag} {nm : Str} {tk : Tok} {v : Value} {x C : Addr} {fv : Array Value} {cd : ClassData}
    (X : K.In hh) (hx : hh.get? x = some { cls := .ref C, data := .fields fv }) (hcd : W.clsIn K C = some cd) (hm : MroOk cd.mro) (hd : cd.hasDict = true)
    (ha : W.findIn K (.ref C) nm = some none)
    (hq : ∀ h' tk' dx, (∀ b o, b ≠ x → hh.get? b = some o → h'.get? b = some o) → hh.objs.size ≤ dx → dx ≠ x →
      h'.get? x = some { cls := .ref C, dict := some dx, data := .fields fv } →
      h'.Ns1 dx (fun y => if y = nm then some v else none) → Rr (.ok (.ret .none)) ⟨h', gg, dd, tk', oo⟩) :
    codeAny (model pr wd) Ar (.call (.builtin "object.__setattr__") ⟨[.ref x, .str nm tk, v], []⟩) Rr ⟨hh, gg, dd, tt, oo⟩ := by
  have I : W.InstAt hh x { cls := .ref C, data := .fields fv } C none := ⟨hx, rfl, rfl, trivial⟩
  have SF := F.store_object
  have hne := hm.ne
  have hxs : x ≠ hh.objs.size := Nat.ne_of_lt (Heap.lt_size hx)
  have sub : W.Looks (model pr wd) hh (isInstance (.ref x) (.type "object")) true :=
    I.type.andThen (W.looks_mroIn X (by unfold W.mroIn; rw [hcd, Option.bind_some, if_neg (by rw [hne]; decide), hm.ob]))
  refine codeAny_call_builtin SF.slot.plain SF.entry (@W.check_slot (model pr wd) _ _ ⟨hh, gg, dd, tt, oo⟩ "object.__setattr__" "object" "__setattr__" (.ref x)
    [.str nm tk, v] [] _ SF.kind SF.split sub (SF.args (.ref x) (.str nm tk) v) ?_)
  have lm : W.Looks (model pr wd) hh (mroOf (.ref C)) cd.mro := (W.looks_clsIn X hcd).andThen .now
  have lt : W.Looks (model pr wd) hh (storeTaker? none) none := .now
  have lc : W.Looks (model pr wd) hh (classData C) cd := W.looks_clsIn X hcd
  rw [W.osa_eq, refuse_eq]
  refine wpAny_bind (wpAny_bind (I.type.at (wpAny_bind (lm.at ?_))))
  rw [hm.pass]
  refine wpAny_pure (wpAny_bind (I.type.at (wpAny_bind ((W.looks_findIn X ha).at (wpAny_bind (lt.at ?_))))))
  show wpAny _ _ (storeInOwnDict (.ref x) (.ref C) (.str nm tk) nm v false) _ _ _
  obtain ⟨c1, c2, c3, c4, c5, c6, c7, c8, c9, c10, c11⟩ := cd
  dsimp only at hd
  subst hd
  unfold storeInOwnDict ownDictForStores
  repeat (first
    | with_reducible refine store_in_new ?_ ?_
    | with_reducible refine wpAny_loadPart_at hx ?_
    | with_reducible refine lc.at ?_
    | wp_step)
  · exact ⟨_, #[], _, (Heap.get?_update_ne _ _ _ _ hxs.symm).trans (Heap.get?_push_at rfl rfl), rfl, fun e he => absurd he (by simp), fun _ => rfl⟩
  · intro h' tk' hn' hs
    have hx1 : (hh.push { cls := .type "dict", data := .dict #[] }).get? x = some { cls := .ref C, data := .fields fv } :=
      Heap.get?_push_of_some _ hx
    refine hq h' tk' hh.objs.size (fun b o hb ho => ?_) (Nat.le_refl _) hxs.symm ?_ hn'
    · exact (hs.2 b (Nat.ne_of_lt (Heap.lt_size ho))).trans ((Heap.get?_update_ne _ _ _ _ hb).trans (Heap.get?_push_of_some _ ho))
    · exact (hs.2 x hxs).trans (Heap.get?_update_self _ hx1 rfl)
theorem osaO {K : W.Frag} {nm : Str} {tk : Tok} {v : Value} {x C dx : Addr} {fv : Array Value} {cd : ClassData} {m0 : Str → Option Value} {nl : List Str}
    (X : K.In hh) (hx : hh.get? x = some { cls := .ref C, dict := some dx, data := .fields fv }) (hns : hh.Ns1 dx m0) (hw : Within m0 nl) (hz : nl.length ≤ 1000)
    (hcd : W.clsIn K C = some cd) (hm : MroOk cd.mro) (hd : cd.hasDict = true) (ha : W.findIn K (.ref C) nm = some none)
    (hq : ∀ h' tk', (∀ b o, b ≠ dx → hh.get? b = some o → h'.get? b = some o) →
      h'.Ns1 dx (fun y => if y = nm then some v else m0 y) → Rr (.ok (.ret .none)) ⟨h', gg, dd, tk', oo⟩) :
    codeAny (model pr wd) Ar (.call (.builtin "object.__setattr__") ⟨[.ref x, .str nm tk, v], []⟩) Rr ⟨hh, gg, dd, tt, oo⟩ := by
  obtain ⟨oD, esD, epD, hoD, hdD, _⟩ := hns.count hw
  have I : W.InstAt hh x { cls := .ref C, dict := some dx, data := .fields fv } C (some oD) := ⟨hx, rfl, rfl, hoD⟩
  have SF := F.store_object
  have hne := hm.ne
  have sub : W.Looks (model pr wd) hh (isInstance (.ref x) (.type "object")) true :=
    I.type.andThen (W.looks_mroIn X (by unfold W.mroIn; rw [hcd, Option.bind_some, if_neg (by rw [hne]; decide), hm.ob]))
  refine codeAny_call_builtin SF.slot.plain SF.entry (@W.check_slot (model pr wd) _ _ ⟨hh, gg, dd, tt, oo⟩ "object.__setattr__" "object" "__setattr__" (.ref x)
    [.str nm tk, v] [] _ SF.kind SF.split sub (SF.args (.ref x) (.str nm tk) v) ?_)
  have lm : W.Looks (model pr wd) hh (mroOf (.ref C)) cd.mro := (W.looks_clsIn X hcd).andThen .now
  have lt : W.Looks (model pr wd) hh (storeTaker? none) none := .now
  have lc : W.Looks (model pr wd) hh (classData C) cd := W.looks_clsIn X hcd
  rw [W.osa_eq, refuse_eq]
  refine wpAny_bind (wpAny_bind (I.type.at (wpAny_bind (lm.at ?_))))
  rw [hm.pass]
  refine wpAny_pure (wpAny_bind (I.type.at (wpAny_bind ((W.looks_findIn X ha).at (wpAny_bind (lt.at ?_))))))
  show wpAny _ _ (storeInOwnDict (.ref x) (.ref C) (.str nm tk) nm v false) _ _ _
  obtain ⟨c1, c2, c3, c4, c5, c6, c7, c8, c9, c10, c11⟩ := cd
  dsimp only at hd
  subst hd
  unfold storeInOwnDict ownDictForStores
  repeat (first
    | with_reducible refine PySem.OEX.store_in_old hns hw hz ?_
    | with_reducible refine wpAny_loadPart_at hx ?_
    | with_reducible refine lc.at ?_
    | wp_step)
  intro h' tk' hn' hs
  exact hq h' tk' (fun b o hb ho => (hs.2 b hb).trans ho) hn'
end
/-! the three built-in bases -/
abbrev tailOf (B : String) : List Value := [.type B, .type "Exception", .type "BaseException", .type "object"]
theorem pass_VE : ∀ self, refuseLoop self "__setattr__" (tailOf "ValueError") = pure () := fun self => by kernel_rfl
theorem pass_LE : ∀ self, refuseLoop self "__setattr__" (tailOf "LookupError") = pure () := fun self => by kernel_rfl
theorem pass_AE : ∀ self, refuseLoop self "__setattr__" (tailOf "ArithmeticError") = pure () := fun self => by kernel_rfl
theorem mroOk2 {B : String} {a b : Addr} (hp : ∀ self, refuseLoop self "__setattr__" (tailOf B) = pure ()) : MroOk (.ref a :: .ref b :: tailOf B) :=
  ⟨fun self => by rw [refuseLoop_ref, refuseLoop_ref]; exact hp self, by simp [List.contains_cons], rfl⟩
end GX
end PySem
namespace PySem
namespace GX
open PySem.W PySem.Calls PyProof.Rows PySem.HandSPX
section
variable {pr : Program} {wd : World} {Ar : Around} {Er : Value → Shared → Prop} {s : Shared} {K : Frag} {x D : Addr} {ox : Obj} {od : Option Obj}
theorem classG {Q : Option Value → Shared → Prop} (T : L2.ExcC K D) (X : K.In s.heap) (I : InstAt s.heap x ox D od) (h : Q (some (.ref D)) { s with toks := s.toks + 1 }) :
    wpAny (model pr wd) Ar (getAttr? (.ref x) "__class__") Q Er s := by
  have cs : (clsIn K D).isSome = true := by
    obtain ⟨cd, hc, _⟩ := any_some T.hd
    rw [hc]; rfl
  have hf : findObj K D od "__class__" = some (.bind (.builtin "getset_descriptor.__get__") (.builtin "object.__class__")) := by
    cases od with
    | none => exact findObj_dataN cs T.ha T.hn T.ht
    | some o => exact findObj_data cs T.ha T.hn T.ht
  obtain ⟨hp, g, d, t, os⟩ := s
  have y0 := I.type (M := model pr wd)
  have y1 := looks_findIn (M := model pr wd) X T.hg
  have y2 := looks_findIn (M := model pr wd) X T.hk
  have y3 := looks_find (M := model pr wd) X I hf
  have sub : Looks (model pr wd) hp (isInstance (.ref x) (.type "BaseException")) true := y0.andThen (looks_subIn X T.hs)
  have e0 : (false && onTheHeap (Value.builtin "BaseException.__getattribute__")) = false := rfl
  have e2 : (Value.builtin "BaseException.__getattribute__" == Value.builtin "object.__getattribute__") = false := by
    decide +kernel
  have e1 : (onTheHeap (Value.ref D) && Value.builtin "BaseException.__getattribute__" == Value.builtin "object.__getattribute__") = false := by
    rw [e2]; rfl
  unfold getAttr? getAttrBy? getAttrBy
  refine wpAny_bind (wpAny_mkText (wpAny_bind (wpAny_attempt (wpAny_holding (wpAny_bind (y0.at (wpAny_bind (y1.at ?_))))))))
  show wpAny _ _ (if (onTheHeap (Value.ref D) && Value.builtin "BaseException.__getattribute__" == Value.builtin "object.__getattribute__") = true then _ else _) _ _ _
  rw [e1, if_neg Bool.false_ne_true]
  unfold getAttrByItsOwn hookBefore
  refine wpAny_bind ?_
  rw [if_pos (show onTheHeap (Value.ref D) = true from rfl)]
  refine y2.at ?_
  refine wpAny_bind (wpAny_attempt (wpAny_holding ?_))
  unfold callGetattribute
  rw [e0, if_neg Bool.false_ne_true]
  unfold boundAndCalled
  rw [PySem.F.excAttr_ValueError.ga.bind (.ref x)]
  refine wpAny_bind (wpAny_pure ?_)
  show wpAny _ _ (call (.builtin "BaseException.__getattribute__") [.ref x, .str "__class__" t]) _ _ _
  refine wpAny_call (codeAny_call_builtin PySem.F.excAttr_ValueError.ga.plain PySem.F.entry_bexc_ga ?_)
  refine @check_slot (model pr wd) _ _ ⟨hp, g, d, t + 1, os⟩ "BaseException.__getattribute__" "BaseException" "__getattribute__" (.ref x)
    [.str "__class__" t] [] _ (by decide +kernel) (by decide +kernel) sub (PySem.F.args_bexc_ga (.ref x) (.str "__class__" t)) ?_
  unfold Builtin.«object.__getattribute__»
  refine wpAny_bind (wpAny_of_eq (a := ((Value.ref x : Value), [Value.str "__class__" t])) (by first | rfl | (simp only [slotArgs]; rfl)) ?_)
  refine wpAny_bind (wpAny_pure (wpAny_bind (y0.at (wpAny_bind (y3.at ?_)))))
  show wpAny _ _ (holding [Value.builtin "object.__class__"] (call (.builtin "getset_descriptor.__get__") [.builtin "object.__class__", .ref x, .ref D]) >>= ret) _ _ _
  refine wpAny_bind (wpAny_holding (wpAny_call (class_get (s := ⟨hp, g, d, t + 1, os⟩) (ox := ox) (od := od) X I T.hm ?_)))
  refine wpAny_pure ?_
  show wpAny _ _ (handedOut (.ref D)) _ _ _
  rw [handedOut_of (v := .ref D) rfl]
  first
    | exact wpAny_pure (wpAny_pure h)
    | exact wpAny_pure h
    | exact wpAny_pure (wpAny_bind (wpAny_pure (wpAny_pure h)))
theorem kitG (T : L2.ExcC K D) : KitX K (.ref x) (.ref D) (fun h => InstAt h x ox D od) where
  ty := fun _ _ _ I => I.type
  it := fun _ _ X _ => by
    obtain ⟨cdD, hcD, _⟩ := any_some T.hd
    unfold clsIn at hcD
    split at hcD
    · rename_i c' d' cd' sl' ho
      intro A' Q' E' s' k q
      unfold isType loadHead
      exact wpAny_bind (wpAny_loadPart (k _ _ (X _ _ ho)) (wpAny_pure q))
    · cases hcD
  ne := fun h tp dd its n sl X htp => by
    obtain ⟨cdD, hcD, _⟩ := any_some T.hd
    refine Bool.eq_false_iff.mpr fun q => ?_
    have e : D = tp := Value.ref.inj (beq_iff_eq.mp q)
    subst e
    unfold clsIn at hcD
    split at hcD
    · rename_i c' d' cd' sl' ho
      have z := (X _ _ ho).symm.trans htp
      cases z
    · cases hcD
  ca := fun X I k => classG T X I k
end
end GX
end PySem
namespace L2
open PySem PySem.Spec PyProof.Rows PySem.GX
/-- what the written part says of an own exception class at C over a built-in base -/
structure ExG (K : PySem.W.Frag) (C : Addr) : Prop extends ExcC K C where
  cls : ∃ (B nid iid : String) (b3 : List Value) (nm q : Str) (N : Addr) (bs bm : List Value) (sn : List Str) (sub : List Value) (ab : Bool) (col : Option Bool) (dd : Option Addr) (k0 k1 k2 k3 k5 : Option Value),
    ExcBaseFacts B nid iid b3 ∧ (∀ Y : String, bm.contains (.type Y) = b3.contains (.type Y)) ∧ MroOk (.ref C :: bm) ∧
    K.lookup C = some (excClassObj nm q C N bs bm true sn sub ab col dd k0 k1 k2 k3 k5 nid)
  sa : PySem.W.findIn K (.ref C) "__setattr__" = some (some (.builtin "object.__setattr__"))
  kC : PySem.W.keepIn K (.ref C) = true
/-- an exception at a of the class at C with the fields fs (its dict at d) -/
structure ExAt (H : Hp) (a C d : Addr) (fs : List (Str × V)) : Prop where
  ob : H a = some (exo a C (some d))
  di : H d = some (exd d fs)
section
variable {X : Cx} {pins : List (Addr × Obj)} {σ : St} {H : Hp} {s : Shared} {a C d : Addr} {fs : List (Str × V)}
/-- as the library's looks at an instance want it -/
theorem inst_ex {od : Option Addr} (I : Inv X pins σ H s) (e : H a = some (exo a C od)) (hd : ∀ dx, od = some dx → ∃ fs, H dx = some (exd dx fs)) :
    ∃ (ox : Obj) (o : Option Obj), PySem.W.InstAt s.heap a ox C o := by
  obtain ⟨t1, ho⟩ := exo_at I.hok e
  cases od with
  | none => exact ⟨_, none, ⟨ho, rfl, rfl, trivial⟩⟩
  | some dx =>
    obtain ⟨fs, ed⟩ := hd dx rfl
    obtain ⟨mA, ⟨o, es, ep, h1, h2⟩, _⟩ := exd_at I.hok ed
    exact ⟨_, some o, ⟨ho, rfl, rfl, h1⟩⟩
end
/-- isinstance(e, c), e an exception that is a value -/
def rIsX (K : PySem.W.Frag) : List V → Hp → VK → Prop := fun xs H Q => ∃ (a D : Addr) (od : Option Addr) (c : V) (u : Value) (b : Bool), xs = [.ref a, c] ∧ ExcC K D ∧ H a = some (exo a D od) ∧
  (∀ dx, od = some dx → ∃ fs, H dx = some (exd dx fs)) ∧ ClsV c u ∧ PySem.W.kitOne K (.ref D) u = some b ∧ Q (.bl b) H
theorem call_isX {X : Cx} : CallR X (.builtin "isinstance") (rIsX X.K) := by
  intro pins s σ H xs us Q I r h
  obtain ⟨a, D, od, c, u, b, rfl, T, e, hd, k, ek, q⟩ := h
  obtain ⟨u1, u2, rfl, r1, r2⟩ := vals2 r
  have e2 := k.eq r2
  subst e2
  obtain rfl : u1 = Value.ref a := r1
  obtain ⟨ox, o, J⟩ := inst_ex I e hd
  exact PySem.W.kia_one (kitG T) I.kIn J ek (fun z => nomatch z) fun tk => ⟨.bl b, H, I.tok tk, rfl, q⟩
section
variable {X : Cx} {pins : List (Addr × Obj)} {σ : St} {H : Hp} {s : Shared} {a C dx : Addr} {f : Str} {y : V} {u : Value} {fs : List (Str × V)}
/-- e.f -/
def tXf (K : PySem.W.Frag) (f : Str) (te : TE) : TE := fun σ H Q => te σ H fun x H1 => ∃ (a C d : Addr) (fs : List (Str × V)) (v : V), x = .ref a ∧ ExcC K C ∧ ExAt H1 a C d fs ∧
  PySem.W.findIn K (.ref C) f = some none ∧ fs.lookup f = some v ∧ Q v H1
theorem pe_xf {e : Expr} {te : TE} {pos : Pos} (he : PE X e te) (hb : attributeBase e f X.env (eval e X.env) = eval e X.env := by rfl) : PE X (.Attribute e f pos) (tXf X.K f te) := by
  refine ⟨fun pins s σ H Q I h => ?_⟩
  refine attr_of hb (thn (he.run pins s σ H _ I h) fun u s1 hh => ?_)
  obtain ⟨x, H1, I1, rx, a, C, d, fs, v, ex, T, ea, no, l, q⟩ := hh
  subst ex
  obtain rfl : u = Value.ref a := rx
  obtain ⟨t1, ho⟩ := exo_at I1.hok ea.ob
  obtain ⟨mA, hns, rel⟩ := exd_at I1.hok ea.di
  obtain ⟨od, hod, hl⟩ := lookIn_ns hns
  obtain ⟨u, hu, ru⟩ := RelO.some_of (v := v) (o := mA f) (by rw [← l]; exact rel f)
  have J : PySem.W.InstAt s1.heap a _ C (some od) := ⟨ho, rfl, rfl, hod⟩
  exact HandSPX.exc_get I1.kIn J T.hg T.hk T.hs (PySem.W.findObj_own T.hd no rfl (by rw [hl, hu])) (handed_of ru) ⟨v, H1, I1.tok _, ru, q⟩
end
end L2
namespace L2
open PySem PySem.Spec PyProof.Rows PySem.GX
section
variable {X : Cx} {pins : List (Addr × Obj)} {σ : St} {H : Hp} {s : Shared} {a C dx : Addr} {f : Str} {y : V} {u : Value} {fs : List (Str × V)} {Q : Unit → Shared → Prop} {Er : Value → Shared → Prop} {Ar : Around}
/-- the first store gives the exception its dict -/
theorem ostN (T : ExG X.K C) (I : Inv X pins σ H s) (e : H a = some (exo a C none)) (hno : PySem.W.findIn X.K (.ref C) f = some none) (ry : RelV y u)
    (h : ∀ dx s', H dx = none → dx ≠ a → Inv X pins σ (upd (upd H dx (exd dx [(f, y)])) a (exo a C (some dx))) s' → Q () s') :
    wpAny (model X.prog X.w) Ar (setAttr (.ref a) f u) Q Er s := by
  obtain ⟨B, nid, iid, b3, nm, q, N, bs, bm, sn, sub, ab, col, dd, k0, k1, k2, k3, k5, FB, hT, hM, hC⟩ := T.cls
  have hcl : PySem.W.clsIn X.K C = some { name := nm, bases := bs, mro := .ref C :: bm, ns := N, qualname := q, hasDict := true, slotNames := sn, subclasses := sub, abstract := ab, collection := col, hasDel := false } := by
    unfold PySem.W.clsIn; rw [hC] <;> rfl
  obtain ⟨t1, ho⟩ := exo_at I.hok e
  obtain ⟨hp, g, d, t, os⟩ := s
  refine PySem.W.set_plain I.kIn (ox := { cls := .ref C, dict := none, data := .fields #[.ref t1, .none, .none, .none, .bool false, .none] })
    (od := none) ⟨ho, rfl, rfl, trivial⟩ T.sa ?_
  refine osaN I.kIn ho hcl hM rfl hno (fun h' tk' dx k dn dne hx hn => ?_)
  have free1 : H dx = none := I.hok.fresh dn
  have ndx : ∀ {b : Addr} {o : Obj}, hp.get? b = some o → b ≠ dx :=
    fun {b o} q => Nat.ne_of_lt (Nat.lt_of_lt_of_le (Heap.lt_size q) dn)
  have nea : ∀ {b : Addr}, H b = none → b ≠ a := fun {b} n z => by
    rw [z, e] at n; cases n
  have U1 : Un X.fs [] H (upd (upd H dx (exd dx [(f, y)])) a (exo a C (some dx))) hp h' := by
    refine ⟨fun b o q n _ _ => k b o (nea n) q, fun b o q n _ _ => ⟨o.slots, k b o (nea n) q⟩, fun b o q n _ => ?_, fun b o q _ => ?_, fun b xs q => ?_, fun b o v q => ?_, fun b ps q => ⟨#[], ?_⟩⟩
    · rw [upd_ne (nea n), upd_ne (ndx q)]; exact n
    · by_cases hb : b = a
      · exact ⟨_, by rw [hb]; exact hx⟩
      · exact ⟨o, k b o hb q⟩
    · rw [upd_ne (at_ne e q exo_tup), upd_ne (ne_of_none q free1)]; exact q
    · rw [upd_ne (at_ne e q exo_frz), upd_ne (ne_of_none q free1)]; exact q
    · rw [upd_ne (at_ne e q exo_tbl), upd_ne (ne_of_none q free1), q]; simp
  refine h dx _ free1 dne (I.un (t' := tk') U1 fun b o q => ?_)
  by_cases hb : b = a
  · subst hb
    rw [upd_same] at q; cases q
    exact exo_ok hx
  · rw [upd_ne hb] at q
    by_cases hd : b = dx
    · subst hd
      rw [upd_same] at q; cases q
      exact exd_ok hn (relO_put (fs := []) ry fun g => True.intro)
    · rw [upd_ne hd] at q
      refine (I.hok b o q).stay (fun c v hc z => k c v ?_ z) (fun c hc => ?_) (fun c xs hc => ?_)
      · rcases hc with hc | hc
        · rw [hc]; exact hb
        · exact at_ne e hc exo_own
      · rw [upd_ne (at_ne e hc exo_own), upd_ne (ne_of_none hc free1)]; exact hc
      · rw [upd_ne (at_ne e hc exo_tup), upd_ne (ne_of_none hc free1)]; exact hc
theorem ostO (T : ExG X.K C) (I : Inv X pins σ H s) (e : H a = some (exo a C (some dx))) (ed : H dx = some (exd dx fs)) (hl : fs.length ≤ 900) (hno : PySem.W.findIn X.K (.ref C) f = some none) (ry : RelV y u)
    (h : ∀ s', Inv X pins σ (upd H dx (exd dx ((f, y) :: fs))) s' → Q () s') : wpAny (model X.prog X.w) Ar (setAttr (.ref a) f u) Q Er s := by
  obtain ⟨B, nid, iid, b3, nm, q, N, bs, bm, sn, sub, ab, col, dd, k0, k1, k2, k3, k5, FB, hT, hM, hC⟩ := T.cls
  have hcl : PySem.W.clsIn X.K C = some { name := nm, bases := bs, mro := .ref C :: bm, ns := N, qualname := q, hasDict := true, slotNames := sn, subclasses := sub, abstract := ab, collection := col, hasDel := false } := by
    unfold PySem.W.clsIn; rw [hC] <;> rfl
  obtain ⟨t1, ho⟩ := exo_at I.hok e
  obtain ⟨mA, hns, rel⟩ := exd_at I.hok ed
  have hw := within_of rel
  obtain ⟨hp, g, d, t, os⟩ := s
  obtain ⟨oD, _, _, hoD, _, _⟩ := hns.count hw
  refine PySem.W.set_plain I.kIn (ox := { cls := .ref C, dict := some dx, data := .fields #[.ref t1, .none, .none, .none, .bool false, .none] })
    (od := some oD) ⟨ho, rfl, rfl, hoD⟩ T.sa ?_
  refine osaO I.kIn ho hns hw (by rw [List.length_map]; omega) hcl hM rfl hno (fun h' tk' k hn => ?_)
  have hd : ∃ o, h'.get? dx = some o := by
    obtain ⟨o, _, _, e', _⟩ := hn
    exact ⟨o, e'⟩
  exact h _ (I.write (t' := tk') (x := dx) (e := dx) (o := exd dx ((f, y) :: fs)) (by rw [ed]; exact True.intro) (.inl rfl) k hd (exd_ok hn (relO_put ry rel)))
end
/-- self.f = e in an own exception's __init__ -/
def tOsG (K : PySem.W.Frag) (f : Str) (to te : TE) : TS := fun D σ H => te σ H fun y H1 => to σ H1 fun x H2 => ∃ a C : Addr, x = .ref a ∧ ExG K C ∧ PySem.W.findIn K (.ref C) f = some none ∧
  ((H2 a = some (exo a C none) ∧ ∀ dx, H2 dx = none → dx ≠ a → D.nx σ (upd (upd H2 dx (exd dx [(f, y)])) a (exo a C (some dx)))) ∨
    ∃ (dx : Addr) (fs : List (Str × V)), H2 a = some (exo a C (some dx)) ∧ H2 dx = some (exd dx fs) ∧ fs.length ≤ 900 ∧ D.nx σ (upd H2 dx (exd dx ((f, y) :: fs))))
/-- C(e, .., k = v, ..), C's own __init__ keeping sp: the exception stays a tracked value -/
def tMkG (C : Addr) (n m : Nat) (sp : Sp) (gV : List V → List V → List V) (t tk : TA) : TE := fun σ H Q => t σ H fun vs H1 => tk σ H1 fun zs H2 => vs.length = n ∧ zs.length = m ∧ vs.length ≤ 1000 ∧
  ∀ a, H2 a = none → sp (gV (.ref a :: vs) zs) (upd H2 a (exo a C none)) (fun v H3 => v = .non ∧ Q (.ref a) H3) (fun _ _ _ => False)
section
variable {X : Cx} {o e : Expr} {es : List Expr} {to te : TE} {ta tk : TA} {f : Str} {p p' p1 p2 pos : Pos} {kws : List Keyword} {ks : List Str} {n : Nat}
theorem ps_osG (ho : PE X o to) (he : PE X e te) (hs : swapsWith e (some (.Attribute o f p')) pos.line X.env = pure false := by rfl) : PS X (.Assign [.Attribute o f p'] e pos) (tOsG X.K f to te) := by
  refine ⟨fun pins s σ H D I h => ?_⟩
  refine plainObj_wpAny_Assign_Attribute (thn (he.run pins s σ H _ I h) fun v s1 ⟨y, H1, I1, r1, q1⟩ => thn (ho.run pins s1 σ H1 _ I1 q1) fun u s2 ⟨x, H2, I2, r2, a, C, ex, T, hno, q⟩ => ?_) hs
  subst ex
  obtain rfl : u = Value.ref a := r2
  rcases q with ⟨ea, q⟩ | ⟨dx, fs, ea, ed, hl, q⟩
  · exact ostN T I2 ea hno r1 fun dx s' n ne J => ⟨σ, _, J, q dx n ne⟩
  · exact ostO T I2 ea ed hl hno r1 fun s' J => ⟨σ, _, J, q⟩
variable {CX : CXT} {x : Str} {C fI : Addr} {k : Nat} {fd : FuncData} {ps : List Str} {sp : Sp} {g : List Value → List Value → List Value} {gV : List V → List V → List V}
theorem run_mkG {pins : List (Addr × Obj)} {σ : St} {H : Hp} {s : Shared} {Q : VK} {us ws : List Value} {vs zs : List V} (T : ExG X.K C) (iC : PySem.W.findIn X.K (.ref C) "__init__" = some (some (.ref fI)))
    (tI : PySem.W.typeIn X.K (.ref fI) = some (.type "function")) (F1 : FnOk X.prog X.w X.K X.mg X.base CX k fI fd ps sp) (hr : Room (k + 1) X.A) (hb : KBn X.K fd ps (n + 1) ks g gV) (hx : Passes CX X (fun _ _ _ => False))
    (I : Inv X pins σ H s) (r : Vals vs us) (rz : Vals zs ws) (l1 : vs.length = n) (l2 : zs.length = ks.length) (l3 : vs.length ≤ 1000)
    (h : ∀ a, H a = none → sp (gV (.ref a :: vs) zs) (upd H a (exo a C none)) (fun v H3 => v = .non ∧ Q (.ref a) H3) (fun _ _ _ => False)) :
    wpAny (model X.prog X.w) X.A (call (.ref C) us (ks.zip ws)) (EP X pins σ Q) X.xe s := by
  obtain ⟨B, nid, iid, b3, nm, q, N, bs, bm, sn, sub, ab, col, dd, k0, k1, k2, k3, k5, FB, hT, hM, hC⟩ := T.cls
  obtain ⟨hp, gn, dr, tkk, os⟩ := s
  have hsz : hp.objs.size ≤ hp.objs.size + 1 := Nat.le_succ _
  have hn : H (hp.objs.size + 1) = none := I.hok.fresh hsz
  have hq := h (hp.objs.size + 1) hn
  have kk : ∀ b o, hp.get? b = some o → ((hp.push (PySem.W.kdv_tup us)).push (PySem.HandSPX.excO C hp.objs.size)).get? b = some o :=
    fun b o e => Heap.get?_push_of_some _ (Heap.get?_push_of_some _ e)
  have hgt : ((hp.push (PySem.W.kdv_tup us)).push (PySem.HandSPX.excO C hp.objs.size)).get? (hp.objs.size + 1) = some (PySem.HandSPX.excO C hp.objs.size) := by
    heap_get
  have I2 : Inv X pins σ (upd H (hp.objs.size + 1) (exo (hp.objs.size + 1) C none)) ⟨(hp.push (PySem.W.kdv_tup us)).push (PySem.HandSPX.excO C hp.objs.size), gn, dr, tkk, os⟩ :=
    I.laid (t' := tkk) (a := hp.objs.size + 1) (o := exo (hp.objs.size + 1) C none)
      (h' := (hp.push (PySem.W.kdv_tup us)).push (PySem.HandSPX.excO C hp.objs.size)) kk hsz (exo_ok hgt)
  have r1 : Vals (V.ref (hp.objs.size + 1) :: vs) (Value.ref (hp.objs.size + 1) :: us) := .cons rfl r
  have r2 := hb.rel r1 rz
  have n1 : (Value.ref (hp.objs.size + 1) :: us).length = n + 1 := by
    rw [List.length_cons, ← r.length, l1]
  have hus : us.length ≤ sizeLine := by
    rw [← Paired.length r, sizeLine_eq]; omega
  refine wpAny_call (callK FB hT (I.kIn _ _ hC) (PySem.W.looks_findIn I.kIn iC) (fun self => PySem.W.bind_fn I.kIn self tI) hus
    (codeAny_mono (F1.run _ X.stack _ _ ⟨Value.ref (hp.objs.size + 1) :: us, ks.zip ws⟩ (g (Value.ref (hp.objs.size + 1) :: us) ws) _ _ (fun _ _ _ => False)
      (hr.make C us (ks.zip ws)) (I2.env0.make C us (ks.zip ws)) (hb.to _ (Value.ref (hp.objs.size + 1) :: us) ws I2.kIn n1 (rz.length.symm.trans l2)) r2 hq) fun r s' hq' => ?_))
  cases r with
  | error er => exact hx pins σ _ _ er s' I2 hq'
  | ok fl =>
    cases fl with
    | ret u =>
      obtain ⟨v, H', I3, rv, ev, q3⟩ := I2.after hq'
      subst ev
      exact ⟨rv, ⟨V.ref (hp.objs.size + 1), H', I3, rfl, q3⟩⟩
    | next => exact False.elim hq'
    | brk => exact False.elim hq'
    | cont => exact False.elim hq'
theorem pe_mkG (T : ExG X.K C) (iC : PySem.W.findIn X.K (.ref C) "__init__" = some (some (.ref fI))) (tI : PySem.W.typeIn X.K (.ref fI) = some (.type "function"))
    (F1 : FnOk X.prog X.w X.K X.mg X.base CX k fI fd ps sp) (hr : Room (k + 1) X.A) (hg : Gl X x) (hm : X.mg x = some (.ref C)) (hb : KBn X.K fd ps (n + 1) [] g gV) (hx : Passes CX X (fun _ _ _ => False)) (ha : PA X (e :: es) ta)
    (hdb : (x == ("__debug__" : Str)) = false := by decide) (he : starEach (e :: es) X.env = (false, eval e X.env) :: starEach es X.env := by rfl) (hpl : (backTo pos (starEach es X.env)).any (·.1) = false := by rfl) :
    PE X (.Call (.Name x p) (e :: es) [] pos) (tMkG C n 0 sp gV ta tNil) := by
  refine ⟨fun pins s σ H Q I h => ?_⟩
  refine wpAny_Call_Name_kw (ld_glob I hg hm ?_ hdb)
  refine PySem.W.callWith_K (h₀ := X.base) I.ok.mod.kin T.kC (thn (ha.run pos pins s σ H _ I h) fun us s1 ⟨vs, H1, I1, r, l1, l2, l3, q⟩ => ⟨I1.kIn, ?_⟩) he hpl
  exact run_mkG (ws := []) (zs := []) T iC tI F1 hr hb hx I1 r .nil l1 l2 l3 q
theorem pe_mkGK (T : ExG X.K C) (iC : PySem.W.findIn X.K (.ref C) "__init__" = some (some (.ref fI))) (tI : PySem.W.typeIn X.K (.ref fI) = some (.type "function"))
    (F1 : FnOk X.prog X.w X.K X.mg X.base CX k fI fd ps sp) (hr : Room (k + 1) X.A) (hg : Gl X x) (hm : X.mg x = some (.ref C)) (hb : KBn X.K fd ps 1 ks g gV) (hx : Passes CX X (fun _ _ _ => False)) (hkw : PK X kws tk)
    (hall : (backToKw pos (keywordEach kws X.env)).all (·.1.isSome) = true := by rfl) (hks : (backToKw pos (keywordEach kws X.env)).filterMap (·.1) = ks := by rfl) (hdb : (x == ("__debug__" : Str)) = false := by decide)
    (hpl : ((backTo pos (starEach [] X.env)).any (·.1) || (backToKw pos (keywordEach kws X.env)).any (·.1.isNone)) = false := by rfl) :
    PE X (.Call (.Name x p) [] kws pos) (tMkG C 0 ks.length sp gV tNil tk) := by
  refine ⟨fun pins s σ H Q I h => ?_⟩
  refine wpAny_Call_Name_kw (ld_glob I hg hm ?_ hdb)
  refine PySem.W.callWith_KW0 (h₀ := X.base) I.ok.mod.kin T.kC hall ?_ hpl
  refine thn (hkw.run pos pins s σ H _ I h) fun ws s2 ⟨zs, H2, I2, rz, l1, l2, l3, q2⟩ => ⟨I2.kIn, ?_⟩
  rw [hks]
  exact run_mkG (us := []) (vs := []) T iC tI F1 hr hb hx I2 .nil rz rfl l2 (Nat.zero_le _) q2
end
end L2
namespace L2
open PySem PySem.Spec PyProof.Rows PySem.GX
/-- flat things -/
inductive Fl : V → PyData → Prop
  | non : Fl .non .none
  | bl (b : Bool) : Fl (.bl b) (.bool b)
  | int (i : Int) : Fl (.int i) (.int i)
  | str (x : Str) : Fl (.str x) (.str x)
mutual
/-- the data that a value is, dicts of flat things among them -/
inductive Sh (K : PySem.W.Frag) (H : Hp) : V → PyData → Prop
  | fl {v : V} {d : PyData} : Fl v d → Sh K H v d
  | lst {a : Addr} {xs : List V} {ds : List PyData} : SqL K H a xs → ShAll K H xs ds → Sh K H (.ref a) (.list ds)
  | tup {a : Addr} {xs : List V} {ds : List PyData} : SqT K H a xs → ShAll K H xs ds → Sh K H (.ref a) (.tuple ds)
  | dic {a : Addr} {kvs : List (Key × V)} {kds : List (PyData × PyData)} : H a = some (.dK kvs) → Paired Fl (kvs.map fun p => kV p.1) (kds.map (·.1)) → Paired Fl (kvs.map (·.2)) (kds.map (·.2)) →
      Sh K H (.ref a) (.dict kds)
inductive ShAll (K : PySem.W.Frag) (H : Hp) : List V → List PyData → Prop
  | nil : ShAll K H [] []
  | cons {v : V} {vs : List V} {d : PyData} {ds : List PyData} : Sh K H v d → ShAll K H vs ds → ShAll K H (v :: vs) (d :: ds)
end
section
variable {pr : Program} {wd : World} {h0 : Heap}
theorem Fl.reads {v : V} {d : PyData} {u : Value} (f : Fl v d) (r : RelV v u) : Reads h0 u d [] := by
  cases f with
  | non => cases r; exact .none
  | bl b => cases r; exact .bool b
  | int i => obtain ⟨t, rfl⟩ := r; exact .int i t
  | str x => obtain ⟨t, rfl⟩ := r; exact .str x t
theorem Fl.repr {v : V} {d : PyData} {u : Value} (f : Fl v d) (r : RelV v u) (hs : d.showable = true) (hz : d.shown.length ≤ sizeLine) (n : Nat) (bs : List Addr) : ReprK pr wd bs h0 n u d.shown := by
  cases f with
  | non => cases r; simp only [PyData.shown]; exact .of_is ReprIs.none _ _ _
  | bl b => cases r; simp only [PyData.shown]; exact .of_is (ReprIs.bool b) _ _ _
  | int i => obtain ⟨t, rfl⟩ := r; simp only [PyData.shown]; exact .of_is (ReprIs.int t (by simpa [PyData.showable] using hs)) _ _ _
  | str x => obtain ⟨t, rfl⟩ := r; simp only [PyData.shown]; exact .of_is (ReprIs.str x t (by simpa only [PyData.shown] using hz)) _ _ _
theorem flAll_reads : ∀ {vs : List V} {ds : List PyData} {us : List Value}, Paired Fl vs ds → Vals vs us → ReadsAll h0 us ds []
  | _, _, _, .nil, .nil => .nil
  | _, _, _, .cons f t, .cons r q => ReadsAll.cons (as := []) (bs := []) (f.reads r) (flAll_reads t q)
theorem flAll_repr (n : Nat) (bs : List Addr) : ∀ {vs : List V} {ds : List PyData} {us : List Value}, Paired Fl vs ds → Vals vs us → PyData.showableAll ds = true → (∀ t ∈ PyData.shownAll ds, t.length ≤ sizeLine) → ReprAllK pr wd bs h0 n us (PyData.shownAll ds)
  | _, _, _, .nil, .nil, _, _ => by simp only [PyData.shownAll]; exact .nil
  | _, d :: ds, _, .cons f t, .cons r q, hs, hz => by
    have hs' : d.showable = true ∧ PyData.showableAll ds = true := by simpa [PyData.showableAll] using hs
    simp only [PyData.shownAll] at hz ⊢
    exact .cons (f.repr r hs'.1 (hz _ (List.mem_cons_self ..)) n bs) (flAll_repr n bs t q hs'.2 fun t ht => hz t (List.mem_cons_of_mem _ ht))
end
theorem pairs_split {P : Program} {w : World} : ∀ {es : List DictEntry} {kvs : List (Key × V)} {vs : List (Key × Value)}, Pairs (mixKind P w) es vs → KV kvs vs → Vals (kvs.map fun p => kV p.1) (es.map (·.key)) ∧ Vals (kvs.map (·.2)) (es.map (·.val))
  | _, _, _, .nil, .nil => ⟨.nil, .nil⟩
  | e :: es, (k, v) :: kvs, (k', u) :: vs, .cons h1 h2 t, .cons r q => by
    obtain ⟨a, b⟩ := pairs_split t q
    obtain ⟨r1, r2⟩ := r
    have r1' : k = k' := r1
    subst r1'
    have hk : keyIs k e.key = true := h1
    have h2' : e.val = u := h2
    have rk : RelV (kV k) e.key := by
      rcases keyIs_shape hk with ⟨i, t, rfl, q⟩ | ⟨x, t, rfl, q⟩
      · exact ⟨t, q⟩
      · exact ⟨t, q⟩
    exact ⟨.cons rk a, .cons (show RelV v e.val by rw [h2']; exact r2) b⟩
section
variable {X : Cx} {pins : List (Addr × Obj)} {σ : St} {H : Hp} {s : Shared}
mutual
theorem Sh.both (I : Inv X pins σ H s) : ∀ (d : PyData) (v : V) (u : Value), Sh X.K H v d → RelV v u → d.showable = true → d.shown.length ≤ sizeLine →
    (∃ as, Reads s.heap u d as) ∧ ∃ bs, ReadAtMost s.heap d.depth bs ∧ ReprK X.prog X.w bs s.heap d.depth u d.shown
  | .none, _, _, h, r, hs, hz => by
    cases h with
    | fl f => exact ⟨⟨_, f.reads r⟩, [], (fun _ z => nomatch z), f.repr r hs hz _ _⟩
  | .bool b, _, _, h, r, hs, hz => by
    cases h with
    | fl f => exact ⟨⟨_, f.reads r⟩, [], (fun _ z => nomatch z), f.repr r hs hz _ _⟩
  | .int i, _, _, h, r, hs, hz => by
    cases h with
    | fl f => exact ⟨⟨_, f.reads r⟩, [], (fun _ z => nomatch z), f.repr r hs hz _ _⟩
  | .str x, _, _, h, r, hs, hz => by
    cases h with
    | fl f => exact ⟨⟨_, f.reads r⟩, [], (fun _ z => nomatch z), f.repr r hs hz _ _⟩
  | .list ds, _, _, h, r, hs, hz => by
    cases h with
    | fl f => cases f
    | @lst a xs _ hq ha =>
      cases r
      obtain ⟨its, rv, ⟨o, n, ho, hc, _, hd⟩, _⟩ := I.list hq
      have hz' : (listText (PyData.shownAll ds)).length ≤ sizeLine := by simpa only [PyData.shown] using hz
      obtain ⟨⟨as, hr⟩, bs, hb, hk⟩ := Sh.bothAll I ds xs its ha rv (by simpa [PyData.showable] using hs) (fun t ht => Nat.le_trans (listText_mem_le ht) hz')
      have rr : Reads s.heap (.ref a) (.list ds) _ := Reads.list ho hc hd hr
      have hna : a ∉ bs := not_mem_of_deeper rr (by simp only [PyData.depth]; omega) hb
      refine ⟨⟨_, rr⟩, a :: bs, ReadAtMost.cons rr (by simp only [PyData.depth]; omega) hb, ?_⟩
      simp only [PyData.depth, PyData.shown]
      cases its with
      | nil =>
        cases hr
        simp only [PyData.shownAll, listText_nil]
        exact ReprK.listEmpty ho hc hd
      | cons x l => exact ReprK.list ho hc hd hna (by simpa using hk.length_eq) (fun i y e => hk.item i y (by simpa using e))
  | .tuple ds, _, _, h, r, hs, hz => by
    cases h with
    | fl f => cases f
    | @tup a xs _ hq ha =>
      cases r
      obtain ⟨its, rv, ⟨o, ho, hc, n, hd⟩, _⟩ := I.tuple hq
      have hz' : (tupleText (PyData.shownAll ds)).length ≤ sizeLine := by simpa only [PyData.shown] using hz
      obtain ⟨⟨as, hr⟩, bs, hb, hk⟩ := Sh.bothAll I ds xs its ha rv (by simpa [PyData.showable] using hs) (fun t ht => Nat.le_trans (tupleText_mem_le ht) hz')
      have rr : Reads s.heap (.ref a) (.tuple ds) _ := Reads.tuple ho hc hd hr
      have hna : a ∉ bs := not_mem_of_deeper rr (by simp only [PyData.depth]; omega) hb
      refine ⟨⟨_, rr⟩, a :: bs, ReadAtMost.cons rr (by simp only [PyData.depth]; omega) hb, ?_⟩
      simp only [PyData.depth, PyData.shown]
      exact ReprK.tuple ho hc hd hna hk
  | .dict kds, _, _, h, r, hs, hz => by
    cases h with
    | fl f => cases f
    | @dic a kvs _ hq fk fv =>
      cases r
      obtain ⟨_, hsys, vs, rkv, o, es, ep, ho, ⟨hc, _⟩, hd, _, hp, _⟩ := I.hok a _ hq
      obtain ⟨vk, vv⟩ := pairs_split hp rkv
      obtain ⟨hs1, hs2⟩ := PyData.showableKv_split kds (by simpa [PyData.showable] using hs)
      have hz' : (dictText (PyData.shownKv kds)).length ≤ sizeLine := by simpa only [PyData.shown] using hz
      have k1 : ReprAllK X.prog X.w [] s.heap (PyData.depthKv kds) _ _ := flAll_repr (PyData.depthKv kds) [] fk vk hs1 (fun t ht => by
        obtain ⟨p, hp, hl⟩ := PyData.shownKv_key_le kds t ht
        exact Nat.le_trans hl (Nat.le_trans (dictText_mem_le hp) hz'))
      have k2 : ReprAllK X.prog X.w [] s.heap (PyData.depthKv kds) _ _ := flAll_repr (PyData.depthKv kds) [] fv vv hs2 (fun t ht => by
        obtain ⟨p, hp, hl⟩ := PyData.shownKv_val_le kds t ht
        exact Nat.le_trans hl (Nat.le_trans (dictText_mem_le hp) hz'))
      have rr : Reads s.heap (.ref a) (.dict kds) _ := Reads.dict ho hc hd (flAll_reads fk vk) (flAll_reads fv vv)
      refine ⟨⟨_, rr⟩, [a], ReadAtMost.cons rr (n := 0) (Nat.zero_le _) (fun _ z => nomatch z), ?_⟩
      simp only [PyData.depth, PyData.shown, PyData.shownKv_eq]
      exact ReprK.dict ho hc hd hsys (fun z => nomatch z) (ReprEntriesK.of_two es.toList _ _ k1 k2)
theorem Sh.bothAll (I : Inv X pins σ H s) : ∀ (ds : List PyData) (vs : List V) (us : List Value), ShAll X.K H vs ds → Vals vs us → PyData.showableAll ds = true → (∀ t ∈ PyData.shownAll ds, t.length ≤ sizeLine) →
    (∃ as, ReadsAll s.heap us ds as) ∧ ∃ bs, ReadAtMost s.heap (PyData.depthAll ds) bs ∧ ReprAllK X.prog X.w bs s.heap (PyData.depthAll ds) us (PyData.shownAll ds)
  | [], _, _, h, r, _, _ => by
    cases h
    cases r
    refine ⟨⟨_, ReadsAll.nil⟩, [], (fun _ z => nomatch z), ?_⟩
    simp only [PyData.shownAll]
    exact .nil
  | d :: ds, _, _, h, r, hs, hz => by
    cases h with
    | cons h1 h2 =>
      cases r with
      | cons r1 r2 =>
        have hs' : d.showable = true ∧ PyData.showableAll ds = true := by simpa [PyData.showableAll] using hs
        simp only [PyData.shownAll] at hz
        obtain ⟨⟨as, q1⟩, b1, hb1, k1⟩ := Sh.both I d _ _ h1 r1 hs'.1 (hz _ (List.mem_cons_self ..))
        obtain ⟨⟨bs, q2⟩, b2, hb2, k2⟩ := Sh.bothAll I ds _ _ h2 r2 hs'.2 (fun t ht => hz t (List.mem_cons_of_mem _ ht))
        refine ⟨⟨_, ReadsAll.cons q1 q2⟩, b1 ++ b2, ?_, ?_⟩
        · simp only [PyData.depthAll]
          exact (hb1.mono (Nat.le_max_left _ _)).append (hb2.mono (Nat.le_max_right _ _))
        · simp only [PyData.depthAll, PyData.shownAll]
          exact .cons ((k1.more fun b hb => List.mem_append_left _ hb).level_le (Nat.le_max_left _ _)) (k2.more_le (fun b hb => List.mem_append_right _ hb) (Nat.le_max_right _ _))
end
end
/-- repr(x), x a list -/
def rRepr (K : PySem.W.Frag) : List V → Hp → VK → Prop := fun xs H Q => ∃ (a : Addr) (ds : List PyData), xs = [.ref a] ∧ Sh K H (.ref a) (.list ds) ∧ PyData.showableAll ds = true ∧ (PyData.list ds).shown.length ≤ sizeLine ∧ (PyData.list ds).depth ≤ 60 ∧
  Q (.str (PyData.list ds).shown) H
theorem call_reprL {X : Cx} (hg : X.A.guards = some []) (hu : X.A.units + 64 < cLine) : CallR X (.builtin "repr") (rRepr X.K) := by
  intro pins s σ H xs us Q I r h
  obtain ⟨a, ds, rfl, hsh, hs, hz, hdp, q⟩ := h
  cases r with
  | cons r1 r2 =>
    cases r2
    cases r1
    cases hsh with
    | fl f => cases f
    | @lst _ xs _ hq ha =>
      obtain ⟨its, rv, ⟨o, n, ho, hc, _, hd⟩, _⟩ := I.list hq
      have hz' : (listText (PyData.shownAll ds)).length ≤ sizeLine := by simpa only [PyData.shown] using hz
      obtain ⟨⟨as, hr⟩, bs, hb, hk⟩ := Sh.bothAll I ds xs its ha rv hs (fun t ht => Nat.le_trans (listText_mem_le ht) hz')
      have rr : Reads s.heap (.ref a) (.list ds) _ := Reads.list ho hc hd hr
      have hna : a ∉ bs := not_mem_of_deeper rr (by simp only [PyData.depth]; omega) hb
      simp only [PyData.depth] at hdp
      simp only [PyData.shown] at q
      refine call_repr_slot (by omega) ⟨o, ho, hc⟩ F.slot_list_repr.toG ?_
      have fin : ∀ (h' : Heap) (u : Tok) (tk : Nat), (∀ b o, s.heap.get? b = some o → h'.get? b = some o) → EP X pins σ Q (.str (listText (PyData.shownAll ds)) u) { s with heap := h', toks := tk } :=
        fun h' u tk k => ⟨.str (listText (PyData.shownAll ds)), H, I.kept k, ⟨u, rfl⟩, q⟩
      cases its with
      | nil =>
        cases hr
        simp only [PyData.shownAll, listText_nil] at fin
        exact call_list_repr_empty ⟨o, ho, hc⟩ ho hd ⟨_, _, rfl, fin s.heap _ _ fun _ _ e => e⟩
      | cons x l =>
        exact call_list_reprK ho hc hd hna (by simpa using hk.length_eq) (fun i y e => hk.item i y (by simpa using e)) hg (fun b _ => Clear.nil b)
          (by show X.A.units + 1 + _ < cLine; omega) (fun _ _ e => e) (fun h' u tk k => ⟨_, _, rfl, fin h' u tk k⟩) hz'
end L2
namespace L2
open PySem PySem.Spec PyProof.Rows PySem.GX
/-- a def's promise where no repr is under way -/
structure FnG (P : Program) (w : World) (K : PySem.W.Frag) (mg : Str → Option Value) (base : Heap) (CX : CXT) (k : Nat) (f : Addr) (fd : FuncData) (ps : List Str) (sp : Sp) : Prop where
  len : ∀ vs H Q E, sp vs H Q E → vs.length = ps.length
  run : ∀ (A : Around) (outer : List Env) (s : Shared) (H : Hp) (args : Args) (us : List Value) (vs : List V) (Q : VK) (E : XK), A.guards = some [] → Room k A → Env0 P w K mg base A outer s H →
    BindsTo s fd args (ps.zip us) → Vals vs us → sp vs H Q E → codeAny (model P w) A (.call (.ref f) args) (CR CX outer P w H s Q E) s
section
variable {P : Program} {w : World} {K : PySem.W.Frag} {mg : Str → Option Value} {base : Heap} {CX : CXT}
theorem fnG_of {k : Nat} {f : Addr} {name qual : Str} {params : Arguments} {body : List Stmt} {scope : Scope} {dV kV doc pm cdv ct oc : Value} {an od : Option Addr}
    {osl : Array (Option Value)} {N ps : List Str} {sp : Sp} (lk : K.lookup f = some ⟨oc, od, .func (PySem.W.fnOf name qual params body scope dV kV doc pm an cdv ct), osl⟩)
    (hcd : PySem.W.codeIn K cdv qual = true) (S : FnScope N ps scope) (len : ∀ vs H Q E, sp vs H Q E → vs.length = ps.length)
    (hbody : ∀ (A : Around) (outer : List Env) (s : Shared) (H : Hp) (vs : List V) (Q : VK) (E : XK), A.guards = some [] → Room k (A.deeper (envOfC qual scope s.heap.objs.size f cdv)) → sp vs H Q E →
      ∃ t, PSs (cxOf CX P w K mg base N qual scope f cdv A outer s H E) body t ∧ t { nx := fun _ H' => Q .non H', rt := Q } (start N vs) H) :
    FnG P w K mg base CX (k + 1) f (PySem.W.fnOf name qual params body scope dV kV doc pm an cdv ct) ps sp := by
  refine ⟨len, fun A outer s H args us vs Q E hgd hr e0 hb r hsp => ?_⟩
  have hl := len _ _ _ _ hsp
  have KX : K.In s.heap := e0.mod.kin.keeps fun b o e => (e0.bs b o e).1
  have lim : s.heap.NoLimit := e0.mod.nolimit.keeps fun b o e => (e0.bs b o e).1
  have hkind : ∀ y ∈ ps.zip us, scope.names.lookup y.1 = some .local ∨
      (scope.names.lookup y.1 = some .cell ∧ ((cellsFrom (s.heap.objs.size + 1) scope.names []).lookup y.1).isSome = true) := fun ⟨n, v⟩ hy => by
    rcases S.par n (List.of_mem_zip hy).1 with q | q
    · exact .inl q
    · exact .inr ⟨q, PySem.W.cellsFrom_some _ _ _ (.inl q)⟩
  refine codeAny_call_function hr.depth (KX _ _ lk) rfl S.co S.gen rfl (PySem.W.codeRec_of KX hcd) (hb _ _ _ _ ?_)
  refine wpAny_newFunctionEnv_cells S.kind hkind fun env he s1 x => ?_
  subst he
  refine ⟨lim.keeps x.toInCall.keep, codeAny_func ?_⟩
  obtain ⟨t, ht, hq⟩ := hbody A outer s H vs Q E hgd (hr.deeper _) hsp
  have I : Inv (cxOf CX P w K mg base N qual scope f cdv A outer s H E) [] (start N vs) H s1 := inv_start S hr.hd e0 hl r x
  refine wpAny_mono (ht.run [] s1 (start N vs) H _ I hq) (fun fl s' hs => ?_) fun e s' hs => hs
  cases fl with
  | ret u =>
    obtain ⟨v, σ', H', J, rv, q⟩ := hs
    exact ⟨v, H', J.os, J.bare, J.base, J.hok, rv, q⟩
  | next =>
    obtain ⟨σ', H', J, q⟩ := hs
    exact ⟨V.non, H', J.os, J.bare, J.base, J.hok, rfl, q⟩
  | brk =>
    obtain ⟨_, _, _, q⟩ := hs
    exact False.elim q
  | cont =>
    obtain ⟨_, _, _, q⟩ := hs
    exact False.elim q
theorem Fun.okG {x qual : Str} {st : Stmt} {f : Addr} {fd : FuncData} {N ps : List Str} {k : Nat} {sp : Sp} (F : Fun K x qual st f fd) (S : FnScope N ps (defScope st)) (len : ∀ vs H Q E, sp vs H Q E → vs.length = ps.length)
    (hbody : ∀ (cdv : Value) (A : Around) (outer : List Env) (s : Shared) (H : Hp) (vs : List V) (Q : VK) (E : XK), A.guards = some [] → Room k (A.deeper (envOfC qual (defScope st) s.heap.objs.size f cdv)) → sp vs H Q E →
      ∃ t, PSs (cxOf CX0 P w K mg base N qual (defScope st) f cdv A outer s H E).nox (defBody st) t ∧ t { nx := fun _ H' => Q .non H', rt := Q } (start N vs) H) : FnG P w K mg base CX0 (k + 1) f fd ps sp := by
  obtain ⟨oc, od, kV, doc, pm, an, cdv, ct, osl, rfl, lk, hcd⟩ := F.ex
  refine fnG_of lk hcd S len fun A outer s H vs Q E hgd hr hsp => ?_
  obtain ⟨t, h, q⟩ := hbody cdv A outer s H vs Q E hgd hr hsp
  exact ⟨t, h.nox, q⟩
end
section
variable {X : Cx} {CX : CXT} {k : Nat} {f C : Addr} {fd : FuncData} {ps : List Str} {sp : Sp} {E : XK} {x : Str} {p pos : Pos} {e : Expr} {es : List Expr} {t : TA}
theorem pe_callG (F : FnG X.prog X.w X.K X.mg X.base CX k f fd ps sp) (hgd : X.A.guards = some []) (hr : Room k X.A) (hg : Gl X x) (hm : X.mg x = some (.ref f)) (hk : PySem.W.keepIn X.K (.ref f) = true) (hb : Binds X.K fd ps []) (hx : Passes CX X E)
    (ha : PA X (e :: es) t) (hdb : (x == ("__debug__" : Str)) = false := by decide) (he : starEach (e :: es) X.env = (false, eval e X.env) :: starEach es X.env := by rfl) (hpl : (backTo pos (starEach es X.env)).any (·.1) = false := by rfl) :
    PE X (.Call (.Name x p) (e :: es) [] pos) (tCall sp [] E t) := by
  refine ⟨fun pins s σ H Q I h => ?_⟩
  refine wpAny_Call_Name_kw (ld_glob I hg hm ?_ hdb)
  refine PySem.W.callWith_K (h₀ := X.base) I.ok.mod.kin hk (thn (ha.run pos pins s σ H _ I h) fun us s1 ⟨vs, H1, I1, r, q⟩ => ⟨I1.kIn, ?_⟩) he hpl
  have r2 : Vals (vs ++ []) (us ++ []) := r.append .nil
  have hl : (us ++ []).length = ps.length := by rw [← r2.length]; exact F.len _ _ _ _ q
  refine wpAny_call (codeAny_mono (F.run X.A X.stack s1 H1 ⟨us, []⟩ (us ++ []) (vs ++ []) Q E hgd hr I1.env0 (hb s1 us I1.kIn hl) r2 q) fun r s' hq => ?_)
  cases r with
  | error e => exact hx pins σ H1 s1 e s' I1 hq
  | ok fl =>
    cases fl with
    | ret u => exact I1.after hq
    | next => exact False.elim hq
    | brk => exact False.elim hq
    | cont => exact False.elim hq
/-- X(), an own exception class without own __init__ -/
theorem pe_exc0G {bmB : List Value} {B nid iid : String} (F : ExcBaseFacts B nid iid bmB) (q : PySem.W.excIn X.K C bmB nid = true) (gC : X.mg x = some (.ref C)) (kC : PySem.W.keepIn X.K (.ref C) = true) (hg : Gl X x)
    (hdb : (x == ("__debug__" : Str)) = false := by decide) :
    PE X (.Call (.Name x p) [] [] pos) (fun σ H Q => ∀ a, H a = none → Q (.ref a) (upd H a (exo a C none))) := by
  refine ⟨fun pins s σ H Q I h => ?_⟩
  refine wpAny_Call_Name_kw (ld_glob I hg gC ?_ hdb)
  refine PySem.W.callWith_K0 I.kIn kC ?_
  obtain ⟨bm, N, nm, qn, bs, hdct, sn, sub, ab, col, dd, k0, k1, k2, k3, k5, mN, hC, hN, hni, T⟩ := exc_obj I.kIn q
  refine wpAny_call_exc_subT F T hC hN hni (fun h' a hm => ?_) (by show 0 ≤ sizeLine; exact Nat.zero_le _)
  have hn : H a = none := I.hok.gone hm.new
  obtain ⟨t, ht, _, _⟩ := hm.there
  exact ⟨.ref a, upd H a (exo a C none), I.laidN hm.keeps hm.new hn (exo_ok ht), rfl, h a hn⟩
end
/-- the law's call, its promise where no repr is under way -/
theorem law_callG {P : Program} {w : World} {K : PySem.W.Frag} {mg mb : Str → Option Value} {CX : CXT} {k : Nat} {fa a : Addr} {fd : FuncData} {x : Str} {sp : Sp} {s1 : Shared} {vs : List Value} {ns : List Int}
    (KX : K.In s1.heap) (hns : s1.heap.Ns mainGlobals mg) (hb : s1.heap.Ns builtinsNs mb) (hbb : ∀ x : Str, x ≠ "__name__" → mb x = bootBuiltins x) (hlim : s1.heap.NoLimit) (hg : s1.gens = #[])
    (ha : s1.heap.get? a = some { cls := .type "list", data := .seq vs.toArray }) (hi : IntsAre vs ns) (hl : ns.length ≤ sizeLine) (hr : Room k callerA)
    (F : ∀ base : Heap, K.In base → base.Ns mainGlobals mg → FnG P w K mg base CX k fa fd [x] sp) (hbind : ∀ (s : Shared) (u : Value), BindsTo s fd ⟨[u], []⟩ [(x, u)])
    (hsp : ∀ H : Hp, Only H → SqL K H a (ns.map V.int) → sp [.ref a] H (fun v _ => v = .bl true) fun _ _ _ => False)
    (hCX : ∀ H e s', CX [] H s1 (fun _ _ _ => False) e s' → False) :
    codeAny (model P w) callerA (.call (.ref fa) ⟨[.ref a], []⟩) (fun r s' => r = .ok (.ret (.bool true)) ∧ OldK s1.heap s'.heap ∧ s'.os = s1.os ∧ AllBare s'.gens) s1 := by
  have rv := vals_ints hi
  have lenV := hi.length
  have core : ∀ H : Hp, Only H → SqL K H a (ns.map V.int) → HOk P w H s1.heap → (∀ b, H b ≠ none → b = a) → (H a ≠ none → K.lookup a = none) →
      codeAny (model P w) callerA (.call (.ref fa) ⟨[.ref a], []⟩) (fun r s' => r = .ok (.ret (.bool true)) ∧ OldK s1.heap s'.heap ∧ s'.os = s1.os ∧ AllBare s'.gens) s1 := by
    intro H hO hS hok hA hK
    have isA : ∀ {b : Addr} {u : HO}, H b = some u → b = a := fun {b u} q => hA b (by rw [q]; simp)
    have nod : ∀ {b : Addr} {o : Obj} {es : Array DictEntry} {ep : Nat}, s1.heap.get? b = some o → o.data = .dict es ep → H b = none := fun {b o es ep} e d => by
      cases q : H b with
      | none => rfl
      | some u =>
        have e1 := isA q
        subst e1
        rw [ha] at e
        cases e
        cases (show Data.seq vs.toArray _ = Data.dict es ep from d)
    have nsK : ∀ {b : Addr} {m : Str → Option Value}, s1.heap.Ns b m → (hidT s1.heap H).Ns b m :=
      fun {b m} ⟨o, es, ep, e, d, r⟩ => ⟨o, es, ep, hidT_get e (nod e d), d, r⟩
    have hKb : K.In (hidT s1.heap H) := fun b o e => hidT_get (KX b o e) (by
      cases q : H b with
      | none => rfl
      | some u =>
        have e1 := isA q
        subst e1
        rw [hK (by rw [q]; simp)] at e
        cases e)
    have hM : Mod K mg (hidT s1.heap H) :=
      ⟨hKb, nsK hns, ⟨mb, nsK hb, hbb⟩, let ⟨mc, h1, h2⟩ := hlim; ⟨mc, nsK h1, h2⟩⟩
    have e0 : Env0 P w K mg (hidT s1.heap H) callerA [] s1 H :=
      ⟨rfl, hM, fun b o e => of_hidT e, Nat.le_of_eq (hidT_size _ _), trivial, fun b hb => absurd (show b ∈ ([] : List Addr) from hb) (by simp), hok, .of_eq hg⟩
    refine codeAny_mono ((F _ hKb (nsK hns)).run callerA [] s1 H ⟨[.ref a], []⟩ [.ref a] [.ref a] _ _ rfl hr e0 (hbind s1 (.ref a)) (.cons rfl .nil) (hsp H hO hS)) fun r s' h => ?_
    cases r with
    | error e => exact (hCX H e s' h).elim
    | ok fl =>
      cases fl with
      | next => exact False.elim h
      | brk => exact False.elim h
      | cont => exact False.elim h
      | ret u =>
        obtain ⟨v, H', os, bare, un, hok', r', q⟩ := h
        have qv : v = .bl true := q
        subst qv
        obtain rfl : u = Value.bool true := r'
        refine ⟨rfl, OldK.of_keep fun b o e => ?_, os, bare⟩
        cases q : H b with
        | none => exact un.keep b o e q (by intro z; exact absurd (show b ∈ ([] : List Addr) from z) (by simp)) (by simp)
        | some u =>
          rcases hO b with z | ⟨ob, xs, z⟩
          · rw [q] at z; cases z
          · have z2 := un.frzs b ob _ z
            obtain ⟨e1, _⟩ := hok b _ z
            obtain ⟨e2, _⟩ := hok' b _ z2
            rw [e] at e1
            cases e1
            exact e2
  cases hk : K.lookup a with
  | some o =>
    have e := KX a o hk
    rw [ha] at e
    cases e
    refine core (fun _ => none) (fun _ => .inl rfl) (.inr ⟨_, vs.toArray, _, hk, rfl, rfl, rfl, by rw [List.size_toArray, lenV]; exact hl, by simpa using rv⟩)
      (fun b u z => by cases (show (none : Option HO) = some u from z)) (fun b z => absurd rfl z) fun z => absurd rfl z
  | none =>
    refine core (fun b => if b = a then some (.frz { cls := .type "list", data := .seq vs.toArray } (.lst (ns.map V.int))) else none)
      (fun b => ?_) (.inl (.inr ⟨{ cls := .type "list", data := .seq vs.toArray }, if_pos rfl⟩)) (fun b u z => ?_) (fun b z => ?_) fun _ => hk
    · by_cases hb : b = a
      · exact .inr ⟨_, _, if_pos hb⟩
      · exact .inl (if_neg hb)
    · by_cases hb : b = a
      · have z1 := (if_pos hb).symm.trans z
        cases z1
        subst hb
        exact ⟨ha, by rw [List.length_map]; exact hl, vs, _, rv, ha⟩
      · have z1 := (if_neg hb).symm.trans z
        cases z1
    · by_cases hb : b = a
      · exact hb
      · exact absurd (if_neg hb) z
theorem walk_G {l : PySem.W.OpenLaw} {n k : Nat} {q : Program} {loose : List Str} {XP : (Str → Option Value) → Heap → Prop} {YP : World → Heap → Prop} {d : DefRec} {K : Params → PySem.W.Frag} {sp : PySem.W.Frag → Sp} {x : Str}
    (hn : l.most = some n) (hn2 : n ≤ sizeLine) (hdf : d.params.defaults = []) (hr : Room k callerA)
    (hY : ∀ (w : World) (h : Heap), YP w h → (K w.params).In h)
    (F : ∀ (w : World) (mg : Str → Option Value) (fa : Addr) (h : Heap), (K w.params).In h → h.Ns mainGlobals mg → mg d.name = some (.ref fa) →
      ∃ fd : FuncData, (∀ (s : Shared) (u : Value), BindsTo s fd ⟨[u], []⟩ [(x, u)]) ∧
        ∀ base : Heap, (K w.params).In base → base.Ns mainGlobals mg → FnG l.prog w (K w.params) mg base CX0 k fa fd [x] (sp (K w.params)))
    (hsp : ∀ (K : PySem.W.Frag) (H : Hp) (a : Addr) (ns : List Int), ns.length ≤ n → Only H → SqL K H a (ns.map V.int) → sp K [.ref a] H (fun v _ => v = .bl true) fun _ _ _ => False) :
    PySem.W.WalkO q loose XP YP l.row.toRowW d [] (fun f vs => PySem.call f vs) := by
  refine Att.attach_call hn hdf fun w s₀ s1 mg mb fa o pm cd doc a vs ns G Y ho hd hcd hmg hobj hints hlen hg => ?_
  have KX := hY w _ Y
  obtain ⟨fd, hb, hF⟩ := F w mg fa _ KX G.T.g hmg
  exact law_callG KX G.T.g G.T.b G.T.builtins G.T.nolimit hg hobj hints (Nat.le_trans hlen hn2) hr hF hb (fun H hO hS => hsp (K w.params) H a ns hlen hO hS) fun _ _ _ z => z
end L2
namespace L2
open PySem PySem.Spec PyProof.Rows PySem.GX
/-! sets of texts that can be walked: ys are the members, none twice -/
def keyS (e : Int × Value) : Str := match e.2 with | .str k _ => k | _ => Str.empty
def GoodS (w : World) (e : Int × Value) : Prop := ∃ k tk, e.2 = Value.str k tk ∧ e.1 = hashStr w k
def SetT (w : World) (h : Heap) (a : Addr) (ys : List Str) : Prop :=
  ∃ o es ep t, h.get? a = some o ∧ o.ExactSet ∧ o.data = .set es ep t ∧ (∀ e ∈ es.toList, GoodS w e) ∧ (es.toList.map keyS).Perm ys ∧ ys.Nodup ∧
    es.size < scanBound ∧ t.fits es.size = true ∧ Ris t.place.toList ∧ (w.params.followText "set-order" = true ∨ t.led = true)
/-- one more member -/
def ins (ys : List Str) (k : Str) : List Str := if k ∈ ys then ys else k :: ys
theorem ins_nodup {ys : List Str} {k : Str} (h : ys.Nodup) : (ins ys k).Nodup := by
  unfold ins
  split
  · exact h
  · exact List.nodup_cons.mpr ⟨‹_›, h⟩
theorem ins_len (ys : List Str) (k : Str) : (ins ys k).length ≤ ys.length + 1 := by
  unfold ins
  split
  · omega
  · rw [List.length_cons]; omega
section
variable {P : Program} {w : World} {h h' : Heap} {a : Addr} {ys : List Str}
theorem SetT.at (R : SetT w h a ys) (k : ∀ o, h.get? a = some o → h'.get? a = some o) : SetT w h' a ys := by
  obtain ⟨o, es, ep, t, ho, r⟩ := R
  exact ⟨o, es, ep, t, k o ho, r⟩
theorem goodS_elems {l : List (Int × Value)} (g : ∀ e ∈ l, GoodS w e) : ElemsOf (strKind P w) l := fun e he => by
  obtain ⟨k, tk, h1, h2⟩ := g e he
  exact ⟨⟨k, by rw [h1]; exact strKind_is P w k tk, h2⟩, by rw [h1] <;> rfl⟩
theorem goodS_is {e : Int × Value} (g : GoodS w e) (k : Str) : (strKind P w).is k e.2 = true ↔ keyS e = k := by
  obtain ⟨k0, tk, h1, _⟩ := g
  unfold keyS
  rw [h1]
  constructor
  · intro z
    obtain ⟨t, e2⟩ := Value.isStrOf_shape (x := k) (v := .str k0 tk) z
    cases e2
    rfl
  · intro z
    have z' : k0 = k := z
    rw [z']
    exact strKind_is P w k tk
theorem goodS_mem {l : List (Int × Value)} (g : ∀ e ∈ l, GoodS w e) (k : Str) : k ∈ l.map keyS ↔ ∃ e ∈ l, (strKind P w).is k e.2 = true := by
  rw [List.mem_map]
  constructor
  · rintro ⟨e, he, q⟩
    exact ⟨e, he, (goodS_is (g e he) k).2 q⟩
  · rintro ⟨e, he, q⟩
    exact ⟨e, he, (goodS_is (g e he) k).1 q⟩
end
section
variable {P : Program} {w : World} {A : Around} {E : Value → Shared → Prop} {s : Shared} {a : Addr} {ys : List Str}
theorem setT_tail {g : Bool → Sem Unit} (hg : ∀ (b : Bool) (s₁ : Shared) (Q' : Unit → Shared → Prop), Q' () s₁ → wpAny (model P w) A (g b) Q' E s₁)
    {o : Obj} {es : Array (Int × Value)} {ep : Nat} {t : SetTable} (ho : s.heap.get? a = some o) (hex : o.ExactSet) (hd : o.data = .set es ep t)
    {es1 : Array (Int × Value)} {t2 : SetTable} {zs : List Str} (g1 : ∀ e ∈ es1.toList, GoodS w e) (p1 : (es1.toList.map keyS).Perm zs) (nd1 : zs.Nodup)
    (hb1 : es1.size < scanBound) (hf2 : t2.fits es1.size = true) (hr : Ris t2.place.toList) (hl : w.params.followText "set-order" = true ∨ t2.led = true) {wd : Bool} {R : Option Bool → Shared → Prop}
    (hR : ∀ h', Heap.SameBut a s.heap h' → SetT w h' a zs → R (some true) { s with heap := h' }) :
    wpAny (model P w) A (do
        storeSet a es1 t2
        if (!wd && t2.tooFull) = true then do
            g (relayAll t2 es1 (SetTable.grown es1.size)).2.2
            storeSet a (relayAll t2 es1 (SetTable.grown es1.size)).1 (relayAll t2 es1 (SetTable.grown es1.size)).2.1
            pure (some true)
          else pure (some true)) R E s := by
  refine wpAny_bind (wpAny_storeSet_of ho hd ?_ (fits_of_scanBound hb1))
  have ho1 := store_at (es' := es1) (t' := t2) ho hd
  have sb1 := Heap.SameBut.update s.heap a (Obj.putSet es1 t2)
  split
  · have c1 := relayAll_perm t2 es1 (SetTable.grown es1.size)
    have c2 := relayAll_fits t2 es1 (SetTable.grown es1.size)
    have c3 := relayAll_ris t2 es1 (SetTable.grown es1.size)
    have c4 := relayAll_led t2 es1 (SetTable.grown es1.size)
    generalize relayAll t2 es1 (SetTable.grown es1.size) = Z at c1 c2 c3 c4 ⊢
    obtain ⟨es2, t3, gv⟩ := Z
    dsimp only at c1 c2 c3 c4 ⊢
    have hsz : es2.size = es1.size := by
      rw [← Array.length_toList, c1.length_eq, Array.length_toList]
    have hb2 : es2.size < scanBound := by rw [hsz]; exact hb1
    refine wpAny_bind (hg _ _ _ ?_)
    refine wpAny_bind (wpAny_storeSet_of ho1 rfl ?_ (fits_of_scanBound hb2))
    have ho2 := store_at (es' := es2) (t' := t3) ho1 rfl
    refine wpAny_pure (hR _ (sb1.trans (Heap.SameBut.update _ a _)) ?_)
    exact ⟨_, es2, _, t3, ho2, hex, rfl, fun e he => g1 e (c1.mem_iff.mp he), (c1.map keyS).trans p1, nd1, hb2, c2, c3, hl.imp id fun z => by rw [c4]; exact z⟩
  · exact wpAny_pure (hR _ sb1 ⟨_, es1, _, t2, ho1, hex, rfl, g1, p1, nd1, hb1, hf2, hr, hl⟩)
theorem setT_add {k : Str} {tk : Tok} {Q : Bool → Shared → Prop} (R : SetT w s.heap a ys) (room : ys.length + 1 < scanBound)
    (hQ : ∀ (b : Bool) h', Heap.SameBut a s.heap h' → SetT w h' a (ins ys k) → Q b { s with heap := h' }) :
    wpAny (model P w) A (setAddHashed a (.str k tk) ((strKind P w).hash k)) Q E s := by
  obtain ⟨o, es, ep, t, ho, hex, hd, g, pm0, nd, hb, hf, hr, hl⟩ := R
  have hkey : (strKind P w).is k (.str k tk) = true := strKind_is P w k tk
  have hsc : (Value.str k tk).scannable = true := rfl
  have hel : ElemsOf (strKind P w) es.toList := goodS_elems g
  unfold setAddHashed setAddHashedIn
  refine wpAny_holding (wpAny_bind (wpAny_setState_of ho hd hf ?_))
  dsimp only
  rw [byScan_of hsc hb hel]
  simp only [↓reduceIte]
  unfold setAddByScan
  refine wpAny_bind ?_
  refine wpAny_bind (wpAny_rule ?_)
  refine wpAny_bind (wpAny_setScan_of hkey ho hd hf hel ?_)
  cases hfi : List.findIdx? (fun e => (strKind P w).is k e.2) es.toList with
  | some j =>
    dsimp only
    obtain ⟨hj, pj, _⟩ := List.findIdx?_eq_some_iff_getElem.mp hfi
    have hk : k ∈ ys := pm0.mem_iff.mp ((goodS_mem (P := P) (w := w) g k).2 ⟨es.toList[j], List.getElem_mem hj, pj⟩)
    refine wpAny_pure (wpAny_pure ?_)
    exact hQ _ s.heap (Heap.SameBut.refl a s.heap) ⟨o, es, ep, t, ho, hex, hd, g, by unfold ins; rw [if_pos hk]; exact pm0, ins_nodup nd, hb, hf, hr, hl⟩
  | none =>
    dsimp only
    have hnk : k ∉ ys := fun z => by
      obtain ⟨e, he, q⟩ := (goodS_mem (P := P) (w := w) g k).1 (pm0.mem_iff.mpr z)
      have c := List.findIdx?_eq_none_iff.mp hfi e he
      rw [q] at c
      cases c
    have hgw : ∀ (b : Bool) {s₁ : Shared} {Q' : Unit → Shared → Prop}, Q' () s₁ → wpAny (model P w) A (match b with | true => rule "set.scan.the-table-gave-way" | false => pure ()) Q' E s₁ :=
      fun b s₁ Q' q => by cases b <;> first | exact wpAny_pure q | exact wpAny_rule q
    have c1 := layNew_perm t es ((strKind P w).hash k) (.str k tk)
    have c2 := layNew_fits t es ((strKind P w).hash k) (.str k tk)
    have c3 := layNew_ris t es ((strKind P w).hash k) (.str k tk) hr
    have c4 := layNew_led t es ((strKind P w).hash k) (.str k tk)
    generalize layNew t es ((strKind P w).hash k) (.str k tk) = Z at c1 c2 c3 c4 ⊢
    obtain ⟨es1, t1, wasDummy, gave⟩ := Z
    dsimp only at c1 c2 c3 c4 ⊢
    rw [Array.toList_push] at c1
    have pc : es1.toList.Perm (((strKind P w).hash k, Value.str k tk) :: es.toList) := c1.trans (List.perm_append_singleton _ _)
    have pk : (es1.toList.map keyS).Perm (ins ys k) := by
      unfold ins
      rw [if_neg hnk]
      exact (pc.map keyS).trans (List.Perm.cons k pm0)
    have g1 : ∀ e ∈ es1.toList, GoodS w e := fun e he => by
      rcases List.mem_cons.mp (pc.mem_iff.mp he) with z | z
      · rw [z]; exact ⟨k, tk, rfl, rfl⟩
      · exact g e z
    have hsz : es1.size = ys.length + 1 := by
      rw [← Array.length_toList, pc.length_eq, List.length_cons, ← pm0.length_eq, List.length_map]
    have hb1 : es1.size < scanBound := by rw [hsz]; exact room
    have hled : w.params.followText "set-order" = true ∨ t1.led = true := hl.imp id fun z => by rw [c4]; exact z
    refine wpAny_bind (hgw _ ?_)
    split
    · refine wpAny_bind ?_
      rw [hashByValue_scannable 8 hsc]
      refine wpAny_pure ?_
      refine setT_tail ?_ ho hex hd g1 pk (ins_nodup nd) hb1 ?_ ?_ ?_ ?_
      · intro b s₁ Q' q; cases b <;> first | exact wpAny_pure q | exact wpAny_rule q
      · first | (split <;> first | exact c2 | exact SetTable.fits_plain_off c2) | exact c2
      · first | (split <;> exact c3) | exact c3
      · first | (split <;> exact hled) | exact hled
      · intro h' sb r; dsimp only; exact wpAny_pure (hQ _ h' sb r)
    · refine wpAny_bind (wpAny_pure ?_)
      simp only [↓reduceIte]
      refine setT_tail ?_ ho hex hd g1 pk (ins_nodup nd) hb1 c2 c3 hled ?_
      · intro b s₁ Q' q; cases b <;> first | exact wpAny_pure q | exact wpAny_rule q
      · intro h' sb r; dsimp only; exact wpAny_pure (hQ _ h' sb r)
end
end L2
namespace L2
open PySem PySem.Spec PyProof.Rows PySem.GX
def setFold (xs : List Str) : List Str := xs.foldl ins []
theorem setFold_snoc (xs : List Str) (x : Str) : setFold (xs ++ [x]) = ins (setFold xs) x := by
  unfold setFold
  rw [List.foldl_append]
  rfl
theorem setFold_len : ∀ (n : Nat) (xs : List Str), xs.length = n → (setFold xs).length ≤ n
  | 0, xs, h => by
    have := List.length_eq_zero_iff.mp h
    subst this
    exact Nat.le_refl 0
  | n + 1, xs, h => by
    obtain ⟨ys, y, rfl⟩ : ∃ ys y, xs = ys ++ [y] := ⟨xs.dropLast, xs.getLast (by intro z; rw [z] at h; cases h), (List.dropLast_concat_getLast _).symm⟩
    rw [List.length_append, List.length_singleton] at h
    have h1 := setFold_len n ys (by omega)
    have h2 := ins_len (setFold ys) y
    rw [setFold_snoc]
    omega
section
variable {prog : Program} {w : World} {A : Around} {R : Result → Shared → Prop} {I : Addr} {fp wr : List Addr} {G : Array GenState → Array GenState → Prop} {n : Nat} {Pv : Nat → Value → Prop} {St : Nat → Shared → Prop}
theorem loopT (W : WalksS prog w A.in1 I fp wr G n Pv St) (S : Addr) (hSf : S ∉ fp) (xs : List Str) (hsz : xs.length = n) (hn : n + 1 < scanBound)
    (hval : ∀ i v, Pv i v → ∃ x t, xs[i]? = some x ∧ v = .str x t) :
    ∀ (k i : Nat) (s : Shared), n - i = k → i ≤ n → St i s → SetT w s.heap S (setFold (xs.take i)) →
      (∀ s', Moved (S :: wr) G s s' → SetT w s'.heap S (setFold xs) → R (.ok (.ret .none)) s') →
      codeAny (model prog w) A (.builtin "set.update.loop" ⟨[.ref S, .ref I], []⟩) R s := by
  have hSw : S ∉ wr := fun h => hSf (W.sub _ h)
  have up : ∀ b ∈ wr, b ∈ S :: wr := fun b hb => List.mem_cons_of_mem _ hb
  intro k
  induction k with
  | zero =>
    intro i s hk hi hst hS hR
    have hin : i = n := by omega
    subst hin
    refine codeAny_builtin PyProof.Rows.F.entry_set_update_loop ?_
    rw [Around.under_plainId PyProof.Rows.F.plain_set_update_loop _]
    show wpAny _ A.in1 (pyNext (.ref I) >>= _) _ _ s
    refine wpAny_bind (W.done s _ _ hst fun s' hm => ?_)
    show wpAny _ A.in1 (ret Value.none) _ _ s'
    rw [List.take_of_length_le (by omega)] at hS
    exact wpAny_pure (hR s' (hm.mono up) (hS.at fun o e => hm.heap S _ hSw e))
  | succ k ih =>
    intro i s hk hi hst hS hR
    have hlt : i < n := by omega
    refine codeAny_builtin PyProof.Rows.F.entry_set_update_loop ?_
    rw [Around.under_plainId PyProof.Rows.F.plain_set_update_loop _]
    show wpAny _ A.in1 (pyNext (.ref I) >>= _) _ _ s
    refine wpAny_bind (W.item i s _ _ hlt hst fun v s' hP hst' hm => ?_)
    obtain ⟨x, t, hx, rfl⟩ := hval i v hP
    have hS1 : SetT w s'.heap S (setFold (xs.take i)) := hS.at fun o e => hm.heap S _ hSw e
    show wpAny _ A.in1 (holding [Value.str x t] (setAdd S (.str x t)) >>= _) _ _ s'
    refine wpAny_bind (wpAny_holding ?_)
    unfold setAdd
    refine wpAny_holding ?_
    refine wpAny_bind ((PySem.strKind prog w).pyHash (k := x) (strKind_is _ _ _ _) ?_)
    have lf := setFold_len i (xs.take i) (by rw [List.length_take]; omega)
    refine setT_add (s := { s' with toks := s'.toks + 1 }) hS1 (by omega) fun b h' hsb hS2 => ?_
    have e1 : xs.take (i + 1) = xs.take i ++ [x] := by
      rw [List.take_succ, hx]
      rfl
    have hS3 : SetT w h' S (setFold (xs.take (i + 1))) := by
      rw [e1, setFold_snoc]
      exact hS2
    refine wpAny_pure ⟨plainId_quiet PyProof.Rows.F.plain_set_update_loop _, ih (i + 1) _ (by omega) hlt (W.frame _ s' _ _ hst' (Nat.le_succ _) fun b hb o e => ?_) hS3 fun s'' hm'' hS'' => ?_⟩
    · rw [hsb.2 b (fun h : b = S => hSf (by rw [← h]; exact hb))]
      exact e
    · refine hR s'' (Moved.trans W.gtrans ((hm.mono up).then_heap (Nat.le_succ _) fun b o hb e => ?_) hm'') hS''
      rw [hsb.2 b (fun h : b = S => hb (by rw [h]; exact List.mem_cons_self))]
      exact e
end
section
variable {prog : Program} {w : World} {A : Around} {E : Value → Shared → Prop} {s : Shared}
abbrev newSet (w : World) : Obj := { cls := .type "set", dict := none, data := .set #[] 0 (.fresh 0 0 (!w.params.followText "set-order")) }
theorem setT_fresh {h : Heap} (w : World) : SetT w (h.push (newSet w)) h.objs.size [] :=
  ⟨_, #[], 0, _, Heap.get?_push_size _ rfl, ⟨rfl, rfl, rfl⟩, rfl, (fun e he => by simp at he), List.Perm.refl _, List.nodup_nil, (by decide), (by rfl), List.Pairwise.nil, by
    show _ ∨ (!w.params.followText "set-order") = true
    cases w.params.followText "set-order"
    · exact .inr rfl
    · exact .inl rfl⟩
theorem code_setNew (a : Value) {Q1 : Value → Shared → Prop} (h : Q1 (.ref s.heap.objs.size) { s with heap := s.heap.push (newSet w) }) :
    codeAny (model prog w) A (.call (.builtin "set.__new__") ⟨[.type "set", a], []⟩) (wants Q1 E) s := by
  refine codeAny_of_tree ?_
  show wpAny _ A.in1 (do checkBuiltinCall "set.__new__" ⟨[.type "set", a], []⟩; again (.builtin "set.__new__" ⟨[.type "set", a], []⟩)) _ _ s
  refine wpAny_bind (wpAny_of_eq (F.newCall_set_1 a) (wpAny_pure ⟨plainId_quiet F.plain_set_new _, codeAny_builtin F.entry_set_new ?_⟩))
  rw [Around.under_plainId F.plain_set_new _]
  unfold Builtin.«set.__new__» Builtin.Frozenset.newClass
  have hsub := sub_set_self
  obtain ⟨hp, g, d, tk, os⟩ := s
  dsimp only
  wp_walk
  refine wpAny_askSetting (wpAny_pure ?_)
  dsimp only
  simp only [newObj]
  refine wpAny_bind (wpAny_alloc (wpAny_pure ?_))
  exact wpAny_pure h
theorem sub_str_set : isSubtype (.type "str") (.type "set") = pure false := by
  rw [isSubtype_type]; kernel_rfl
theorem sub_str_frozenset : isSubtype (.type "str") (.type "frozenset") = pure false := by
  rw [isSubtype_type]; kernel_rfl
/-- set(x): the new set, then the iterable's items (hinit: what set.__init__ does) -/
theorem call_set1 {v : Value} {ys : List Str} {Q : Value → Shared → Prop}
    (hinit : ∀ (R : Result → Shared → Prop), (∀ h' tk, SetT w h' s.heap.objs.size ys → (∀ b o, b < s.heap.objs.size → s.heap.get? b = some o → h'.get? b = some o) → R (.ok (.ret .none)) { s with heap := h', toks := tk }) →
      wpAny (model prog w) A.in1.in1 (Builtin.«set.__init__» ⟨[.ref s.heap.objs.size, v], []⟩) (fun fin s' => match fin with | .done f => R (.ok f) s' | .again c => c.quiet = true ∧ codeAny (model prog w) A.in1 c R s')
        (fun e s' => R (.error e) s') { s with heap := s.heap.push (newSet w) })
    (h : ∀ (h' : Heap) (tk : Nat), SetT w h' s.heap.objs.size ys → (∀ b o, b < s.heap.objs.size → s.heap.get? b = some o → h'.get? b = some o) → Q (.ref s.heap.objs.size) { s with heap := h', toks := tk }) :
    wpAny (model prog w) A (call (.type "set") [v]) Q E s := by
  obtain ⟨c, tl, hmro⟩ := PySem.F.called_set.mro
  have z1 := PySem.F.called_set.made
  have z2 := PySem.F.called_set.sub
  refine wpAny_call (codeAny_of_tree ?_)
  show wpAny _ _ (callAny (.type "set") _) _ _ _
  refine wpAny_pure ⟨Code.quiet_builtin _ (by decide +kernel), codeAny_builtin PySem.F.entry_type_call ?_⟩
  rw [Around.under_plain (weight_type_call_type "set" [v] []) rfl]
  have z3 := PySem.F.called_set.notType
  have z4 := PySem.F.called_set.canCreate
  have z5 := F.typeCall_set_1 v
  repeat (any_goals (first | assumption | wp_step))
  refine codeAny_mono (code_setNew v (E := E) (Q1 := fun obj s₁ => obj = .ref s.heap.objs.size ∧ s₁ = { s with heap := s.heap.push (newSet w) }) ⟨rfl, rfl⟩) fun r s₁ hr => ?_
  cases r with
  | error e => exact hr
  | ok fl =>
    cases fl with
    | ret obj =>
      obtain ⟨rfl, rfl⟩ := hr
      have hS : (s.heap.push (newSet w)).get? s.heap.objs.size = some (newSet w) := Heap.get?_push_size _ rfl
      have hT : Shared.TypeIs { s with heap := s.heap.push (newSet w) } (.ref s.heap.objs.size) "set" := ⟨_, hS, rfl⟩
      have z6 := PySem.F.called_set.init.lookup
      have z7 := PySem.F.called_set.init.bind (.ref s.heap.objs.size)
      repeat (any_goals (first | assumption | wp_step))
      refine codeAny_mono (codeAny_call_builtin (R := wants (fun r s₂ => r = .none ∧ ∃ h' tk, s₂ = { s with heap := h', toks := tk } ∧ SetT w h' s.heap.objs.size ys ∧ (∀ b o, b < s.heap.objs.size → s.heap.get? b = some o → h'.get? b = some o)) E)
        PySem.F.called_set.init.plain PySem.F.entry_set_init (check_set_init_1 hT ?_)) fun r₂ s₂ hr₂ => ?_
      · refine hinit (wants (fun r s₂ => r = .none ∧ ∃ h' tk, s₂ = { s with heap := h', toks := tk } ∧ SetT w h' s.heap.objs.size ys ∧ (∀ b o, b < s.heap.objs.size → s.heap.get? b = some o → h'.get? b = some o)) E) ?_
        exact fun h' tk a1 a2 => ⟨rfl, h', tk, rfl, a1, a2⟩
      · cases r₂ with
        | error e => exact hr₂
        | ok fl₂ =>
          cases fl₂ with
          | ret r =>
            obtain ⟨rfl, h', tk, rfl, b1, b2⟩ := hr₂
            repeat (any_goals (first | assumption | wp_step))
            exact h _ _ b1 b2
          | _ => exact hr₂.elim
    | _ => exact hr.elim
end
end L2
namespace L2
open PySem PySem.Spec PyProof.Rows PySem.GX
section
variable {prog : Program} {w : World} {A : Around} {E : Value → Shared → Prop} {s : Shared}
theorem init_str {x : Str} {t : Tok} (hh : A.handled = none) (hz : x.length + 1 < scanBound) (R : Result → Shared → Prop)
    (hR : ∀ h' tk, SetT w h' s.heap.objs.size (setFold (x.cps.toList.map fun c => ⟨#[c]⟩)) → (∀ b o, b < s.heap.objs.size → s.heap.get? b = some o → h'.get? b = some o) → R (.ok (.ret .none)) { s with heap := h', toks := tk }) :
    wpAny (model prog w) A.in1.in1 (Builtin.«set.__init__» ⟨[.ref s.heap.objs.size, .str x t], []⟩) (fun fin s' => match fin with | .done f => R (.ok f) s' | .again c => c.quiet = true ∧ codeAny (model prog w) A.in1 c R s')
      (fun e s' => R (.error e) s') { s with heap := s.heap.push (newSet w) } := by
  have hS : (s.heap.push (newSet w)).get? s.heap.objs.size = some (newSet w) := Heap.get?_push_size _ rfl
  have y1 := sub_str_set
  have y2 := sub_str_frozenset
  have y3 : (Value.type "str" == Value.type "dict") = false := by decide
  have hT0 : Shared.TypeIs { s with heap := s.heap.push (newSet w) } (.str x t) "str" := typeIs_str _ _ _
  unfold Builtin.«set.__init__» noKeywords Builtin.Frozenset.updateFrom
  generalize hPI : pyIter = PI
  wp_walk
  subst hPI
  refine wpAny_pyIter_str (s := { s with heap := s.heap.push (newSet w) }) (fun o St W hst => ?_)
  refine wpAny_bind (wpAny_runValue ?_)
  have z1 : (s.heap.push (newSet w)).objs.size = s.heap.objs.size + 1 := Heap.size_push _ _
  have hSf : s.heap.objs.size ∉ [(s.heap.push (newSet w)).objs.size] := by
    rw [z1]
    simp only [List.mem_singleton]
    omega
  have hsz : (x.cps.toList.map fun c => (⟨#[c]⟩ : Str)).length = x.cps.size := by
    rw [List.length_map, Array.length_toList]
  refine loopT ((W A.in1.in1.in1 (by simp [hh])).toS) s.heap.objs.size hSf (x.cps.toList.map fun c => ⟨#[c]⟩) hsz hz (fun i v hv => ?_) (x.cps.size - 0) 0 _ (by omega) (Nat.zero_le _) hst ?_ ?_
  · obtain ⟨c, u, hc, rfl⟩ := hv
    exact ⟨_, u, by rw [List.getElem?_map, Array.getElem?_toList, hc]; rfl, rfl⟩
  · exact (setT_fresh w).at fun u e => Heap.get?_push_of_some _ e
  · intro s' hm hS'
    obtain ⟨h', g', d', tk', os'⟩ := s'
    have eg : g' = s.gens := hm.gens
    have ed : d' = s.drawn := hm.drawn
    have eo : os' = s.os := hm.os
    subst eg; subst ed; subst eo
    show wpAny _ _ _ _ _ _
    refine wpAny_pure ?_
    show wpAny _ _ (ret Value.none) _ _ _
    refine wpAny_pure (hR h' tk' hS' fun b u hb e => ?_)
    refine hm.heap b u (fun hmem => ?_) (Heap.get?_push_of_some _ (Heap.get?_push_of_some _ e))
    rcases List.mem_cons.mp hmem with q | q
    · exact absurd (q ▸ hb) (Nat.lt_irrefl _)
    · have q2 := List.mem_singleton.mp q
      rw [z1] at q2
      exact absurd (Nat.lt_succ_of_lt (q2 ▸ hb)) (Nat.lt_irrefl _)
theorem init_list {l : Addr} {items : Array Value} {xs : List Str} (hh : A.handled = none) (hl : s.heap.IsList l items) (hi : PyProof.Rows.StrsAre items.toList xs) (hz : xs.length + 1 < scanBound) (R : Result → Shared → Prop)
    (hR : ∀ h' tk, SetT w h' s.heap.objs.size (setFold xs) → (∀ b o, b < s.heap.objs.size → s.heap.get? b = some o → h'.get? b = some o) → R (.ok (.ret .none)) { s with heap := h', toks := tk }) :
    wpAny (model prog w) A.in1.in1 (Builtin.«set.__init__» ⟨[.ref s.heap.objs.size, .ref l], []⟩) (fun fin s' => match fin with | .done f => R (.ok f) s' | .again c => c.quiet = true ∧ codeAny (model prog w) A.in1 c R s')
      (fun e s' => R (.error e) s') { s with heap := s.heap.push (newSet w) } := by
  have hS : (s.heap.push (newSet w)).get? s.heap.objs.size = some (newSet w) := Heap.get?_push_size _ rfl
  obtain ⟨ol, hol, hcl, nl, hdl⟩ := hl
  obtain ⟨ocls, odict, odata, oslots⟩ := ol
  simp only at hcl hdl
  subst hcl; subst hdl
  have hol1 : (s.heap.push (newSet w)).get? l = some { cls := .type "list", dict := odict, data := .seq items nl, slots := oslots } := Heap.get?_push_of_some _ hol
  have y1 := F.sub_list_set
  have y2 := F.sub_list_frozenset
  have y3 : (Value.type "list" == Value.type "dict") = false := by decide
  have hl1 : (s.heap.push (newSet w)).IsList l items := ⟨_, hol1, rfl, nl, rfl⟩
  unfold Builtin.«set.__init__» noKeywords Builtin.Frozenset.updateFrom
  generalize hPI : pyIter = PI
  wp_walk
  subst hPI
  refine wpAny_pyIter_list hl1 ?_
  refine wpAny_bind (wpAny_runValue ?_)
  have z1 : (s.heap.push (newSet w)).objs.size = s.heap.objs.size + 1 := Heap.size_push _ _
  have hlS : l < s.heap.objs.size := Heap.lt_size hol
  have hneI : l ≠ (s.heap.push (newSet w)).objs.size := by
    rw [z1]; exact Nat.ne_of_lt (Nat.lt_succ_of_lt hlS)
  have hSf : s.heap.objs.size ∉ [(s.heap.push (newSet w)).objs.size, l] := by
    rw [z1]
    simp only [List.mem_cons, List.mem_singleton, List.not_mem_nil, or_false, not_or]
    exact ⟨Nat.ne_of_lt (Nat.lt_succ_self _), Nat.ne_of_gt hlS⟩
  have hsz : xs.length = items.size := by
    rw [← StrsAre.len_eq hi, Array.length_toList]
  have hval : ∀ (i : Nat) (v : Value), items[i]? = some v → ∃ x t, xs[i]? = some x ∧ v = .str x t := fun i v hv => by
    have hlt : i < items.size := (Array.getElem?_eq_some_iff.mp hv).1
    obtain ⟨t, e⟩ := SS.strs_at hi i v (by rw [Array.getElem?_toList]; exact hv)
    have hx : xs[i]? = some (xs.getD i Str.empty) := by
      rw [List.getD_eq_getElem?_getD, List.getElem?_eq_getElem (by omega)]
      rfl
    exact ⟨_, t, hx, e⟩
  refine loopT ((Walks.list (A := A.in1.in1.in1) (by simp [hh]) _ l hneI items).toS) s.heap.objs.size hSf xs hsz (by omega) hval (items.size - 0) 0 _ (by omega) (Nat.zero_le _) ⟨⟨_, Heap.get?_push_size _ rfl, rfl, rfl⟩, (hl1.push _)⟩ ?_ ?_
  · exact (setT_fresh w).at fun u e => Heap.get?_push_of_some _ e
  · intro s' hm hS'
    obtain ⟨h', g', d', tk', os'⟩ := s'
    have eg : g' = s.gens := hm.gens
    have ed : d' = s.drawn := hm.drawn
    have eo : os' = s.os := hm.os
    subst eg; subst ed; subst eo
    show wpAny _ _ _ _ _ _
    refine wpAny_pure ?_
    show wpAny _ _ (ret Value.none) _ _ _
    refine wpAny_pure (hR h' tk' hS' fun b u hb e => ?_)
    refine hm.heap b u (fun hmem => ?_) (Heap.get?_push_of_some _ (Heap.get?_push_of_some _ e))
    rcases List.mem_cons.mp hmem with q | q
    · exact absurd (q ▸ hb) (Nat.lt_irrefl _)
    · have q2 := List.mem_singleton.mp q
      rw [z1] at q2
      exact absurd (Nat.lt_succ_of_lt (q2 ▸ hb)) (Nat.lt_irrefl _)
end
end L2
namespace L2
open PySem PySem.Spec PyProof.Rows PySem.GX
/-- the signs of a text, each as a text -/
def signsOf (x : Str) : List Str := x.cps.toList.map fun c => ⟨#[c]⟩
/-- the set of texts at a, its members ys -/
def SetTx (w : World) (a : Addr) (ys : List Str) : HO := .ext fun h => SetT w h a ys
theorem setTx_new {w : World} {P : Program} {H : Hp} {h : Heap} {a : Addr} {ys : List Str} (R : SetT w h a ys) : ObjOk P w H h a (SetTx w a ys) := by
  have ⟨o, _, _, _, ho, _⟩ := R
  exact ⟨R, ⟨o, ho⟩, fun h1 h2 p k => p.at k⟩
theorem strs_list : ∀ {l : List Value}, (∀ v ∈ l, ∃ k tk, v = Value.str k tk) → ∃ ss, StrsAre l ss ∧ ss = l.map (fun v => keyS (0, v))
  | [], _ => ⟨[], .nil, rfl⟩
  | v :: l, h => by
    obtain ⟨k, tk, rfl⟩ := h v List.mem_cons_self
    obtain ⟨ss, a, b⟩ := strs_list (l := l) fun u hu => h u (List.mem_cons_of_mem _ hu)
    exact ⟨k :: ss, .cons k tk a, by rw [b]; rfl⟩
section
variable {P : Program} {w : World} {A : Around} {E : Value → Shared → Prop} {s : Shared} {a : Addr} {ys : List Str}
theorem sorted_setT {Q : Value → Shared → Prop} (R : SetT w s.heap a ys) (hh : A.handled = none)
    (hQ : ∀ s' p (out : Array Value) (c : Nat) (zs : List Str), (∀ b o, s.heap.get? b = some o → s'.heap.get? b = some o) → s'.gens = s.gens → s'.os = s.os → s.heap.objs.size ≤ p →
      s'.heap.get? p = some (seqObj "list" out c) → StrsAre out.toList zs → zs.Perm ys → sortedS zs = true → Q (.ref p) s') :
    wpAny (model P w) A (call (.builtin "sorted") [.ref a]) Q E s := by
  obtain ⟨o, es, ep, t, ho, hex, hd, g, pm0, nd, hb, hf, hr, hl⟩ := R
  refine Calls.call_function_entry kind_sorted plain_sorted entry_sorted (args_sorted1 _) ?_
  unfold Builtin.«sorted»
  refine wpAny_bind (m := checkCount "sorted" 1 1 _) (wpAny_pure ?_)
  refine wpAny_bind (collect_set (A := A.in1) hh ⟨o, ho, hex.1, hd⟩ hf hb hr hl fun s1 vs k1 hz g1 o1 pm => ?_)
  have hvl : vs.length = es.size := by
    rw [pm.length_eq, List.length_map, Array.length_toList]
  obtain ⟨ss, hS, hss⟩ := strs_list (l := vs) fun v hv => by
    obtain ⟨e, he, q⟩ := List.mem_map.mp (pm.mem_iff.mp hv)
    obtain ⟨k, tk, h1, _⟩ := g e he
    exact ⟨k, tk, by rw [← q]; exact h1⟩
  have ps : ss.Perm ys := by
    have q := pm.map (fun v => keyS (0, v))
    rw [List.map_map, ← hss] at q
    exact q.trans pm0
  have small : vs.length ≤ sizeLine := by
    rw [hvl]
    exact fits_of_scanBound hb
  refine wpAny_bind (wpAny_newList ?_ small)
  have hoL : (s1.heap.push (seqObj "list" vs.toArray 0)).get? s1.heap.objs.size = some (seqObj "list" vs.toArray 0) := Heap.get?_push_size _ rfl
  refine wpAny_bind (wpAny_holding (wpAny_call_entry slot_list_sort ⟨_, hoL, rfl⟩ entry_list_sort
    (list_sort_treeKAny PyProof.Rows.strKind_oneLt hoL hS.keysOf (fun v₁ v₂ rest e => keyKind_strs (by rw [← e]; exact hS)) small fun st' a1 a2 => ⟨_, rfl, ?_⟩) (args_list_sort _)))
  obtain ⟨zs, h1, h2, h3⟩ := sorted_out_str hS a1 a2
  obtain ⟨c, hc⟩ := sortedHeap_at (vs := vs) (out := (arrOf st').map (·.2)) hoL
  refine wpAny_pure ⟨_, rfl, hQ _ s1.heap.objs.size _ c zs (fun b u e => ?_) g1 o1 hz hc h1 (h2.trans ps) h3⟩
  have q := k1 b u e
  have hlt := Heap.lt_size q
  show (sortedHeap (s1.heap.push (seqObj "list" vs.toArray 0)) s1.heap.objs.size vs _).get? b = some u
  rw [sortedHeap_old (Nat.ne_of_lt hlt) (by rw [size_push']; exact Nat.lt_succ_of_lt hlt)]
  exact Heap.get?_push_of_some _ q
end
section
variable {X : Cx}
/-- set(text) -/
def rSetS (w : World) : List V → Hp → VK → Prop := fun xs H Q => ∃ x : Str, xs = [.str x] ∧ x.length < 4000 ∧ ∀ p, H p = none → Q (.ref p) (upd H p (SetTx w p (setFold (signsOf x))))
theorem cr_setS (hc : X.calm = true) : CallR X (.type "set") (rSetS X.w) := by
  intro pins s σ H xs us Q I r h
  obtain ⟨x, rfl, hz, q⟩ := h
  obtain ⟨u, rfl, t, rfl⟩ := vals1 r
  refine call_set1 (ys := setFold (signsOf x)) (fun R hR => init_str (I.ok.hd hc) (by unfold scanBound; omega) R hR) fun h' tk hS k => ?_
  exact ⟨.ref _, upd H s.heap.objs.size (SetTx X.w s.heap.objs.size (setFold (signsOf x))), I.laid (t' := tk) (fun b u e => k b u (Heap.lt_size e) e) (Nat.le_refl _) (setTx_new hS), rfl, q _ (I.hok.fresh (Nat.le_refl _))⟩
/-- set(list of texts) -/
def rSetTxL (K : PySem.W.Frag) (w : World) : List V → Hp → VK → Prop := fun vs H Q => ∃ (l : Addr) (xs : List Str), vs = [.ref l] ∧ SqL K H l (xs.map V.str) ∧ xs.length < 4000 ∧ ∀ p, H p = none → Q (.ref p) (upd H p (SetTx w p (setFold xs)))
theorem cr_setL (hc : X.calm = true) : CallR X (.type "set") (rSetTxL X.K X.w) := by
  intro pins s σ H vs us Q I r h
  obtain ⟨l, xs, rfl, hq, hz, q⟩ := h
  obtain ⟨its, rv, pl, _⟩ := I.list hq
  rw [Vals.ref1 r]
  refine call_set1 (ys := setFold xs) (fun R hR => init_list (I.ok.hd hc) pl.isList (by simpa using strsAre_of rv) (by unfold scanBound; omega) R hR) fun h' tk hS k => ?_
  exact ⟨.ref _, upd H s.heap.objs.size (SetTx X.w s.heap.objs.size (setFold xs)), I.laid (t' := tk) (fun b u e => k b u (Heap.lt_size e) e) (Nat.le_refl _) (setTx_new hS), rfl, q _ (I.hok.fresh (Nat.le_refl _))⟩
/-- len(set of texts) -/
def rLenSet (w : World) : List V → Hp → VK → Prop := fun vs H Q => ∃ (a : Addr) (ys : List Str), vs = [.ref a] ∧ H a = some (SetTx w a ys) ∧ Q (.int ys.length) H
theorem cr_lenSet : CallR X (.builtin "len") (rLenSet X.w) := by
  intro pins s σ H vs us Q I r h
  obtain ⟨a, ys, rfl, ha, q⟩ := h
  rw [Vals.ref1 r]
  obtain ⟨o, es, ep, t, ho, hex, hd, g, pm0, nd, hb, hf, hr, hl⟩ := (I.hok a _ ha).1
  have hn : es.size = ys.length := by
    rw [← pm0.length_eq, List.length_map, Array.length_toList]
  refine call_len_set ho hex hd hf (by unfold scanBound at hb; omega) ⟨.int ys.length, H, I.tok _, ⟨_, by rw [hn]⟩, q⟩
/-- sorted(set of texts) -/
def rSortedTx (w : World) : List V → Hp → VK → Prop := fun vs H Q => ∃ (a : Addr) (ys : List Str), vs = [.ref a] ∧ H a = some (SetTx w a ys) ∧
  ∀ (zs : List Str) (p : Addr), zs.Perm ys → sortedS zs = true → H p = none → Q (.ref p) (upd H p (.lst (zs.map V.str)))
theorem cr_sortedTx (hc : X.calm = true) : CallR X (.builtin "sorted") (rSortedTx X.w) := by
  intro pins s σ H vs us Q I r h
  obtain ⟨a, ys, rfl, ha, q⟩ := h
  rw [Vals.ref1 r]
  have R : SetT X.w s.heap a ys := (I.hok a _ ha).1
  have small : ys.length ≤ sizeLine := by
    obtain ⟨o, es, ep, t, ho, hex, hd, g, pm0, nd, hb, _⟩ := R
    rw [← pm0.length_eq, List.length_map, Array.length_toList]
    exact fits_of_scanBound hb
  refine sorted_setT R (I.ok.hd hc) fun s' p out c zs k g1 o1 hp he hS pm so => ?_
  obtain ⟨h', g', d', tk', os'⟩ := s'
  have hlen : (zs.map V.str).length ≤ sizeLine := by
    rw [List.length_map, pm.length_eq]; exact small
  have J : Inv X pins σ (upd H p (.lst (zs.map V.str))) ⟨h', g', d', tk', os'⟩ := by
    have hn := I.hok.fresh hp
    have u : Un (frs X.stack) [] H (upd H p (.lst (zs.map V.str))) s.heap h' := Un.laid k hp hn
    refine I.call' (ch := []) o1 u ?_ ?_ (fun b z => absurd z (by simp))
    · exact I.hok.laid k hp ⟨hlen, out.toList, c, vals_of_strs hS, he⟩
    · have e : g' = s.gens := g1
      rw [e]; exact I.bare
  exact ⟨.ref p, _, J, rfl, q zs p pm so (I.hok.fresh hp)⟩
end
end L2
namespace L2
open PySem PySem.Spec PyProof.Rows PySem.GX
/-! a dict comprehension whose keys are tuples of ints and texts -/
section
variable {X : Cx} {pl : List (Addr × Obj)} {σ : St} {H : Hp} {s : Shared} {D t : Addr} {kvs : List (List Key × V)} {k : List Key} {v : V}
/-- the store of one turn -/
theorem dictSet_tup {Er : Value → Shared → Prop} {kv vv : Value} {Q : Unit → Shared → Prop} (room : X.A.units < cLine) (I : Inv X pl σ H s) (eD : H D = some (.dT kvs)) (et : H t = some (.tup (k.map kV))) (few : kvs.length < sizeLine)
    (rk : RelV (.ref t) kv) (rv : RelV v vv) (go : ∀ s', Inv X pl σ (upd H D (.dT (putK kvs k v))) s' → Q () s') : wpAny (model X.prog X.w) X.A (dictSet D kv vv) Q Er s := by
  have ekv : kv = Value.ref t := rk
  subst ekv
  obtain ⟨len0, nosys, xs, rel, dict⟩ := dt_of I.hok eD
  have len1 : xs.length ≤ sizeLine := by
    rw [← Paired.length rel]
    exact len0
  have len2 : (putK kvs k v).length ≤ sizeLine := by
    have grows := length_putK kvs k v
    omega
  have hroom : (tupleKind (mixKind X.prog X.w)).room X.A := room
  refine wpAny_dictSet_heap (hsz := len1) hroom (key_of I.hok et) dict fun h' dict' same => go _ ?_
  obtain ⟨o, es, ep, ho, c1, c2, c3, _, c4⟩ := dict'
  refine d_write I (by rw [eD]; trivial) same ⟨o, ho⟩ ⟨len2, nosys, _, (rel.put k et rv).keeps fun c ys ec => ?_, o, es, ep, ho, c1, c2, c3, c4⟩
  rw [upd_ne (ne_of ec eD (fun z => nomatch z))]
  exact ec
end
/-- {(..): v for target in iter if ..}: D is the new dict -/
def tDcT (wi : TI) (g : TG) (tt : TT) (tk tv : TE) (vs : List Nat) : TE := fun σ H Q => wi σ H fun J H1 => ∀ D, H1 D = none → ∃ W : Nat → Nat → Hp → Prop, (∃ m, W 0 m (upd H1 D (.dT []))) ∧ ∀ i m H, W i m H →
  (J.stop i H ∧ Q (.ref D) H) ∨ (J.go i H ∧ ∃ On : Hp → Prop, (∀ H', On H' → ∃ m', m' < m ∧ W (i + 1) m' H') ∧ ∀ x H', J.yld i H x H' → g x (wipe σ vs) H' fun σ2 H2 => wipe σ2 vs = wipe σ vs ∧ tt σ2 H2 fun b H3 =>
    if b = true then tk σ2 H3 fun y H4 => tv σ2 H4 fun z H5 => ∃ kvs k t, y = .ref t ∧ H5 t = some (.tup (k.map kV)) ∧ H5 D = some (.dT kvs) ∧ kvs.length < sizeLine ∧ On (upd H5 D (.dT (putK kvs k z))) else On H3)
section
variable {X : Cx} {kx vx tg iter : Expr} {ifs : List Expr} {scope : Scope} {own : List (Str × Nat)} {pos : Pos} {wi : TI} {g : TG} {tt : TT} {tk tv : TE}
theorem pe_dcT (hr : X.A.units + 64 < cLine) (calm : X.calm = true) (hN : X.N.Nodup) (hi : PI X tg iter wi) (ok : BlkOk X.N X.env.scope scope own)
    (hg : ∀ (s : Shared) (H : Hp) (C : Addr) (cl : List (Str × Addr)) (fp : List Addr), PG (X.blk s H scope (compEnvC scope cl C X.env) fp) tg g)
    (ht : ∀ (s : Shared) (H : Hp) (C : Addr) (cl : List (Str × Addr)) (fp : List Addr), PTs (X.blk s H scope (compEnvC scope cl C X.env) fp) ifs tt)
    (hk : ∀ (s : Shared) (H : Hp) (C : Addr) (cl : List (Str × Addr)) (fp : List Addr), PE (X.blk s H scope (compEnvC scope cl C X.env) fp) kx tk)
    (hv : ∀ (s : Shared) (H : Hp) (C : Addr) (cl : List (Str × Addr)) (fp : List Addr), PE (X.blk s H scope (compEnvC scope cl C X.env) fp) vx tv)
    (hs : ∀ x, foldedSetIterable iter X.env x = pure x := by intro _; rfl) :
    PE X (.DictComp kx vx [⟨tg, iter, ifs, 0⟩] scope pos) (tDcT wi g tt tk tv (own.map (·.2))) := by
  refine ⟨fun pl s σ H Q I h => ?_⟩
  rw [arm_eval_DictComp]
  have frees : ∀ y ∈ scope.names, y.2 = .free → ∃ c, X.env.cells.lookup y.1 = some c := fun y hy e => by
    rcases ok.free y hy e with k | k
    · exact I.ok.has _ (.inl k)
    · exact I.ok.has _ (.inr k)
  refine wpAny_comprehension_free rfl hs (closure_ok frees) ok.kind (fun y hy e => by rw [ok.uniq y hy, e]) (thn (hi.run pl s σ H _ I h) fun _ sa ha => thn ha fun _ sb hb => ?_)
  obtain ⟨it, fp, tn, J, Hb, rfl, Ib, T, tb, okb, want⟩ := hb
  refine wpAny_newObj_type (newEnv_comp ?_)
  -- the new dict
  generalize eD : sb.heap.objs.size = D
  have freeD : Hb D = none := Ib.hok.fresh (Nat.le_of_eq eD)
  obtain ⟨W, ⟨m0, begins⟩, turn⟩ := want D freeD
  generalize esc : ({ sb with heap := sb.heap.push { cls := .type "dict", data := .dict #[] } } : Shared) = sc
  have hsc : sc.heap = sb.heap.push { cls := .type "dict", data := .dict #[] } := by rw [← esc]
  have Ic : Inv X pl σ (upd Hb D (.dT [])) sc := by
    rw [← esc]
    refine Ib.laid (t' := sb.toks) (fun b o e => Heap.get?_push_of_some _ e) (Nat.le_of_eq eD) ?_
    rw [← eD]
    exact dt_empty sb.heap Ib.big
  have old : ∀ b ∈ fp, b < sb.heap.objs.size := fun b hb => by
    obtain ⟨o, e, _⟩ := T.obj _ _ tb b hb
    exact Heap.lt_size e
  have okc : ∀ b ∈ fp, FpOk X pl (upd Hb D (.dT [])) b ∧ b < sc.heap.objs.size := fun b hb => by
    have lt := old b hb
    refine ⟨⟨?_, (okb b hb).2⟩, ?_⟩
    · rw [upd_ne (by rw [← eD]; exact Nat.ne_of_lt lt)]
      exact (okb b hb).1
    · rw [hsc, Heap.size_push]
      exact Nat.lt_succ_of_lt lt
  have tc : tn 0 sc.heap := T.keep _ _ _ tb fun b _ o e => by
    rw [hsc]
    exact Heap.get?_push_of_some _ e
  -- the block
  have Id := block_start Ic ok hN okc
  have g1 := hg sc (upd Hb D (.dT [])) sc.heap.objs.size (cellsFrom (sc.heap.objs.size + 1) scope.names (cloFrom X.env.cells scope.names [])) fp
  have g2 := ht sc (upd Hb D (.dT [])) sc.heap.objs.size (cellsFrom (sc.heap.objs.size + 1) scope.names (cloFrom X.env.cells scope.names [])) fp
  have g3 := hk sc (upd Hb D (.dT [])) sc.heap.objs.size (cellsFrom (sc.heap.objs.size + 1) scope.names (cloFrom X.env.cells scope.names [])) fp
  have g4 := hv sc (upd Hb D (.dT [])) sc.heap.objs.size (cellsFrom (sc.heap.objs.size + 1) scope.names (cloFrom X.env.cells scope.names [])) fp
  show codeAny _ _ (.compStart (.DictComp kx vx [⟨tg, iter, ifs, 0⟩] scope pos) 0 (.ref it) (.ref D) (compEnvC scope (cellsFrom (sc.heap.objs.size + 1) scope.names (cloFrom X.env.cells scope.names [])) sc.heap.objs.size X.env)) _
    { sc with heap := pushCells (sc.heap.push { cls := .type "dict", data := .dict #[] }) scope.names }
  have hid : ∀ b ∈ fp, (upd Hb D (.dT [])) b = none := fun b hb => (okc b hb).1.1
  generalize eenv : compEnvC scope (cellsFrom (sc.heap.objs.size + 1) scope.names (cloFrom X.env.cells scope.names [])) sc.heap.objs.size X.env = env at Id g1 g2 g3 g4 ⊢
  have eloc : env.locals = sc.heap.objs.size := by subst eenv; rfl
  generalize eHc : upd Hb D (.dT []) = Hc at Ic Id g1 g2 g3 g4 begins hid okc
  generalize esd : ({ sc with heap := pushCells (sc.heap.push { cls := .type "dict", data := .dict #[] }) scope.names } : Shared) = sd at Id ⊢
  have td : tn 0 sd.heap := T.keep _ _ _ tc fun b _ o e => by
    rw [← esd]
    exact pushCells_keeps _ _ _ _ (Heap.get?_push_of_some _ e)
  have fpOk : ∀ {σ' : St} {H' : Hp} {s' : Shared}, Inv (X.blk sc Hc scope env fp) [] σ' H' s' → (∀ b ∈ fp, H' b = none) → ∀ b ∈ fp, FpOk (X.blk sc Hc scope env fp) [] H' b := fun {σ' H' s'} I' free b hb => by
    refine ⟨free b hb, (I'.ok.exf b hb).1, I'.ok.exfs b hb, .inl hb, fun x c e => (I'.ok.exf b hb).2 x c e, fun p hp => ?_⟩
    exact absurd (show p ∈ ([] : List (Addr × Obj)) ++ [] from hp) (by simp)
  refine codeAny_compStart_dict ?lp (T.self X.A 0 _ _ _ td ?lp)
  refine compLoop_anyD (fun n s' => ∃ i H', Inv (X.blk sc Hc scope env fp) [] (wipe σ (own.map (·.2))) H' s' ∧ tn i s'.heap ∧ (∀ b ∈ fp, H' b = none) ∧ W i n H') ?_ m0 ⟨0, Hc, Id, td, hid, begins⟩
  rintro n se ⟨i, He, Ie, te, free, at_⟩
  rcases turn i n He at_ with ⟨stop, wish⟩ | ⟨goes, On, next, step⟩
  · refine thnF (T.done (X.blk sc Hc scope env fp) rfl rfl rfl calm i [] se _ He (fun _ _ => False) Ie (fpOk Ie free) te stop) fun r sf ⟨hr, If⟩ => ?_
    subst hr
    have back : Inv X pl σ He sf := Ic.call' (ch := fp) If.os If.base If.hok If.bare fun b hb => ⟨(okc b hb).1.2.2.2.1, (okc b hb).1.2.1, (okc b hb).1.2.2.2.2.1, (okc b hb).1.2.2.2.2.2⟩
    have noC : He sc.heap.objs.size = none := by
      have z : He env.locals = none := If.free
      rw [eloc] at z
      exact z
    obtain ⟨m, hn, _⟩ := If.loc
    have hn' : sf.heap.Ns env.locals m := hn
    rw [eloc] at hn'
    obtain ⟨f0, f1, f2, f3, f4, f5⟩ := Ic.fpOk (Nat.le_refl _) noC
    exact ⟨m, hn', fun h'' sb' => ⟨.ref D, He, back.turned (t' := sf.toks) (fun b o hb e => (sb'.2 b hb).trans e) f0 f1 f3 f4 f5, rfl, wish⟩⟩
  · refine thnF (T.item (X.blk sc Hc scope env fp) rfl rfl rfl calm i [] se _ He (fun _ _ => False) Ie (fpOk Ie free) te goes) fun r sf ⟨u, hr, hf⟩ => ?_
    subst hr
    refine thnF hf fun _ sg ⟨x, Hg, Ig, rg, yg, tg', freeg⟩ => ?_
    have pinned := Ig.pinned (fpOk Ig freeg) (T.obj _ _ tg')
    refine thnF (g1.run _ sg _ Hg x u _ pinned rg (step x Hg yg)) fun _ sh ⟨σh, Hh, Ih, wh, qh⟩ => ?_
    refine thnF (g2.run _ sh σh Hh _ Ih qh) fun b si ⟨Hi, Ii, qi⟩ => ?_
    have ends : ∀ {s' : Shared} {H' : Hp}, Inv (X.blk sc Hc scope env fp) ([] ++ pinsAt fp sg.heap) σh H' s' → On H' →
        ∃ m, m < n ∧ ∃ i H', Inv (X.blk sc Hc scope env fp) [] (wipe σ (own.map (·.2))) H' s' ∧ tn i s'.heap ∧ (∀ b ∈ fp, H' b = none) ∧ W i m H' := fun {s' H'} I' on => by
      obtain ⟨m', lt, at'⟩ := next H' on
      have kept : ∀ b ∈ fp, ∀ o, sg.heap.get? b = some o → s'.heap.get? b = some o ∧ H' b = none := fun b hb o e => by
        have z := I'.pin (b, o) (List.mem_append_right _ (List.mem_append_right _ (mem_pinsAt hb e)))
        exact ⟨z.1, z.2.1⟩
      have len : (wipe σ (own.map (·.2))).length = σh.length := by
        rw [← wh, wipe_length]
      refine ⟨m', lt, i + 1, H', (I'.unpinned (pins := [])).weak len (fun j y e => ?_), T.keep _ _ _ tg' fun b hb o e => (kept b hb o e).1, fun b hb => ?_, at'⟩
      · rw [← wh] at e
        exact (wipe_some e).1
      · obtain ⟨o, e, _⟩ := T.obj _ _ tg' b hb
        exact (kept b hb o e).2
    cases b with
    | false =>
      simp only [Bool.false_eq_true, if_false] at qi ⊢
      exact ends Ii qi
    | true =>
      simp only [if_true] at qi ⊢
      refine thnF (g3.run _ si σh Hi _ Ii qi) fun _ sj ⟨yk, Hj, Ij, rj, qj⟩ => ?_
      refine thnF (g4.run _ sj σh Hj _ Ij qj) fun _ sk ⟨yv, Hk, Ik, rk, kvs, k, t, ek, et, eDk, few, on⟩ => ?_
      subst ek
      exact dictSet_tup (X := X.blk sc Hc scope env fp) (by show X.A.units < cLine; omega) Ik eDk et few rj rk fun _ Il => ends Il on
end
end L2
namespace L2
open PySem PySem.Spec PyProof.Rows PySem.GX
theorem same_new {H : Hp} {p : Addr} {o : HO} (h : H p = none) : Same H (upd H p o) := fun b u e => by
  rw [upd_ne (ne_of_none e h)]
  exact e
theorem keep1 {H : Hp} {q t : Addr} {o u : HO} (e : H t = some u) (h : H q = none) : upd H q o t = some u := by
  rw [upd_ne (ne_of_none e h)]
  exact e
section
variable {J : It} {n : Nat} {G : Hp → Prop} {Y : Nat → Hp → V → Hp → Prop} {g : TG} {tt : TT} {te : TE} {vs : List Nat} {σ : St} {H1 : Hp} {D : Addr} {Qd : Hp → Prop}
theorem same_del {H H' : Hp} {p : Addr} (s : Same H H') : Same (del H p) (del H' p) := fun b o e => by
  by_cases hb : b = p
  · rw [hb, del_same] at e; cases e
  · rw [del_ne hb] at e ⊢
    exact s b o e
theorem del_upd (H : Hp) (p : Addr) (o : HO) : del (upd H p o) p = del H p := by
  funext b
  by_cases hb : b = p
  · rw [hb, del_same, del_same]
  · rw [del_ne hb, del_ne hb, upd_ne hb]
theorem del_none {H : Hp} {p : Addr} (h : H p = none) : del H p = H := by
  funext b
  by_cases hb : b = p
  · rw [hb, del_same, h]
  · rw [del_ne hb]
/-- what the turn asks of the new list -/
def lcK (I : List V → Hp → Prop) (H1 : Hp) (D : Addr) (Nx : Hp → Prop) (ys : List V) : Option V → Hp → Prop
  | some y, H4 => ∃ acc, H4 D = some (.lst acc) ∧ acc.length < sizeLine ∧ Nx (upd H4 D (.lst (acc ++ [y])))
  | none, H4 => Nx H4
/-- [e for x in .. if t]: I says of the items so far and of the other objects what stays true -/
theorem lcR (w : Walk J n G Y) (I : Nat → List V → Hp → Prop) (st : ∀ i ys H H', Same H H' → I i ys H → I i ys H') (i0 : I 0 [] H1) (hz : n ≤ 16000000) (hD : H1 D = none) (hY : ∀ i H x H', Y i H x H' → Same H H') (hG : ∀ H', Same H1 H' → G H')
    (turn : ∀ (i : Nat) (x : V) (ys : List V) (H' H'' : Hp) (k : Option V → Hp → Prop), i < n → Same H1 H' → H' D = some (.lst ys) → I i ys (del H' D) → Y i H' x H'' → (∀ y H4, Same H'' H4 → I (i + 1) (ys ++ [y]) (del H4 D) → k (some y) H4) →
      (∀ H4, Same H'' H4 → I (i + 1) ys (del H4 D) → k none H4) → g x (wipe σ vs) H'' fun σ2 H2 => wipe σ2 vs = wipe σ vs ∧ tt σ2 H2 fun b H3 => if b = true then te σ2 H3 fun y H4 => k (some y) H4 else k none H3)
    (hd : ∀ ys H', ys.length ≤ n → Same H1 H' → H' D = some (.lst ys) → I n ys (del H' D) → Qd H') :
    ∃ W : Nat → Nat → Hp → Prop, (∃ m, W 0 m (upd H1 D (.lst []))) ∧ ∀ i m H, W i m H →
      (J.stop i H ∧ Qd H) ∨ (J.go i H ∧ ∃ Nx : Hp → Prop, (∀ H', Nx H' → ∃ m', m' < m ∧ W (i + 1) m' H') ∧ ∀ x H', J.yld i H x H' → g x (wipe σ vs) H' fun σ2 H2 => wipe σ2 vs = wipe σ vs ∧ tt σ2 H2 fun b H3 =>
        if b = true then te σ2 H3 fun y H4 => ∃ acc, H4 D = some (.lst acc) ∧ acc.length < sizeLine ∧ Nx (upd H4 D (.lst (acc ++ [y]))) else Nx H3) := by
  refine lc_it w (fun i H' => ∃ ys : List V, ys.length ≤ i ∧ Same H1 H' ∧ H' D = some (.lst ys) ∧ I i ys (del H' D)) ⟨[], Nat.le_refl _, same_new hD, upd_same, by rw [del_upd, del_none hD]; exact i0⟩ (fun i H' _ ⟨_, _, s, _⟩ => hG H' s) (fun i x H' H'' hi h hy => ?_) (fun H' ⟨ys, l, s, e, h⟩ => hd ys H' l s e h)
  obtain ⟨ys, l, s, e, h⟩ := h
  have sy := hY _ _ _ _ hy
  refine turn i x ys H' H'' (lcK (I i) H1 D _ ys) hi s e h hy (fun y H4 s4 h4 => ?_) (fun H4 s4 h4 => ?_)
  · have e4 := s4 _ _ (sy _ _ e)
    refine ⟨_, e4, by rw [sizeLine_eq]; omega, _, ?_, fun b o z => ?_, upd_same, by rw [del_upd]; exact h4⟩
    · rw [List.length_append]; simp; omega
    · rw [upd_ne (ne_of_none z hD)]
      exact s4 _ _ (sy _ _ (s b o z))
  · exact ⟨ys, by omega, (s.trans sy).trans s4, s4 _ _ (sy _ _ e), h4⟩
/-- [e for x in .. if t]: the i-th item is taken (as f i says) or not; what was tracked stays -/
theorem lcS (w : Walk J n G Y) (f : Nat → Option V) (hz : n ≤ 16000000) (hD : H1 D = none) (hY : ∀ i H x H', Y i H x H' → Same H H') (hG : ∀ H', Same H1 H' → G H')
    (turn : ∀ (i : Nat) (x : V) (H' H'' : Hp) (k : Option V → Hp → Prop), i < n → Same H1 H' → Y i H' x H'' → (∀ H4, Same H'' H4 → k (f i) H4) →
      g x (wipe σ vs) H'' fun σ2 H2 => wipe σ2 vs = wipe σ vs ∧ tt σ2 H2 fun b H3 => if b = true then te σ2 H3 fun y H4 => k (some y) H4 else k none H3)
    (hd : ∀ H', Same H1 H' → H' D = some (.lst ((List.range n).filterMap f)) → Qd H') :
    ∃ W : Nat → Nat → Hp → Prop, (∃ m, W 0 m (upd H1 D (.lst []))) ∧ ∀ i m H, W i m H →
      (J.stop i H ∧ Qd H) ∨ (J.go i H ∧ ∃ Nx : Hp → Prop, (∀ H', Nx H' → ∃ m', m' < m ∧ W (i + 1) m' H') ∧ ∀ x H', J.yld i H x H' → g x (wipe σ vs) H' fun σ2 H2 => wipe σ2 vs = wipe σ vs ∧ tt σ2 H2 fun b H3 =>
        if b = true then te σ2 H3 fun y H4 => ∃ acc, H4 D = some (.lst acc) ∧ acc.length < sizeLine ∧ Nx (upd H4 D (.lst (acc ++ [y]))) else Nx H3) := by
  refine lcR w (fun i ys _ => ys = (List.range i).filterMap f) (fun _ _ _ _ _ h => h) rfl hz hD hY hG (fun i x ys H' H'' k hi s e h hy k1 k2 => ?_) (fun ys H' _ s e h => hd H' s (by rw [e, h]))
  refine turn i x H' H'' k hi s hy fun H4 s4 => ?_
  cases ef : f i with
  | some y =>
    refine k1 y H4 s4 ?_
    rw [h, List.range_succ, List.filterMap_append]
    simp [ef]
  | none =>
    refine k2 H4 s4 ?_
    rw [h, List.range_succ, List.filterMap_append]
    simp [ef]
end
section
variable {X : Cx} {o : Expr} {to : TE} {f : Str} {pos : Pos}
/-- the target o.f of an own instance -/
def gFld (K : PySem.W.Frag) (to : TE) (f : Str) : TG := fun v σ H Q => to σ H fun x H1 => ∃ (p C dx : Addr) (fs : List (Str × V)), x = .ref p ∧ H1 p = some (.ins C dx fs) ∧ Cls K C ∧ NoAttr K C f ∧ fs.length < 1000 ∧ Q σ (upd H1 p (.ins C dx (putF f v fs)))
theorem pg_fld (ho : PE X o to) : PG X (.Attribute o f pos) (gFld X.K to f) := by
  refine ⟨fun pl s σ H v u Q I r h => ?_⟩
  rw [arm_assign_Attribute]
  refine wpAny_bind (wpAny_holding (thn (ho.run pl s σ H _ I h) fun ov s1 ⟨x, H1, I1, r1, p, C, dx, fs, ex, ep, c, n, l, q⟩ => ?_))
  subst ex
  obtain rfl : ov = Value.ref p := r1
  refine wpAny_bind (wpAny_standAt (wpAny_bind (wpAny_holding (setattr_ok I1 ep c n l r fun s3 I3 => ?_))))
  exact wpAny_release ⟨σ, _, I3, q⟩
end
end L2
namespace L2
open PySem PySem.Spec PyProof.Rows PySem.GX
theorem range_fm {α β : Type} (g : α → Option β) : ∀ xs : List α, (List.range xs.length).filterMap (fun i => xs[i]?.bind g) = xs.filterMap g := by
  intro xs
  have e : (List.range xs.length).filterMap (fun i => xs[i]?) = xs := by
    induction xs with
    | nil => rfl
    | cons a t ih =>
      rw [List.length_cons, List.range_succ_eq_map, List.filterMap_cons, List.filterMap_map]
      simp only [List.getElem?_cons_zero]
      congr 1
  conv => rhs; rw [← e, List.filterMap_filterMap]
section
variable {α : Type} {J : It} {G : Hp → Prop} {Y : Nat → Hp → V → Hp → Prop} {g : TG} {tt : TT} {te tk tv : TE} {vs : List Nat} {σ : St} {H1 : Hp} {D : Addr} {Qd : Hp → Prop}
/-- [e for x in .. if t] over things that stand for the items of xs -/
theorem lcG (xs : List α) (f : α → Option V) (w : Walk J xs.length G Y) (hz : xs.length ≤ 16000000) (hD : H1 D = none) (hY : ∀ i H x H', Y i H x H' → Same H H') (hG : ∀ H', Same H1 H' → G H')
    (turn : ∀ (i : Nat) (a : α) (x : V) (H' H'' : Hp) (k : Option V → Hp → Prop), xs[i]? = some a → Same H1 H' → Y i H' x H'' → (∀ H4, Same H'' H4 → k (f a) H4) →
      g x (wipe σ vs) H'' fun σ2 H2 => wipe σ2 vs = wipe σ vs ∧ tt σ2 H2 fun b H3 => if b = true then te σ2 H3 fun y H4 => k (some y) H4 else k none H3)
    (hd : ∀ H', Same H1 H' → H' D = some (.lst (xs.filterMap f)) → Qd H') :
    ∃ W : Nat → Nat → Hp → Prop, (∃ m, W 0 m (upd H1 D (.lst []))) ∧ ∀ i m H, W i m H →
      (J.stop i H ∧ Qd H) ∨ (J.go i H ∧ ∃ Nx : Hp → Prop, (∀ H', Nx H' → ∃ m', m' < m ∧ W (i + 1) m' H') ∧ ∀ x H', J.yld i H x H' → g x (wipe σ vs) H' fun σ2 H2 => wipe σ2 vs = wipe σ vs ∧ tt σ2 H2 fun b H3 =>
        if b = true then te σ2 H3 fun y H4 => ∃ acc, H4 D = some (.lst acc) ∧ acc.length < sizeLine ∧ Nx (upd H4 D (.lst (acc ++ [y]))) else Nx H3) := by
  refine lcS w (fun i => xs[i]?.bind f) hz hD hY hG (fun i x H' H'' k hi s hy k1 => ?_) (fun H' s e => hd H' s (by rw [e, range_fm]))
  have ei : xs[i]? = some xs[i] := List.getElem?_eq_getElem hi
  refine turn i xs[i] x H' H'' k ei s hy fun H4 s4 => ?_
  have := k1 H4 s4
  rw [ei] at this
  exact this
/-- the generic walk of a dict comprehension, of either sort -/
theorem dc_it {n : Nat} (w : Walk J n G Y) {nx : Nat → Hp → Prop} {body : Nat → V → Hp → (Hp → Prop) → Prop} (h0 : nx 0 H1) (hG : ∀ i H, i ≤ n → nx i H → G H)
    (hs : ∀ i x H H', i < n → nx i H → Y i H x H' → body i x H' (nx (i + 1))) (hd : ∀ H, nx n H → Qd H) :
    ∃ W : Nat → Nat → Hp → Prop, (∃ m, W 0 m H1) ∧ ∀ i m H, W i m H →
      (J.stop i H ∧ Qd H) ∨ (J.go i H ∧ ∃ Nx : Hp → Prop, (∀ H', Nx H' → ∃ m', m' < m ∧ W (i + 1) m' H') ∧ ∀ x H', J.yld i H x H' → body i x H' Nx) := by
  refine ⟨fun i m H => m = n - i ∧ i ≤ n ∧ nx i H, ⟨n, by simp, Nat.zero_le _, h0⟩, ?_⟩
  rintro i m H ⟨rfl, hi, p⟩
  have q := hG i H hi p
  by_cases hlt : i < n
  · exact .inr ⟨w.goes i H hlt q, nx (i + 1), fun H' p' => ⟨n - (i + 1), by omega, rfl, hlt, p'⟩, fun x H' y => hs i x H H' hlt p (w.yields i H x H' hlt q y)⟩
  · have e : i = n := by omega
    subst e
    exact .inl ⟨w.stops H q, hd H p⟩
end
section
variable {α κ : Type} [DecidableEq κ]
/-- the entries of {key a: val a for a in xs} -/
def dOf (key : α → κ) (val : α → V) (xs : List α) : List (κ × V) := xs.foldl (fun kvs a => putK kvs (key a) (val a)) []
theorem dOf_snoc (key : α → κ) (val : α → V) (xs : List α) (a : α) : dOf key val (xs ++ [a]) = putK (dOf key val xs) (key a) (val a) := by
  unfold dOf
  rw [List.foldl_append]
  rfl
theorem dOf_take {key : α → κ} {val : α → V} {xs : List α} {i : Nat} {a : α} (h : xs[i]? = some a) : dOf key val (xs.take (i + 1)) = putK (dOf key val (xs.take i)) (key a) (val a) := by
  rw [List.take_add_one, h]
  exact dOf_snoc _ _ _ _
theorem dOf_len (key : α → κ) (val : α → V) (xs : List α) : (dOf key val xs).length ≤ xs.length := by
  suffices h : ∀ (ys : List α) (kvs : List (κ × V)), (ys.foldl (fun kvs a => putK kvs (key a) (val a)) kvs).length ≤ kvs.length + ys.length by
    have := h xs []
    simpa [dOf] using this
  intro ys
  induction ys with
  | nil => intro kvs; simp
  | cons a t ih =>
    intro kvs
    have h1 := ih (putK kvs (key a) (val a))
    have h2 := length_putK kvs (key a) (val a)
    rw [List.foldl_cons, List.length_cons]
    omega
theorem dOf_val (key : α → κ) (val : α → V) : ∀ (xs : List α) (k : κ), (valV (dOf key val xs) k).isSome = decide (k ∈ xs.map key) := by
  suffices h : ∀ (n : Nat) (xs : List α) (k : κ), xs.length = n → (valV (dOf key val xs) k).isSome = decide (k ∈ xs.map key) from fun xs k => h _ xs k rfl
  intro n
  induction n with
  | zero =>
    intro xs k h
    have : xs = [] := List.eq_nil_of_length_eq_zero h
    subst this
    rfl
  | succ n ih =>
    intro xs k h
    have hne : xs ≠ [] := by intro z; subst z; cases h
    obtain ⟨ys, a, rfl⟩ : ∃ ys a, xs = ys ++ [a] := ⟨xs.dropLast, xs.getLast hne, (List.dropLast_concat_getLast hne).symm⟩
    have hl : ys.length = n := by rw [List.length_append] at h; simpa using h
    rw [dOf_snoc, valV_put]
    by_cases e : k = key a
    · rw [if_pos e, e]; simp
    · rw [if_neg e, ih ys k hl, List.map_append]
      simp [e]
/-- keys that differ: the entries stand as they come -/
theorem dOf_nodup (key : α → κ) (val : α → V) : ∀ (xs : List α), (xs.map key).Nodup → dOf key val xs = xs.map fun a => (key a, val a) := by
  suffices h : ∀ (n : Nat) (xs : List α), xs.length = n → (xs.map key).Nodup → dOf key val xs = xs.map fun a => (key a, val a) from fun xs => h _ xs rfl
  intro n
  induction n with
  | zero =>
    intro xs h _
    have : xs = [] := List.eq_nil_of_length_eq_zero h
    subst this
    rfl
  | succ n ih =>
    intro xs h nd
    have hne : xs ≠ [] := by intro z; subst z; cases h
    obtain ⟨ys, a, rfl⟩ : ∃ ys a, xs = ys ++ [a] := ⟨xs.dropLast, xs.getLast hne, (List.dropLast_concat_getLast hne).symm⟩
    have hl : ys.length = n := by rw [List.length_append] at h; simpa using h
    rw [List.map_append, List.nodup_append] at nd
    have hn : valV (dOf key val ys) (key a) = none := by
      have := dOf_val key val ys (key a)
      rw [decide_eq_false (fun z => nd.2.2 _ z (key a) (by simp) rfl)] at this
      exact Option.isNone_iff_eq_none.mp (by simpa using this)
    rw [dOf_snoc, putK_new _ hn, ih ys hl nd.1, List.map_append]
    rfl
end
section
variable {α : Type} {J : It} {G : Hp → Prop} {Y : Nat → Hp → V → Hp → Prop} {g : TG} {tt : TT} {tk tv : TE} {vs : List Nat} {σ : St} {H1 : Hp} {D : Addr} {Qd : Hp → Prop}
/-- {k: v for x in ..}, keys ints or texts -/
theorem dcG (xs : List α) (key : α → Key) (val : α → V) (w : Walk J xs.length G Y) (hz : xs.length ≤ 16000000) (hD : H1 D = none) (hY : ∀ i H x H', Y i H x H' → Same H H') (hG : ∀ H', Same H1 H' → G H')
    (turn : ∀ (i : Nat) (a : α) (x : V) (H' H'' : Hp) (k : V → V → Hp → Prop) (k0 : Hp → Prop), xs[i]? = some a → Same H1 H' → Y i H' x H'' → (∀ H4, Same H'' H4 → k (kV (key a)) (val a) H4) →
      g x (wipe σ vs) H'' fun σ2 H2 => wipe σ2 vs = wipe σ vs ∧ tt σ2 H2 fun b H3 => if b = true then tk σ2 H3 fun y H4 => tv σ2 H4 fun z H5 => k y z H5 else k0 H3)
    (hd : ∀ H', Same H1 H' → H' D = some (.dK (dOf key val xs)) → Qd H') :
    ∃ W : Nat → Nat → Hp → Prop, (∃ m, W 0 m (upd H1 D (.dK []))) ∧ ∀ i m H, W i m H →
      (J.stop i H ∧ Qd H) ∨ (J.go i H ∧ ∃ Nx : Hp → Prop, (∀ H', Nx H' → ∃ m', m' < m ∧ W (i + 1) m' H') ∧ ∀ x H', J.yld i H x H' → g x (wipe σ vs) H' fun σ2 H2 => wipe σ2 vs = wipe σ vs ∧ tt σ2 H2 fun b H3 =>
        if b = true then tk σ2 H3 fun y H4 => tv σ2 H4 fun z H5 => ∃ kvs k, y = kV k ∧ H5 D = some (.dK kvs) ∧ kvs.length < sizeLine ∧ Nx (upd H5 D (.dK (putK kvs k z))) else Nx H3) := by
  refine dc_it w (nx := fun i H' => Same H1 H' ∧ H' D = some (.dK (dOf key val (xs.take i)))) (body := fun i x H' Nx => g x (wipe σ vs) H' fun σ2 H2 => wipe σ2 vs = wipe σ vs ∧ tt σ2 H2 fun b H3 =>
        if b = true then tk σ2 H3 fun y H4 => tv σ2 H4 fun z H5 => ∃ kvs k, y = kV k ∧ H5 D = some (.dK kvs) ∧ kvs.length < sizeLine ∧ Nx (upd H5 D (.dK (putK kvs k z))) else Nx H3)
    ⟨same_new hD, upd_same⟩ (fun i H _ h => hG H h.1) (fun i x H H' hi h hy => ?_) (fun H h => hd H h.1 (by rw [h.2, List.take_length]))
  have ei : xs[i]? = some xs[i] := List.getElem?_eq_getElem hi
  have sy := hY _ _ _ _ hy
  refine turn i xs[i] x H H' (fun y z H5 => ∃ kvs k, y = kV k ∧ H5 D = some (.dK kvs) ∧ kvs.length < sizeLine ∧ _) _ ei h.1 hy fun H4 s4 => ⟨_, _, rfl, s4 _ _ (sy _ _ h.2), ?_, fun b o z => ?_, ?_⟩
  · have := dOf_len key val (xs.take i)
    rw [List.length_take] at this
    rw [sizeLine_eq]
    omega
  · rw [upd_ne (ne_of_none z hD)]
    exact s4 _ _ (sy _ _ (h.1 b o z))
  · rw [upd_same, dOf_take ei]
/-- {(..): v for x in ..}, keys tuples -/
theorem dcGT (xs : List α) (key : α → List Key) (val : α → V) (w : Walk J xs.length G Y) (hz : xs.length ≤ 16000000) (hD : H1 D = none) (hY : ∀ i H x H', Y i H x H' → Same H H') (hG : ∀ H', Same H1 H' → G H')
    (turn : ∀ (i : Nat) (a : α) (x : V) (H' H'' : Hp) (k : V → V → Hp → Prop) (k0 : Hp → Prop), xs[i]? = some a → Same H1 H' → Y i H' x H'' → (∀ t H4, Same H'' H4 → H4 t = some (.tup ((key a).map kV)) → k (.ref t) (val a) H4) →
      g x (wipe σ vs) H'' fun σ2 H2 => wipe σ2 vs = wipe σ vs ∧ tt σ2 H2 fun b H3 => if b = true then tk σ2 H3 fun y H4 => tv σ2 H4 fun z H5 => k y z H5 else k0 H3)
    (hd : ∀ H', Same H1 H' → H' D = some (.dT (dOf key val xs)) → Qd H') :
    ∃ W : Nat → Nat → Hp → Prop, (∃ m, W 0 m (upd H1 D (.dT []))) ∧ ∀ i m H, W i m H →
      (J.stop i H ∧ Qd H) ∨ (J.go i H ∧ ∃ Nx : Hp → Prop, (∀ H', Nx H' → ∃ m', m' < m ∧ W (i + 1) m' H') ∧ ∀ x H', J.yld i H x H' → g x (wipe σ vs) H' fun σ2 H2 => wipe σ2 vs = wipe σ vs ∧ tt σ2 H2 fun b H3 =>
        if b = true then tk σ2 H3 fun y H4 => tv σ2 H4 fun z H5 => ∃ kvs k t, y = .ref t ∧ H5 t = some (.tup (k.map kV)) ∧ H5 D = some (.dT kvs) ∧ kvs.length < sizeLine ∧ Nx (upd H5 D (.dT (putK kvs k z))) else Nx H3) := by
  refine dc_it w (nx := fun i H' => Same H1 H' ∧ H' D = some (.dT (dOf key val (xs.take i)))) (body := fun i x H' Nx => g x (wipe σ vs) H' fun σ2 H2 => wipe σ2 vs = wipe σ vs ∧ tt σ2 H2 fun b H3 =>
        if b = true then tk σ2 H3 fun y H4 => tv σ2 H4 fun z H5 => ∃ kvs k t, y = .ref t ∧ H5 t = some (.tup (k.map kV)) ∧ H5 D = some (.dT kvs) ∧ kvs.length < sizeLine ∧ Nx (upd H5 D (.dT (putK kvs k z))) else Nx H3)
    ⟨same_new hD, upd_same⟩ (fun i H _ h => hG H h.1) (fun i x H H' hi h hy => ?_) (fun H h => hd H h.1 (by rw [h.2, List.take_length]))
  have ei : xs[i]? = some xs[i] := List.getElem?_eq_getElem hi
  have sy := hY _ _ _ _ hy
  refine turn i xs[i] x H H' (fun y z H5 => ∃ (kvs : List (List Key × V)) (k : List Key) (t : Addr), y = .ref t ∧ H5 t = some (.tup (k.map kV)) ∧ H5 D = some (.dT kvs) ∧ kvs.length < sizeLine ∧ _) _ ei h.1 hy fun t H4 s4 et => ⟨_, _, t, rfl, et, s4 _ _ (sy _ _ h.2), ?_, fun b o z => ?_, ?_⟩
  · have := dOf_len key val (xs.take i)
    rw [List.length_take] at this
    rw [sizeLine_eq]
    omega
  · rw [upd_ne (ne_of_none z hD)]
    exact s4 _ _ (sy _ _ (h.1 b o z))
  · rw [upd_same, dOf_take ei]
end
/-! lists of texts, lists of lists of texts, as data -/
abbrev dTx (ws : List Str) : PyData := .list (ws.map .str)
abbrev dTab (rs : List (List Str)) : PyData := .list (rs.map dTx)
theorem eqv_strs : ∀ a b : List Str, PyData.eqvAll (a.map .str) (b.map .str) = decide (a = b)
  | [], [] => rfl
  | [], _ :: _ => rfl
  | _ :: _, [] => rfl
  | x :: xs, y :: ys => by
    show (PyData.eqv (.str x) (.str y) && PyData.eqvAll (xs.map .str) (ys.map .str)) = _
    rw [eqv_strs xs ys]
    show ((x == y) && _) = _
    by_cases h : x = y
    · subst h; simp
    · simp [h]
theorem eqv_dTx (a b : List Str) : PyData.eqv (dTx a) (dTx b) = decide (a = b) := eqv_strs a b
theorem eqv_tabs : ∀ a b : List (List Str), PyData.eqvAll (a.map dTx) (b.map dTx) = decide (a = b)
  | [], [] => rfl
  | [], _ :: _ => rfl
  | _ :: _, [] => rfl
  | x :: xs, y :: ys => by
    show (PyData.eqv (dTx x) (dTx y) && PyData.eqvAll (xs.map dTx) (ys.map dTx)) = _
    rw [eqv_tabs xs ys, eqv_dTx]
    by_cases h : x = y
    · subst h; simp
    · simp [h]
theorem eqv_dTab (a b : List (List Str)) : PyData.eqv (dTab a) (dTab b) = decide (a = b) := eqv_tabs a b
theorem lay_strs : ∀ {a : List Str}, (∀ x ∈ a, PyData.strOk x = true) → PyData.canLayAll0 (a.map .str) = true ∧ PyData.depthAll (a.map .str) = 0
  | [], _ => ⟨rfl, rfl⟩
  | x :: xs, h => by
    have ih := lay_strs (a := xs) fun y hy => h y (List.mem_cons_of_mem _ hy)
    refine ⟨?_, ?_⟩
    · show (PyData.strOk x && PyData.canLayAll0 (xs.map .str)) = true
      rw [h x (List.mem_cons_self ..), ih.1]
      rfl
    · show max 0 (PyData.depthAll (xs.map .str)) = 0
      rw [ih.2]
      rfl
theorem shaped_dTx {a : List Str} (h : ∀ x ∈ a, PyData.strOk x = true) : SeqAt.shaped (dTx a) = true := by
  have l := lay_strs h
  have d1 : (dTx a).canLay0 = true := l.1
  have d2 : (dTx a).depth = 1 := by
    show PyData.depthAll _ + 1 = 1
    rw [l.2]
  unfold SeqAt.shaped
  rw [d1, d2]
  rfl
theorem lay_tabs : ∀ {a : List (List Str)}, (∀ r ∈ a, ∀ x ∈ r, PyData.strOk x = true) → PyData.canLayAll0 (a.map dTx) = true ∧ PyData.depthAll (a.map dTx) ≤ 1
  | [], _ => ⟨rfl, Nat.zero_le _⟩
  | r :: rs, h => by
    have ih := lay_tabs (a := rs) fun y hy => h y (List.mem_cons_of_mem _ hy)
    have l := lay_strs (h r (List.mem_cons_self ..))
    refine ⟨?_, ?_⟩
    · show (PyData.canLayAll0 (r.map .str) && PyData.canLayAll0 (rs.map dTx)) = true
      rw [l.1, ih.1]
      rfl
    · show max (PyData.depthAll (r.map .str) + 1) (PyData.depthAll (rs.map dTx)) ≤ 1
      rw [l.2]
      have := ih.2
      omega
theorem shaped_dTab {a : List (List Str)} (h : ∀ r ∈ a, ∀ x ∈ r, PyData.strOk x = true) : SeqAt.shaped (dTab a) = true := by
  have l := lay_tabs h
  have d1 : (dTab a).canLay0 = true := l.1
  have d2 : (dTab a).depth ≤ 2 := by
    show PyData.depthAll _ + 1 ≤ 2
    have := l.2
    omega
  unfold SeqAt.shaped
  rw [d1]
  simp
  omega
theorem dpStrs {K : PySem.W.Frag} {H : Hp} : ∀ ws : List Str, DpAll K H (ws.map V.str) (ws.map PyData.str)
  | [] => .nil
  | x :: xs => .cons (.str x) (dpStrs xs)
theorem dp_dTx {K : PySem.W.Frag} {H : Hp} {p : Addr} {ws : List Str} (h : H p = some (.lst (ws.map V.str))) : Dp K H (.ref p) (dTx ws) := .lst (SqL.of h) (dpStrs ws)
/-- the lists at as hold the rows -/
inductive Rw (H : Hp) : List Addr → List (List Str) → Prop
  | nil : Rw H [] []
  | cons {a : Addr} {r : List Str} {as : List Addr} {rs : List (List Str)} : H a = some (.lst (r.map V.str)) → Rw H as rs → Rw H (a :: as) (r :: rs)
theorem Rw.same {H H' : Hp} (s : Same H H') : ∀ {as : List Addr} {rs : List (List Str)}, Rw H as rs → Rw H' as rs
  | _, _, .nil => .nil
  | _, _, .cons e t => .cons (s _ _ e) (Rw.same s t)
theorem Rw.len {H : Hp} : ∀ {as : List Addr} {rs : List (List Str)}, Rw H as rs → as.length = rs.length
  | _, _, .nil => rfl
  | _, _, .cons _ t => by simp [Rw.len t]
theorem Rw.snoc {H : Hp} {a : Addr} {r : List Str} (e : H a = some (.lst (r.map V.str))) : ∀ {as : List Addr} {rs : List (List Str)}, Rw H as rs → Rw H (as ++ [a]) (rs ++ [r])
  | _, _, .nil => .cons e .nil
  | _, _, .cons e1 t => .cons e1 (Rw.snoc e t)
theorem Rw.get {H : Hp} : ∀ {as : List Addr} {rs : List (List Str)} {i : Nat} {a : Addr} {r : List Str}, Rw H as rs → as[i]? = some a → rs[i]? = some r → H a = some (.lst (r.map V.str))
  | _, _, _, _, _, .nil, e, _ => by simp at e
  | _, _, 0, _, _, .cons e _, e1, e2 => by simp at e1 e2; subst e1; subst e2; exact e
  | _, _, i + 1, a, r, .cons _ t, e1, e2 => Rw.get (i := i) t (by simpa using e1) (by simpa using e2)
theorem Rw.drop {H : Hp} : ∀ {as : List Addr} {rs : List (List Str)} (n : Nat), Rw H as rs → Rw H (as.drop n) (rs.drop n)
  | _, _, 0, t => t
  | _, _, _ + 1, .nil => .nil
  | _, _, n + 1, .cons _ t => Rw.drop n t
theorem Rw.take {H : Hp} : ∀ {as : List Addr} {rs : List (List Str)} (n : Nat), Rw H as rs → Rw H (as.take n) (rs.take n)
  | _, _, 0, _ => .nil
  | _, _, _ + 1, .nil => .nil
  | _, _, n + 1, .cons e t => .cons e (Rw.take n t)
theorem dpTabs {K : PySem.W.Frag} {H : Hp} : ∀ {as : List Addr} {rs : List (List Str)}, Rw H as rs → DpAll K H (as.map V.ref) (rs.map dTx)
  | _, _, .nil => .nil
  | _, _, .cons e t => .cons (dp_dTx e) (dpTabs t)
theorem dp_dTab {K : PySem.W.Frag} {H : Hp} {p : Addr} {as : List Addr} {rs : List (List Str)} (h : H p = some (.lst (as.map V.ref))) (t : Rw H as rs) : Dp K H (.ref p) (dTab rs) := .lst (SqL.of h) (dpTabs t)
end L2
namespace L2
open PySem PySem.Spec PyProof.Rows PySem.GX
/-! a set comprehension whose members are texts -/
theorem addT {P : Program} {w : World} {A : Around} {E : Value → Shared → Prop} {s : Shared} {a : Addr} {ys : List Str} {k : Str} {tk : Tok} {Q : Value → Shared → Prop} (R : SetT w s.heap a ys) (room : ys.length + 1 < scanBound)
    (done : ∀ h', Heap.SameBut a s.heap h' → SetT w h' a (ins ys k) → Q .none { s with heap := h', toks := s.toks + 1 }) : wpAny (model P w) A (call (.builtin "set.add") [.ref a, .str k tk]) Q E s := by
  have ty : s.TypeIs (.ref a) "set" := by
    obtain ⟨o, _, _, _, ho, hex, _⟩ := R
    exact ⟨o, ho, hex.1⟩
  refine wpAny_call_entry PySem.F.slot_set_add ty PySem.F.entry_set_add ?_ (PySem.F.args_set_add_2 (.ref a) (.str k tk))
  unfold Builtin.«set.add» Builtin.Frozenset.oneOther Builtin.Frozenset.addrOf setAdd
  simp only [bind_assoc, List.isEmpty_nil]
  refine wpAny_bind (wpAny_pure ?_)
  try dsimp only
  refine wpAny_bind (wpAny_pure ?_)
  try dsimp only
  refine wpAny_bind (wpAny_holding ?_)
  refine wpAny_bind ((PySem.strKind P w).pyHash (k := k) (strKind_is P w k tk) ?_)
  refine setT_add (s := { s with toks := s.toks + 1 }) R room fun b h' sb r => ?_
  show wpAny _ _ (ret Value.none) _ _ _
  exact wpAny_pure ⟨_, rfl, done h' sb r⟩
/-- D is the new set -/
def tScT (w : World) (wi : TI) (g : TG) (tt : TT) (te : TE) (vs : List Nat) : TE := fun σ H Q => wi σ H fun J H1 => ∀ D, H1 D = none → ∃ W : Nat → Nat → Hp → Prop, (∃ m, W 0 m (upd H1 D (SetTx w D []))) ∧ ∀ i m H, W i m H →
  (J.stop i H ∧ Q (.ref D) H) ∨ (J.go i H ∧ ∃ On : Hp → Prop, (∀ H', On H' → ∃ m', m' < m ∧ W (i + 1) m' H') ∧ ∀ x H', J.yld i H x H' → g x (wipe σ vs) H' fun σ2 H2 => wipe σ2 vs = wipe σ vs ∧ tt σ2 H2 fun b H3 =>
    if b = true then te σ2 H3 fun y H4 => ∃ ys k, y = .str k ∧ H4 D = some (SetTx w D ys) ∧ ys.length + 1 < scanBound ∧ On (upd H4 D (SetTx w D (ins ys k))) else On H3)
section
variable {X : Cx} {ex tg iter : Expr} {ifs : List Expr} {scope : Scope} {own : List (Str × Nat)} {pos : Pos} {wi : TI} {g : TG} {tt : TT} {te : TE}
theorem pe_scT (calm : X.calm = true) (hN : X.N.Nodup) (hi : PI X tg iter wi) (ok : BlkOk X.N X.env.scope scope own)
    (hg : ∀ (s : Shared) (H : Hp) (C : Addr) (cl : List (Str × Addr)) (fp : List Addr), PG (X.blk s H scope (compEnvC scope cl C X.env) fp) tg g)
    (ht : ∀ (s : Shared) (H : Hp) (C : Addr) (cl : List (Str × Addr)) (fp : List Addr), PTs (X.blk s H scope (compEnvC scope cl C X.env) fp) ifs tt)
    (hk : ∀ (s : Shared) (H : Hp) (C : Addr) (cl : List (Str × Addr)) (fp : List Addr), PE (X.blk s H scope (compEnvC scope cl C X.env) fp) ex te)
    (hs : ∀ x, foldedSetIterable iter X.env x = pure x := by intro _; rfl) :
    PE X (.SetComp ex [⟨tg, iter, ifs, 0⟩] scope pos) (tScT X.w wi g tt te (own.map (·.2))) := by
  refine ⟨fun pl s σ H Q I h => ?_⟩
  rw [PpSet.eval_SetComp]
  have frees : ∀ y ∈ scope.names, y.2 = .free → ∃ c, X.env.cells.lookup y.1 = some c := fun y hy e => by
    rcases ok.free y hy e with k | k
    · exact I.ok.has _ (.inl k)
    · exact I.ok.has _ (.inr k)
  refine wpAny_comprehension_free rfl hs (closure_ok frees) ok.kind (fun y hy e => by rw [ok.uniq y hy, e]) (thn (hi.run pl s σ H _ I h) fun _ sa ha => thn ha fun _ sb hb => ?_)
  obtain ⟨it, fp, tn, J, Hb, rfl, Ib, T, tb, okb, want⟩ := hb
  refine PpSet.newSet_ok (newEnv_comp ?_)
  -- the new set
  generalize eD : sb.heap.objs.size = D
  have freeD : Hb D = none := Ib.hok.fresh (Nat.le_of_eq eD)
  obtain ⟨W, ⟨m0, begins⟩, turn⟩ := want D freeD
  generalize esc : ({ sb with heap := sb.heap.push (L2.newSet X.w) } : Shared) = sc
  have hsc : sc.heap = sb.heap.push (L2.newSet X.w) := by rw [← esc]
  have Ic : Inv X pl σ (upd Hb D (SetTx X.w D [])) sc := by
    rw [← esc]
    refine Ib.laid (t' := sb.toks) (fun b o e => Heap.get?_push_of_some _ e) (Nat.le_of_eq eD) ?_
    rw [← eD]
    exact setTx_new (setT_fresh X.w)
  have old : ∀ b ∈ fp, b < sb.heap.objs.size := fun b hb => by
    obtain ⟨o, e, _⟩ := T.obj _ _ tb b hb
    exact Heap.lt_size e
  have okc : ∀ b ∈ fp, FpOk X pl (upd Hb D (SetTx X.w D [])) b ∧ b < sc.heap.objs.size := fun b hb => by
    have lt := old b hb
    refine ⟨⟨?_, (okb b hb).2⟩, ?_⟩
    · rw [upd_ne (by rw [← eD]; exact Nat.ne_of_lt lt)]
      exact (okb b hb).1
    · rw [hsc, Heap.size_push]
      exact Nat.lt_succ_of_lt lt
  have tc : tn 0 sc.heap := T.keep _ _ _ tb fun b _ o e => by
    rw [hsc]
    exact Heap.get?_push_of_some _ e
  -- the block
  have Id := block_start Ic ok hN okc
  have g1 := hg sc (upd Hb D (SetTx X.w D [])) sc.heap.objs.size (cellsFrom (sc.heap.objs.size + 1) scope.names (cloFrom X.env.cells scope.names [])) fp
  have g2 := ht sc (upd Hb D (SetTx X.w D [])) sc.heap.objs.size (cellsFrom (sc.heap.objs.size + 1) scope.names (cloFrom X.env.cells scope.names [])) fp
  have g3 := hk sc (upd Hb D (SetTx X.w D [])) sc.heap.objs.size (cellsFrom (sc.heap.objs.size + 1) scope.names (cloFrom X.env.cells scope.names [])) fp
  show codeAny _ _ (.compStart (.SetComp ex [⟨tg, iter, ifs, 0⟩] scope pos) 0 (.ref it) (.ref D) (compEnvC scope (cellsFrom (sc.heap.objs.size + 1) scope.names (cloFrom X.env.cells scope.names [])) sc.heap.objs.size X.env)) _
    { sc with heap := pushCells (sc.heap.push { cls := .type "dict", data := .dict #[] }) scope.names }
  have hid : ∀ b ∈ fp, (upd Hb D (SetTx X.w D [])) b = none := fun b hb => (okc b hb).1.1
  generalize eenv : compEnvC scope (cellsFrom (sc.heap.objs.size + 1) scope.names (cloFrom X.env.cells scope.names [])) sc.heap.objs.size X.env = env at Id g1 g2 g3 ⊢
  have eloc : env.locals = sc.heap.objs.size := by subst eenv; rfl
  generalize eHc : upd Hb D (SetTx X.w D []) = Hc at Ic Id g1 g2 g3 begins hid okc
  generalize esd : ({ sc with heap := pushCells (sc.heap.push { cls := .type "dict", data := .dict #[] }) scope.names } : Shared) = sd at Id ⊢
  have td : tn 0 sd.heap := T.keep _ _ _ tc fun b _ o e => by
    rw [← esd]
    exact pushCells_keeps _ _ _ _ (Heap.get?_push_of_some _ e)
  have fpOk : ∀ {σ' : St} {H' : Hp} {s' : Shared}, Inv (X.blk sc Hc scope env fp) [] σ' H' s' → (∀ b ∈ fp, H' b = none) → ∀ b ∈ fp, FpOk (X.blk sc Hc scope env fp) [] H' b := fun {σ' H' s'} I' free b hb => by
    refine ⟨free b hb, (I'.ok.exf b hb).1, I'.ok.exfs b hb, .inl hb, fun x c e => (I'.ok.exf b hb).2 x c e, fun p hp => ?_⟩
    exact absurd (show p ∈ ([] : List (Addr × Obj)) ++ [] from hp) (by simp)
  refine PpSet.codeAny_compStart_set ?lp (T.self X.A 0 _ _ _ td ?lp)
  refine PpSet.compLoopS_any (fun n s' => ∃ i H', Inv (X.blk sc Hc scope env fp) [] (wipe σ (own.map (·.2))) H' s' ∧ tn i s'.heap ∧ (∀ b ∈ fp, H' b = none) ∧ W i n H') ?_ m0 ⟨0, Hc, Id, td, hid, begins⟩
  rintro n se ⟨i, He, Ie, te, free, at_⟩
  rcases turn i n He at_ with ⟨stop, wish⟩ | ⟨goes, On, next, step⟩
  · refine thnF (T.done (X.blk sc Hc scope env fp) rfl rfl rfl calm i [] se _ He (fun _ _ => False) Ie (fpOk Ie free) te stop) fun r sf ⟨hr, If⟩ => ?_
    subst hr
    have back : Inv X pl σ He sf := Ic.call' (ch := fp) If.os If.base If.hok If.bare fun b hb => ⟨(okc b hb).1.2.2.2.1, (okc b hb).1.2.1, (okc b hb).1.2.2.2.2.1, (okc b hb).1.2.2.2.2.2⟩
    have noC : He sc.heap.objs.size = none := by
      have z : He env.locals = none := If.free
      rw [eloc] at z
      exact z
    obtain ⟨m, hn, _⟩ := If.loc
    have hn' : sf.heap.Ns env.locals m := hn
    rw [eloc] at hn'
    obtain ⟨f0, f1, f2, f3, f4, f5⟩ := Ic.fpOk (Nat.le_refl _) noC
    exact ⟨m, hn', fun h'' sb' => ⟨.ref D, He, back.turned (t' := sf.toks) (fun b o hb e => (sb'.2 b hb).trans e) f0 f1 f3 f4 f5, rfl, wish⟩⟩
  · refine thnF (T.item (X.blk sc Hc scope env fp) rfl rfl rfl calm i [] se _ He (fun _ _ => False) Ie (fpOk Ie free) te goes) fun r sf ⟨u, hr, hf⟩ => ?_
    subst hr
    refine thnF hf fun _ sg ⟨x, Hg, Ig, rg, yg, tg', freeg⟩ => ?_
    have pinned := Ig.pinned (fpOk Ig freeg) (T.obj _ _ tg')
    refine thnF (g1.run _ sg _ Hg x u _ pinned rg (step x Hg yg)) fun _ sh ⟨σh, Hh, Ih, wh, qh⟩ => ?_
    refine thnF (g2.run _ sh σh Hh _ Ih qh) fun b si ⟨Hi, Ii, qi⟩ => ?_
    have ends : ∀ {s' : Shared} {H' : Hp}, Inv (X.blk sc Hc scope env fp) ([] ++ pinsAt fp sg.heap) σh H' s' → On H' →
        ∃ m, m < n ∧ ∃ i H', Inv (X.blk sc Hc scope env fp) [] (wipe σ (own.map (·.2))) H' s' ∧ tn i s'.heap ∧ (∀ b ∈ fp, H' b = none) ∧ W i m H' := fun {s' H'} I' on => by
      obtain ⟨m', lt, at'⟩ := next H' on
      have kept : ∀ b ∈ fp, ∀ o, sg.heap.get? b = some o → s'.heap.get? b = some o ∧ H' b = none := fun b hb o e => by
        have z := I'.pin (b, o) (List.mem_append_right _ (List.mem_append_right _ (mem_pinsAt hb e)))
        exact ⟨z.1, z.2.1⟩
      have len : (wipe σ (own.map (·.2))).length = σh.length := by
        rw [← wh, wipe_length]
      refine ⟨m', lt, i + 1, H', (I'.unpinned (pins := [])).weak len (fun j y e => ?_), T.keep _ _ _ tg' fun b hb o e => (kept b hb o e).1, fun b hb => ?_, at'⟩
      · rw [← wh] at e
        exact (wipe_some e).1
      · obtain ⟨o, e, _⟩ := T.obj _ _ tg' b hb
        exact (kept b hb o e).2
    cases b with
    | false =>
      simp only [Bool.false_eq_true, if_false] at qi ⊢
      exact ends Ii qi
    | true =>
      simp only [if_true] at qi ⊢
      refine thnF (g3.run _ si σh Hi _ Ii qi) fun z sj ⟨yk, Hj, Ij, rj, ys, k, ek, eDk, few, on⟩ => ?_
      subst ek
      obtain ⟨tk, rfl⟩ := rj
      have R : SetT X.w sj.heap D ys := (Ij.hok D _ eDk).1
      refine addT R few fun h' sb' new => ends (Ij.write (e := D) (t' := sj.toks + 1) (by rw [eDk]; trivial) (.inl rfl) (fun b u hb hu => (sb'.2 b hb).trans hu) ?_ (setTx_new new)) on
      obtain ⟨o, _, _, _, ho, _⟩ := new
      exact ⟨o, ho⟩
end
section
variable {w : World} {J : It} {G : Hp → Prop} {Y : Nat → Hp → V → Hp → Prop} {g : TG} {tt : TT} {te : TE} {vs : List Nat} {σ : St} {H1 : Hp} {D : Addr} {Qd : Hp → Prop}
/-- {e for x in ..}, xs the texts that e is, one after another -/
theorem scG (xs : List Str) (wk : Walk J xs.length G Y) (hz : xs.length < 4000) (hD : H1 D = none) (hY : ∀ i H x H', Y i H x H' → Same H H') (hG : ∀ H', Same H1 H' → G H')
    (turn : ∀ (i : Nat) (a : Str) (x : V) (H' H'' : Hp) (k : V → Hp → Prop) (k0 : Hp → Prop), xs[i]? = some a → Same H1 H' → Y i H' x H'' → (∀ H4, Same H'' H4 → k (.str a) H4) →
      g x (wipe σ vs) H'' fun σ2 H2 => wipe σ2 vs = wipe σ vs ∧ tt σ2 H2 fun b H3 => if b = true then te σ2 H3 fun y H4 => k y H4 else k0 H3)
    (hd : ∀ H', Same H1 H' → H' D = some (SetTx w D (setFold xs)) → Qd H') :
    ∃ W : Nat → Nat → Hp → Prop, (∃ m, W 0 m (upd H1 D (SetTx w D []))) ∧ ∀ i m H, W i m H →
      (J.stop i H ∧ Qd H) ∨ (J.go i H ∧ ∃ On : Hp → Prop, (∀ H', On H' → ∃ m', m' < m ∧ W (i + 1) m' H') ∧ ∀ x H', J.yld i H x H' → g x (wipe σ vs) H' fun σ2 H2 => wipe σ2 vs = wipe σ vs ∧ tt σ2 H2 fun b H3 =>
        if b = true then te σ2 H3 fun y H4 => ∃ ys k, y = .str k ∧ H4 D = some (SetTx w D ys) ∧ ys.length + 1 < scanBound ∧ On (upd H4 D (SetTx w D (ins ys k))) else On H3) := by
  refine dc_it wk (nx := fun i H' => Same H1 H' ∧ H' D = some (SetTx w D (setFold (xs.take i)))) (body := fun i x H' On => g x (wipe σ vs) H' fun σ2 H2 => wipe σ2 vs = wipe σ vs ∧ tt σ2 H2 fun b H3 =>
        if b = true then te σ2 H3 fun y H4 => ∃ ys k, y = .str k ∧ H4 D = some (SetTx w D ys) ∧ ys.length + 1 < scanBound ∧ On (upd H4 D (SetTx w D (ins ys k))) else On H3)
    ⟨same_new hD, upd_same⟩ (fun i H _ h => hG H h.1) (fun i x H H' hi h hy => ?_) (fun H h => hd H h.1 (by rw [h.2, List.take_length]))
  have ei : xs[i]? = some xs[i] := List.getElem?_eq_getElem hi
  have sy := hY _ _ _ _ hy
  refine turn i xs[i] x H H' (fun y H5 => ∃ ys k, y = .str k ∧ H5 D = some (SetTx w D ys) ∧ ys.length + 1 < scanBound ∧ _) _ ei h.1 hy fun H4 s4 => ⟨_, _, rfl, s4 _ _ (sy _ _ h.2), ?_, fun b o z => ?_, ?_⟩
  · have := setFold_len i (xs.take i) (by rw [List.length_take]; omega)
    unfold scanBound
    omega
  · rw [upd_ne (ne_of_none z hD)]
    exact s4 _ _ (sy _ _ (h.1 b o z))
  · rw [upd_same, List.take_add_one, ei]
    show some (SetTx w D _) = some (SetTx w D (setFold (xs.take i ++ [xs[i]])))
    rw [setFold_snoc]
end
end L2
namespace PySem.SeqAt
open AutoSeq1 (wpAny_loadPart')
open MeetsSeq
theorem str_declines_dict (x : Str) (u : Tok) (a : Addr) (es : Array DictEntry) (n : Nat) (dd : Option Addr) (sl : Array (Option Value)) :
    Meets (Builtin.«str.__eq__» ⟨[.str x u, .ref a], []⟩) (fun _ R s => s.heap.get? a = some { cls := .type "dict", dict := dd, data := .dict es n, slots := sl } ∧ R (.ok (.ret .notImplemented)) s) :=
  .of_wp fun prog w A R s h => by
    obtain ⟨hp, g, d, tk, os⟩ := s
    obtain ⟨ha, h⟩ := h
    wp_walk using wpAny_loadPart' ha, wpAny_load ha
    exact ⟨_, rfl, h⟩
theorem dict_declines_str (x : Str) (u : Tok) (a : Addr) (es : Array DictEntry) (n : Nat) (dd : Option Addr) (sl : Array (Option Value)) :
    Meets (Builtin.«dict.__eq__» ⟨[.ref a, .str x u], []⟩) (fun _ R s => s.heap.get? a = some { cls := .type "dict", dict := dd, data := .dict es n, slots := sl } ∧ R (.ok (.ret .notImplemented)) s) :=
  .of_wp fun prog w A R s h => by
    obtain ⟨hp, g, d, tk, os⟩ := s
    obtain ⟨ha, h⟩ := h
    have f1 := F.sub_str_dict
    wp_walk using wpAny_loadPart' ha, wpAny_load ha
    exact ⟨_, rfl, h⟩
section
variable {A : Around} {s : Shared} {a : Addr} {o : Obj} {es : Array DictEntry} {n : Nat}
theorem rc_str_dict (x : Str) (u : Tok) (ho : s.heap.get? a = some o) (hc : o.cls = .type "dict") (hd : o.data = .dict es n) (hu : A.units < cLine) : RcAt A s (.str x u) (.ref a) false := fun prog w E Q h => by
  obtain ⟨cls, dd, data, sl⟩ := o
  dsimp only at hc hd
  subst hc hd
  refine rc_eq_decline_or (k := false) (typeIs_str s x u) ⟨_, ho, rfl⟩ (by decide) F.sub_dict_str F.slot_str_eq F.slot_dict_eq_refl (fun _ hq => ?_) (fun _ hq => ?_) (fun _ hq => wpAny_of_eq (rfl : isSame (.str x u) (.ref a) = pure false) hq) (.inr hu) h
  · exact call_meets F.slot_str_eq (typeIs_str s x u) F.entry_str_eq (F.args_str_eq_2 _ _) (str_declines_dict x u a es n dd sl) ⟨ho, hq⟩
  · exact call_meets F.slot_dict_eq_refl ⟨_, ho, rfl⟩ F.entry_dict_eq (F.args_dict_eq_2 _ _) (dict_declines_str x u a es n dd sl) ⟨ho, hq⟩
theorem rc_dict_str (x : Str) (u : Tok) (ho : s.heap.get? a = some o) (hc : o.cls = .type "dict") (hd : o.data = .dict es n) (hu : A.units < cLine) : RcAt A s (.ref a) (.str x u) false := fun prog w E Q h => by
  obtain ⟨cls, dd, data, sl⟩ := o
  dsimp only at hc hd
  subst hc hd
  refine rc_eq_decline_or (k := false) ⟨_, ho, rfl⟩ (typeIs_str s x u) (by decide) F.sub_str_dict F.slot_dict_eq F.slot_str_eq_refl (fun _ hq => ?_) (fun _ hq => ?_) (fun _ hq => wpAny_of_eq (rfl : isSame (.ref a) (.str x u) = pure false) hq) (.inr hu) h
  · exact call_meets F.slot_dict_eq ⟨_, ho, rfl⟩ F.entry_dict_eq (F.args_dict_eq_2 _ _) (dict_declines_str x u a es n dd sl) ⟨ho, hq⟩
  · exact call_meets F.slot_str_eq_refl (typeIs_str s x u) F.entry_str_eq (F.args_str_eq_2 _ _) (str_declines_dict x u a es n dd sl) ⟨ho, hq⟩
theorem eq_str_dict (x : Str) (u : Tok) (ho : s.heap.get? a = some o) (hc : o.cls = .type "dict") (hd : o.data = .dict es n) (hu : A.units < cLine) : EqAt A s (.str x u) (.ref a) false := fun prog w E Q h => by
  unfold eqBool
  refine wpAny_holding (wpAny_ite_split (fun z => absurd (eq_of_beq z) nofun) fun _ => ?_)
  exact wpAny_bind (rc_str_dict x u ho hc hd hu prog w E _ (wpAny_truthy_bool h))
end
end PySem.SeqAt
namespace L2
open PySem PySem.Spec PyProof.Rows PySem.GX
/-- the data is this text -/
def isTx (z : Str) : PyData → Bool
  | .str y => decide (y = z)
  | _ => false
section
variable {X : Cx} {pins : List (Addr × Obj)} {σ : St} {H : Hp} {s : Shared}
/-- a text beside any thing -/
theorem sh_eqAt (I : Inv X pins σ H s) {x : V} {d : PyData} {v : Value} (h : Sh X.K H x d) (r : RelV x v) {A : Around} (hu : A.units < cLine) (z : Str) (t : Tok) : SeqAt.EqAt A s (.str z t) v (isTx z d) := by
  cases h with
  | fl f =>
    cases f with
    | non => cases r; exact SeqAt.EqAt.str_none z t
    | bl b => cases r; exact SeqAt.EqAt.str_bool z t b
    | int i => obtain ⟨u, rfl⟩ := r; exact SeqAt.EqAt.str_int z t i u
    | str y =>
      obtain ⟨u, rfl⟩ := r
      have e : isTx z (.str y) = (z == y) := by
        show decide (y = z) = _
        by_cases q : y = z
        · subst q; simp
        · rw [decide_eq_false q]
          exact (beq_eq_false_iff_ne.mpr (Ne.symm q)).symm
      rw [e]
      exact SeqAt.EqAt.str_str z t y u
  | lst hq _ =>
    cases r
    obtain ⟨its, rv, ⟨o, n, ho, hc, _, hd⟩, _⟩ := I.list hq
    exact SeqAt.EqAt.str_list z t ⟨o, ho, hc, n, hd⟩ hu
  | tup hq _ =>
    cases r
    obtain ⟨its, rv, ⟨o, ho, hc, n, hd⟩, _⟩ := I.tuple hq
    exact SeqAt.EqAt.str_tuple z t ⟨o, ho, hc, n, hd⟩ hu
  | dic hq _ _ =>
    cases r
    obtain ⟨_, hsys, vs, rkv, o, es, ep, ho, ⟨hc, _⟩, hd, _⟩ := I.hok _ _ hq
    exact SeqAt.eq_str_dict z t ho hc hd hu
theorem sh_rcAt (I : Inv X pins σ H s) {x : V} {d : PyData} {v : Value} (h : Sh X.K H x d) (r : RelV x v) {A : Around} (hu : A.units < cLine) (z : Str) (t : Tok) : SeqAt.RcAt A s v (.str z t) (isTx z d) := by
  cases h with
  | fl f =>
    cases f with
    | non => cases r; exact SeqAt.RcAt.none_str z t
    | bl b => cases r; exact SeqAt.RcAt.bool_str b z t
    | int i => obtain ⟨u, rfl⟩ := r; exact SeqAt.RcAt.int_str i u z t
    | str y =>
      obtain ⟨u, rfl⟩ := r
      have e : isTx z (.str y) = (y == z) := by
        show decide (y = z) = _
        by_cases q : y = z
        · subst q; simp
        · rw [decide_eq_false q]
          exact (beq_eq_false_iff_ne.mpr q).symm
      rw [e]
      exact SeqAt.RcAt.str_str y u z t
  | lst hq _ =>
    cases r
    obtain ⟨its, rv, ⟨o, n, ho, hc, _, hd⟩, _⟩ := I.list hq
    exact SeqAt.RcAt.list_str z t ⟨o, ho, hc, n, hd⟩ hu
  | tup hq _ =>
    cases r
    obtain ⟨its, rv, ⟨o, ho, hc, n, hd⟩, _⟩ := I.tuple hq
    exact SeqAt.RcAt.tuple_str z t ⟨o, ho, hc, n, hd⟩ hu
  | dic hq _ _ =>
    cases r
    obtain ⟨_, hsys, vs, rkv, o, es, ep, ho, ⟨hc, _⟩, hd, _⟩ := I.hok _ _ hq
    exact SeqAt.rc_dict_str z t ho hc hd hu
end
/-- x not in a list of texts, x anything -/
def rNotInTx (K : PySem.W.Frag) : R2 := fun x y H Q => ∃ (d : PyData) (p : Addr) (ws : List Str), Sh K H x d ∧ y = .ref p ∧ SqL K H p (ws.map V.str) ∧ Q (.bl (!ws.any fun z => isTx z d)) H
theorem op_notInTx {X : Cx} (hu : X.A.units + 1 < cLine) : OpR X (compareOp .NotIn) (rNotInTx X.K) := by
  intro pins s σ H x y v u Q I rx ry ⟨d, p, ws, hd, ey, hp, q⟩
  subst ey
  cases ry
  obtain ⟨its, rv, ⟨o, n, ho, hc, hnn, hdd⟩, hlen⟩ := I.list hp
  have at_ : ∀ y, y ∈ its.toArray → ∃ z t, y = Value.str z t ∧ z ∈ ws := by
    intro y hy
    have hy' : y ∈ its := by simpa using hy
    clear hdd ho hc hp hy q hlen hnn
    generalize hvs : ws.map V.str = vs at rv
    induction rv generalizing ws with
    | nil => cases hy'
    | cons r _ ih =>
      match ws, hvs with
      | w1 :: wt, hvs =>
        injection hvs with e1 e2
        subst e1
        rcases List.mem_cons.mp hy' with m | m
        · obtain ⟨t, e⟩ := r
          exact ⟨w1, t, by rw [m, e], List.mem_cons_self ..⟩
        · obtain ⟨z, t, a1, a2⟩ := ih wt m e2
          exact ⟨z, t, a1, List.mem_cons_of_mem _ a2⟩
  have any_ : (its.toArray.any fun y => match y with | .str z _ => isTx z d | _ => false) = ws.any fun z => isTx z d := by
    rw [List.any_toArray]
    clear at_ hdd ho hc hp q hlen hnn
    generalize hvs : ws.map V.str = vs at rv
    induction rv generalizing ws with
    | nil =>
      match ws, hvs with
      | [], _ => rfl
    | cons r _ ih =>
      match ws, hvs with
      | w1 :: wt, hvs =>
        injection hvs with e1 e2
        subst e1
        obtain ⟨t, e⟩ := r
        subst e
        rw [List.any_cons, List.any_cons, ih wt e2]
  refine SeqAt.notIn_listAt (fun y => match y with | .str z _ => isTx z d | _ => false) ⟨o, ho, hc, n, hdd⟩ (fun y hy => ?_) ?_
  · obtain ⟨z, t, rfl, _⟩ := at_ y hy
    exact sh_eqAt I hd rx (by show X.A.units + 1 < cLine; exact hu) z t
  · rw [any_]
    exact ⟨.bl _, H, I, rfl, q⟩
/-- x == text, x anything -/
def rEqTx (K : PySem.W.Frag) : R2 := fun x y H Q => ∃ (d : PyData) (z : Str), Sh K H x d ∧ y = .str z ∧ Q (.bl (isTx z d)) H
theorem op_eqTx {X : Cx} (hu : X.A.units < cLine) : OpR X (compareOp .Eq) (rEqTx X.K) := by
  intro pins s σ H x y v u Q I rx ry ⟨d, z, hd, ey, q⟩
  subst ey
  obtain ⟨t, rfl⟩ := ry
  exact sh_rcAt I hd rx hu z t _ _ _ _ ⟨.bl _, H, I, rfl, q⟩
/-- repr(x), x a tuple -/
def rReprT (K : PySem.W.Frag) : List V → Hp → VK → Prop := fun xs H Q => ∃ (a : Addr) (ds : List PyData), xs = [.ref a] ∧ Sh K H (.ref a) (.tuple ds) ∧ PyData.showableAll ds = true ∧ (PyData.tuple ds).shown.length ≤ sizeLine ∧ (PyData.tuple ds).depth ≤ 60 ∧
  Q (.str (PyData.tuple ds).shown) H
theorem call_reprT {X : Cx} {K : PySem.W.Frag} (eK : X.K = K) (hg : X.A.guards = some []) (hu : X.A.units + 64 < cLine) : CallR X (.builtin "repr") (rReprT K) := by
  subst eK
  intro pins s σ H xs us Q I r h
  obtain ⟨a, ds, rfl, hsh, hs, hz, hdp, q⟩ := h
  cases r with
  | cons r1 r2 =>
    cases r2
    cases r1
    cases hsh with
    | fl f => cases f
    | @tup _ xs _ hq ha =>
      obtain ⟨its, rv, ⟨o, ho, hc, n, hd⟩, _⟩ := I.tuple hq
      have hz' : (tupleText (PyData.shownAll ds)).length ≤ sizeLine := by simpa only [PyData.shown] using hz
      obtain ⟨⟨as, hr⟩, bs, hb, hk⟩ := Sh.bothAll I ds xs its ha rv hs (fun t ht => Nat.le_trans (tupleText_mem_le ht) hz')
      have rr : Reads s.heap (.ref a) (.tuple ds) _ := Reads.tuple ho hc hd hr
      have hna : a ∉ bs := not_mem_of_deeper rr (by simp only [PyData.depth]; omega) hb
      simp only [PyData.depth] at hdp
      simp only [PyData.shown] at q
      refine call_repr_slot (by omega) ⟨o, ho, hc⟩ F.slot_tuple_repr ?_
      exact call_tuple_reprK ho hc hd hna hk hg (fun b _ => Clear.nil b) (by show X.A.units + 1 + _ < cLine; omega) (fun _ _ e => e) (fun h' u tk k => ⟨_, _, rfl, .str (tupleText (PyData.shownAll ds)), H, I.kept k, ⟨u, rfl⟩, q⟩) hz'
/-- what is compared can be shown -/
theorem Dp.sh {K : PySem.W.Frag} {H : Hp} : ∀ {d : PyData} {v : V}, Dp K H v d → Sh K H v d := by
  intro d v h
  exact Dp.rec (motive_1 := fun v d _ => Sh K H v d) (motive_2 := fun vs ds _ => ShAll K H vs ds) (.fl .non) (fun b => .fl (.bl b)) (fun i => .fl (.int i)) (fun x => .fl (.str x)) (fun h _ i => .lst h i) (fun h _ i => .tup h i) .nil (fun _ _ i j => .cons i j) h
end L2
namespace L2
open PySem PySem.Spec PyProof.Rows PySem.GX
/-- these addresses hold these pairs of texts -/
def Pr2 (H : Hp) : List Addr → List (Str × Str) → Prop
  | [], [] => True
  | a :: as, p :: ps => H a = some (.tup [.str p.1, .str p.2]) ∧ Pr2 H as ps
  | _, _ => False
theorem Pr2.same {H H' : Hp} (s : ∀ b o, H b = some o → H' b = some o) : ∀ {as : List Addr} {ps : List (Str × Str)}, Pr2 H as ps → Pr2 H' as ps
  | [], [], _ => trivial
  | _ :: _, _ :: _, h => ⟨s _ _ h.1, Pr2.same s h.2⟩
  | [], _ :: _, h => h.elim
  | _ :: _, [], h => h.elim
theorem Pr2.keep {H H' : Hp} (s : ∀ b u v, H b = some (.tup [.str u, .str v]) → H' b = some (.tup [.str u, .str v])) : ∀ {as : List Addr} {ps : List (Str × Str)}, Pr2 H as ps → Pr2 H' as ps
  | [], [], _ => trivial
  | _ :: _, _ :: _, h => ⟨s _ _ _ h.1, Pr2.keep s h.2⟩
  | [], _ :: _, h => h.elim
  | _ :: _, [], h => h.elim
theorem Pr2.len {H : Hp} : ∀ {as : List Addr} {ps : List (Str × Str)}, Pr2 H as ps → as.length = ps.length
  | [], [], _ => rfl
  | _ :: _, _ :: _, h => by rw [List.length_cons, List.length_cons, Pr2.len h.2]
  | [], _ :: _, h => h.elim
  | _ :: _, [], h => h.elim
theorem Pr2.app {H : Hp} : ∀ {as bs : List Addr} {ps qs : List (Str × Str)}, Pr2 H as ps → Pr2 H bs qs → Pr2 H (as ++ bs) (ps ++ qs)
  | [], _, [], _, _, h => h
  | _ :: _, _, _ :: _, _, h, g => ⟨h.1, Pr2.app h.2 g⟩
  | [], _, _ :: _, _, h, _ => h.elim
  | _ :: _, _, [], _, h, _ => h.elim
theorem Pr2.get {H : Hp} : ∀ {as : List Addr} {ps : List (Str × Str)} {i : Nat} {a : Addr}, Pr2 H as ps → as[i]? = some a → ∃ p, ps[i]? = some p ∧ H a = some (.tup [.str p.1, .str p.2])
  | _ :: _, p :: _, 0, _, h, e => by
    obtain rfl := Option.some.inj e
    exact ⟨p, rfl, h.1⟩
  | _ :: as, _ :: ps, i + 1, a, h, e => Pr2.get (as := as) (ps := ps) (i := i) h.2 e
  | [], [], _, _, _, e => by cases e
  | [], _ :: _, _, _, h, _ => h.elim
  | _ :: _, [], _, _, h, _ => h.elim
theorem Pr2.drop {H : Hp} : ∀ {as : List Addr} {ps : List (Str × Str)} (n : Nat), Pr2 H as ps → Pr2 H (as.drop n) (ps.drop n)
  | _, _, 0, h => h
  | [], [], _ + 1, _ => trivial
  | _ :: _, _ :: _, n + 1, h => Pr2.drop n h.2
  | [], _ :: _, _, h => h.elim
  | _ :: _, [], _, h => h.elim
theorem Pr2.take {H : Hp} : ∀ {as : List Addr} {ps : List (Str × Str)} (n : Nat), Pr2 H as ps → Pr2 H (as.take n) (ps.take n)
  | _, _, 0, _ => trivial
  | [], [], _ + 1, _ => trivial
  | _ :: _, _ :: _, n + 1, h => ⟨h.1, Pr2.take n h.2⟩
  | [], _ :: _, _, h => h.elim
  | _ :: _, [], _, h => h.elim
/-- is the value at v a pair of such parts -/
def hitP (H : Hp) (d1 d2 : PyData) : Value → Bool
  | .ref a => match H a with
    | some (.tup [.str u, .str v]) => isTx u d1 && isTx v d2
    | _ => false
  | _ => false
theorem hit_at {H : Hp} {a : Addr} {u v : Str} {d1 d2 : PyData} (e : H a = some (.tup [.str u, .str v])) : hitP H d1 d2 (.ref a) = (isTx u d1 && isTx v d2) := by
  simp only [hitP, e]
theorem hit_any {H : Hp} {d1 d2 : PyData} : ∀ {as : List Addr} {ps : List (Str × Str)} {its : List Value}, Pr2 H as ps → Vals (as.map V.ref) its → its.any (hitP H d1 d2) = ps.any fun p => isTx p.1 d1 && isTx p.2 d2
  | [], [], _, _, r => by cases r; rfl
  | a :: as, p :: ps, _, h, r => by
    cases r with
    | cons r1 r2 =>
      cases r1
      rw [List.any_cons, List.any_cons, hit_any h.2 r2, hit_at h.1]
  | [], _ :: _, _, h, _ => h.elim
  | _ :: _, [], _, h, _ => h.elim
theorem hit_mem {H : Hp} : ∀ {as : List Addr} {ps : List (Str × Str)} {its : List Value} {y : Value}, Pr2 H as ps → Vals (as.map V.ref) its → y ∈ its → ∃ a u v, y = .ref a ∧ H a = some (.tup [.str u, .str v])
  | [], [], _, _, _, r, m => by cases r; cases m
  | a :: as, p :: ps, _, _, h, r, m => by
    cases r with
    | cons r1 r2 =>
      cases r1
      rcases List.mem_cons.mp m with e | m
      · exact ⟨a, p.1, p.2, e, h.1⟩
      · exact hit_mem h.2 r2 m
  | [], _ :: _, _, _, h, _, _ => h.elim
  | _ :: _, [], _, _, h, _, _ => h.elim
section
variable {X : Cx}
theorem pair_eqAt {pins : List (Addr × Obj)} {σ : St} {H : Hp} {s : Shared} (I : Inv X pins σ H s) {a t : Addr} {u v : Str} {x1 x2 : V} {d1 d2 : PyData} (ea : H a = some (.tup [.str u, .str v])) (et : SqT X.K H t [x1, x2]) (h1 : Sh X.K H x1 d1) (h2 : Sh X.K H x2 d2) {A : Around} (hu : A.units + 1 < cLine) :
    SeqAt.EqAt A s (.ref a) (.ref t) (isTx u d1 && isTx v d2) := by
  have ha : SqT X.K H a [.str u, .str v] := SqT.of ea
  by_cases e : a = t
  · subst e
    obtain ⟨its, rv, ⟨o, ho, hc, n, hd⟩, _⟩ := I.tuple ha
    obtain ⟨its', rv', ⟨o', ho', hc', n', hd'⟩, _⟩ := I.tuple et
    rw [ho] at ho'
    obtain rfl := Option.some.inj ho'
    rw [hd] at hd'
    have : its = its' := by
      have h3 : its.toArray = its'.toArray := by injection hd'
      simpa using h3
    subst this
    cases rv with
    | cons r1 r2 =>
      cases r2 with
      | cons r2 r3 =>
        cases r3
        cases rv' with
        | cons q1 q2 =>
          cases q2 with
          | cons q2 q3 =>
            cases q3
            obtain ⟨k1, rfl⟩ := r1
            obtain ⟨k2, rfl⟩ := r2
            have g : ∀ (z : Str) (tk : Tok) (x : V) (d : PyData), Sh X.K H x d → RelV x (.str z tk) → isTx z d = true := by
              intro z tk x d h r
              cases h with
              | fl f =>
                cases f with
                | non => cases r
                | bl b => cases r
                | int i => obtain ⟨_, r⟩ := r; cases r
                | str y =>
                  obtain ⟨_, r⟩ := r
                  injection r with r1 _
                  subst r1
                  exact decide_eq_true rfl
              | lst _ _ => cases r
              | tup _ _ => cases r
              | dic _ _ _ => cases r
            rw [g u k1 x1 d1 h1 q1, g v k2 x2 d2 h2 q2]
            exact SeqAt.EqAt.same _
  · obtain ⟨its, rv, ho1, _⟩ := I.tuple ha
    obtain ⟨its', rv', ho2, _⟩ := I.tuple et
    cases rv with
    | cons r1 r2 =>
      cases r2 with
      | cons r2 r3 =>
        cases r3
        cases rv' with
        | cons q1 q2 =>
          cases q2 with
          | cons q2 q3 =>
            cases q3
            obtain ⟨k1, rfl⟩ := r1
            obtain ⟨k2, rfl⟩ := r2
            have := SeqAt.RcAt.tuples (A := A) (s := s) (e := fun j => if j = 0 then isTx u d1 else isTx v d2) (by obtain ⟨o, ho, hc, n, hd⟩ := ho1; exact ⟨o, ho, hc, n, hd⟩) (by obtain ⟨o, ho, hc, n, hd⟩ := ho2; exact ⟨o, ho, hc, n, hd⟩) (by omega) (fun j g1 g2 => by
              match j, g1 with
              | 0, _ => exact sh_eqAt I h1 q1 (by show A.units + 1 < cLine; exact hu) u k1
              | 1, _ => exact sh_eqAt I h2 q2 (by show A.units + 1 < cLine; exact hu) v k2
              | j + 2, g1 => exact absurd g1 (by simp))
            have e2 : ((List.range (min 2 2)).all (fun j => if j = 0 then isTx u d1 else isTx v d2) && (2 == 2)) = (isTx u d1 && isTx v d2) := by
              show ((isTx u d1 && (isTx v d2 && true)) && true) = _
              simp
            have this := SeqAt.EqAt.of_refs e this
            rw [← e2]
            exact this
/-- x in (..), x a pair of any two parts, the other a list or a tuple of pairs of texts -/
def rInP (K : PySem.W.Frag) (neg : Bool) : R2 := fun x y H Q => ∃ (t c : Addr) (x1 x2 : V) (d1 d2 : PyData) (as : List Addr) (ps : List (Str × Str)), x = .ref t ∧ y = .ref c ∧ SqT K H t [x1, x2] ∧ Sh K H x1 d1 ∧ Sh K H x2 d2 ∧
  (SqL K H c (as.map V.ref) ∨ SqT K H c (as.map V.ref)) ∧ Pr2 H as ps ∧ Q (.bl (xor neg (ps.any fun p => isTx p.1 d1 && isTx p.2 d2))) H
theorem op_inP (hu : X.A.units + 2 < cLine) : OpR X (compareOp .In) (rInP X.K false) := by
  intro pins s σ H x y v u Q I rx ry ⟨t, c, x1, x2, d1, d2, as, ps, ex, ey, ht, h1, h2, hc, hp, q⟩
  subst ex ey
  cases rx
  cases ry
  rw [Bool.false_xor] at q
  rcases hc with hc | hc
  · obtain ⟨its, rv, ⟨o, n, ho, hcl, hnn, hdd⟩, _⟩ := I.list hc
    refine SeqAt.in_listAt (hitP H d1 d2) ⟨o, ho, hcl, n, hdd⟩ (fun y hy => ?_) ?_
    · obtain ⟨a, u, v, rfl, ea⟩ := hit_mem hp rv (by simpa using hy)
      rw [hit_at ea]
      exact pair_eqAt I ea ht h1 h2 (by show X.A.units + 1 + 1 < cLine; omega)
    · rw [List.any_toArray, hit_any hp rv]
      exact ⟨.bl _, H, I, rfl, q⟩
  · obtain ⟨its, rv, ⟨o, ho, hcl, n, hdd⟩, _⟩ := I.tuple hc
    refine SeqAt.in_tupleAt (hitP H d1 d2) ⟨o, ho, hcl, n, hdd⟩ (fun y hy => ?_) ?_
    · obtain ⟨a, u, v, rfl, ea⟩ := hit_mem hp rv (by simpa using hy)
      rw [hit_at ea]
      exact pair_eqAt I ea ht h1 h2 (by show X.A.units + 1 + 1 < cLine; omega)
    · rw [List.any_toArray, hit_any hp rv]
      exact ⟨.bl _, H, I, rfl, q⟩
theorem op_notInP (hu : X.A.units + 2 < cLine) : OpR X (compareOp .NotIn) (rInP X.K true) := by
  intro pins s σ H x y v u Q I rx ry ⟨t, c, x1, x2, d1, d2, as, ps, ex, ey, ht, h1, h2, hc, hp, q⟩
  subst ex ey
  cases rx
  cases ry
  rw [Bool.true_xor] at q
  rcases hc with hc | hc
  · obtain ⟨its, rv, ⟨o, n, ho, hcl, hnn, hdd⟩, _⟩ := I.list hc
    refine SeqAt.notIn_listAt (hitP H d1 d2) ⟨o, ho, hcl, n, hdd⟩ (fun y hy => ?_) ?_
    · obtain ⟨a, u, v, rfl, ea⟩ := hit_mem hp rv (by simpa using hy)
      rw [hit_at ea]
      exact pair_eqAt I ea ht h1 h2 (by show X.A.units + 1 + 1 < cLine; omega)
    · rw [List.any_toArray, hit_any hp rv]
      exact ⟨.bl _, H, I, rfl, q⟩
  · obtain ⟨its, rv, ⟨o, ho, hcl, n, hdd⟩, _⟩ := I.tuple hc
    refine SeqAt.notIn_tupleAt (hitP H d1 d2) ⟨o, ho, hcl, n, hdd⟩ (fun y hy => ?_) ?_
    · obtain ⟨a, u, v, rfl, ea⟩ := hit_mem hp rv (by simpa using hy)
      rw [hit_at ea]
      exact pair_eqAt I ea ht h1 h2 (by show X.A.units + 1 + 1 < cLine; omega)
    · rw [List.any_toArray, hit_any hp rv]
      exact ⟨.bl _, H, I, rfl, q⟩
end
theorem any_pair {a b : Str} : ∀ ps : List (Str × Str), (ps.any fun p => isTx p.1 (.str a) && isTx p.2 (.str b)) = decide ((a, b) ∈ ps)
  | [] => rfl
  | (c, d) :: t => by
    rw [List.any_cons, any_pair t]
    show (decide (a = c) && decide (b = d) || decide ((a, b) ∈ t)) = _
    rw [Bool.eq_iff_iff]
    simp only [Bool.or_eq_true, Bool.and_eq_true, decide_eq_true_eq, List.mem_cons, Prod.mk.injEq]
end L2
namespace L2
open PySem PySem.Spec PyProof.Rows PySem.GX
theorem del_same_of (H : Hp) (p : Addr) : Same (del H p) H := fun b o e => by
  by_cases hb : b = p
  · rw [hb, del_same] at e; cases e
  · rw [del_ne hb] at e
    exact e
/-- the new list D holds new lists with these rows; all that was in H1 stands -/
structure Pr (H1 : Hp) (D : Addr) (H' : Hp) (rs : List (List Str)) : Prop where
  ex : ∃ as : List Addr, Same H1 H' ∧ H' D = some (.lst (as.map V.ref)) ∧ Rw (del H' D) as rs
section
variable {H1 H' H'' : Hp} {D p : Addr} {rs : List (List Str)} {r : List Str}
theorem Pr.zero (hD : H1 D = none) : Pr H1 D (upd H1 D (.lst [])) [] := ⟨[], same_new hD, upd_same, .nil⟩
theorem Pr.keeps (h : Pr H1 D H' rs) : Same H1 H' := let ⟨_, s, _, _⟩ := h.ex; s
theorem Pr.same (h : Pr H1 D H' rs) (s : Same H' H'') : Pr H1 D H'' rs := by
  obtain ⟨as, s1, e, t⟩ := h.ex
  exact ⟨as, s1.trans s, s _ _ e, t.same (same_del s)⟩
theorem Pr.push (h : Pr H1 D H' rs) (hD : H1 D = none) (hp : H' p = none) (hl : rs.length < 16000000) :
    ∃ acc, (upd H' p (.lst (r.map V.str))) D = some (.lst acc) ∧ acc.length < sizeLine ∧ Pr H1 D (upd (upd H' p (.lst (r.map V.str))) D (.lst (acc ++ [.ref p]))) (rs ++ [r]) := by
  obtain ⟨as, s1, e, t⟩ := h.ex
  have ne : D ≠ p := ne_of_none e hp
  refine ⟨as.map V.ref, by rw [upd_ne ne]; exact e, ?_, ⟨as ++ [p], fun b o z => ?_, ?_, ?_⟩⟩
  · rw [List.length_map, t.len, sizeLine_eq]
    omega
  · rw [upd_ne (ne_of_none z hD), upd_ne (ne_of_none (s1 _ _ z) hp)]
    exact s1 _ _ z
  · rw [upd_same, List.map_append]
    rfl
  · rw [del_upd]
    refine Rw.snoc ?_ (t.same (same_del (same_new hp)))
    rw [del_ne ne.symm, upd_same]
theorem Pr.rw_ (h : Pr H1 D H' rs) : ∃ as : List Addr, Same H1 H' ∧ H' D = some (.lst (as.map V.ref)) ∧ Rw H' as rs := by
  obtain ⟨as, s1, e, t⟩ := h.ex
  exact ⟨as, s1, e, t.same (del_same_of _ _)⟩
end
theorem cut_to (ws : List Str) (n : Nat) (hn : n < 2 ^ 62) : cutV (ws.map V.str) none (some (n : Int)) = (ws.take n).map V.str := by
  unfold cutV
  have e0 : HT.sIx (ws.map V.str).length 0 none = 0 := rfl
  have e1 : HT.sIx (ws.map V.str).length (ws.map V.str).length (some (n : Int)) = min n (ws.map V.str).length := by
    unfold HT.sIx
    simp
    omega
  rw [e0, e1, List.drop_zero, Nat.sub_zero, List.map_take]
  apply List.ext_getElem?
  intro i
  simp only [List.getElem?_take]
  by_cases h : i < n
  · by_cases h2 : i < (ws.map V.str).length
    · rw [if_pos h, if_pos (by omega)]
    · rw [if_pos h, if_neg (by omega), List.getElem?_eq_none (by omega)]
  · rw [if_neg h, if_neg (by omega)]
theorem cut_fromV (xs : List V) (n : Nat) (hn : n < 2 ^ 62) : cutV xs (some (n : Int)) none = xs.drop n := by
  unfold cutV
  have e1 : HT.sIx xs.length xs.length none = xs.length := rfl
  have e0 : HT.sIx xs.length 0 (some (n : Int)) = min n xs.length := by
    unfold HT.sIx
    simp
    omega
  rw [e0, e1]
  apply List.ext_getElem?
  intro i
  simp only [List.getElem?_take, List.getElem?_drop]
  by_cases h : i < xs.length - min n xs.length
  · rw [if_pos h]
    congr 1
    omega
  · rw [if_neg h, List.getElem?_eq_none (by omega)]
theorem cut_toV (xs : List V) (n : Nat) (hn : n < 2 ^ 62) : cutV xs none (some (n : Int)) = xs.take n := by
  unfold cutV
  have e0 : HT.sIx xs.length 0 none = 0 := rfl
  have e1 : HT.sIx xs.length xs.length (some (n : Int)) = min n xs.length := by
    unfold HT.sIx
    simp
    omega
  rw [e0, e1, List.drop_zero, Nat.sub_zero]
  apply List.ext_getElem?
  intro i
  simp only [List.getElem?_take]
  by_cases h : i < n
  · by_cases h2 : i < xs.length
    · rw [if_pos h, if_pos (by omega)]
    · rw [if_pos h, if_neg (by omega), List.getElem?_eq_none (by omega)]
  · rw [if_neg h, if_neg (by omega)]
end L2
namespace My
open PySem PySem.Spec PyProof.Rows L2
/-- a well stands at p -/
def Wl (H : Hp) (p : Addr) : Prop := ∃ w0 w1 w2 : Int, 0 ≤ w0 ∧ 0 ≤ w1 ∧ H p = some (.lst [.int w0, .int w1, .int w2])
theorem cut_ints (ns : List Int) (lo hi : Option Int) : ∃ ms : List Int, cutV (ns.map V.int) lo hi = ms.map V.int := by
  unfold cutV
  rw [← List.map_drop, ← List.map_take]
  exact ⟨_, rfl⟩
theorem map_int_get {ns : List Int} {i : Nat} {y : V} (h : (ns.map V.int)[i]? = some y) : ∃ z, ns[i]? = some z ∧ y = V.int z := by
  rw [List.getElem?_map] at h
  cases e : ns[i]? with
  | none => rw [e] at h; cases h
  | some z => rw [e] at h; exact ⟨z, rfl, (Option.some.inj h).symm⟩
/-- all but the well stays -/
def Sb (p : Addr) (H H' : Hp) : Prop := ∀ b o, b ≠ p → H b = some o → H' b = some o
theorem Sb.refl (p : Addr) (H : Hp) : Sb p H H := fun _ _ _ h => h
theorem Sb.trans {p : Addr} {H H1 H2 : Hp} (a : Sb p H H1) (b : Sb p H1 H2) : Sb p H H2 := fun c o n h => b c o n (a c o n h)
theorem Sb.of {p : Addr} {H H' : Hp} (s : Same H H') : Sb p H H' := fun b o _ h => s b o h
theorem Sb.upd_ {p : Addr} {H : Hp} {o : HO} : Sb p H (upd H p o) := fun b u n h => by rw [upd_ne n]; exact h
theorem Sb.free {p : Addr} {H H' : Hp} (s : Sb p H H') {q : Addr} (n : q ≠ p) (h : H' q = none) : H q = none := by
  cases e : H q with
  | none => rfl
  | some o => rw [s q o n e] at h; cases h
theorem Wl.same {H H' : Hp} {p : Addr} (w : Wl H p) (s : Same H H') : Wl H' p := by
  obtain ⟨w0, w1, w2, a0, a1, e⟩ := w
  exact ⟨w0, w1, w2, a0, a1, s _ _ e⟩
theorem Wl.new {H : Hp} {p q : Addr} (w : Wl H p) (h : H q = none) : q ≠ p := by
  obtain ⟨w0, w1, w2, a0, a1, e⟩ := w
  exact (ne_of_none e h).symm
theorem Wl.ne {H : Hp} {p q : Addr} {o : HO} (w : Wl H p) (h : H q = some o) (n : ∀ a b c : Int, o ≠ .lst [.int a, .int b, .int c]) : q ≠ p := by
  obtain ⟨w0, w1, w2, a0, a1, e⟩ := w
  exact ne_of h e (n _ _ _)
theorem Wl.neS {H : Hp} {p q : Addr} {ws : List Str} (w : Wl H p) (h : H q = some (.lst (ws.map V.str))) : q ≠ p := w.ne h fun a b c z => by
  cases ws with
  | nil => cases z
  | cons x t => cases z
theorem Wl.upd_ {H : Hp} {p q : Addr} {o : HO} (w : Wl H p) (n : q ≠ p) : Wl (upd H q o) p := by
  obtain ⟨w0, w1, w2, a0, a1, e⟩ := w
  exact ⟨w0, w1, w2, a0, a1, by rw [upd_ne n.symm]; exact e⟩
/-- rules whose readings speak of a K that is the context's -/
theorem ix_listK {X : Cx} {K : PySem.W.Frag} (h : X.K = K) : IxR X (rIxL K) := by subst h; exact ix_list
theorem sl_listK {X : Cx} {K : PySem.W.Frag} (h : X.K = K) : SlR X (rSlL K) := by subst h; exact sl_list
end My
namespace My
open PySem PySem.Spec PyProof.Rows L2
def top (i : Nat) : Stmt := PySem.Challenge.pw_shortlooks_k73_whole_what_is_accepted_is.main.body.getD i (.Pass ⟨0, 0, 0, 0⟩)
abbrev cInvalidText : Stmt := top 3
abbrev cInvalidRow : Stmt := top 4
abbrev cInvalidMood : Stmt := top 5
abbrev cInvalidSign : Stmt := top 6
abbrev sBounds : Stmt := top 12
abbrev sMade : Stmt := top 17
abbrev sRowOf : Stmt := top 18
abbrev sWord : Stmt := top 19
abbrev sSigns : Stmt := top 20
abbrev sMoods : Stmt := top 21
abbrev sGood : Stmt := top 22
abbrev sGoals : Stmt := top 23
abbrev sRead : Stmt := top 24
abbrev sRule : Stmt := top 27
abbrev sRuleOf : Stmt := top 29
abbrev sTwoR : Stmt := top 30
abbrev sAsSet : Stmt := top 31
abbrev sWalked : Stmt := top 32
abbrev sEndsG : Stmt := top 33
abbrev sIsRow : Stmt := top 34
abbrev sApart : Stmt := top 35
abbrev sRdPairs : Stmt := top 36
abbrev sWithin : Stmt := top 37
abbrev sComing : Stmt := top 38
abbrev sLive : Stmt := top 39
abbrev sRdH : Stmt := top 40
abbrev sLast : Stmt := top 41
abbrev sWindows : Stmt := top 42
abbrev sStay : Stmt := top 43
abbrev sNLast : Stmt := top 44
abbrev sNEnds : Stmt := top 45
abbrev sNWin : Stmt := top 46
abbrev sNSets : Stmt := top 47
abbrev sNever : Stmt := top 49
abbrev sAccepts : Stmt := top 51
abbrev sCell : Stmt := top 53
abbrev sPurse : Stmt := top 54
abbrev sPick : Stmt := top 55
abbrev sLetters : Stmt := top 56
abbrev sAim : Stmt := top 57
abbrev sBox : Stmt := top 58
abbrev sText : Stmt := top 59
abbrev sEnd : Stmt := top 60
abbrev sFine : Stmt := top 61
abbrev sReached : Stmt := top 62
abbrev sLiveW : Stmt := top 63
abbrev sUnlike : Stmt := top 64
abbrev sLLook : Stmt := top 65
abbrev sWider : Stmt := top 66
abbrev sHeights : Stmt := top 67
abbrev sRowsTo : Stmt := top 68
abbrev sLPieces : Stmt := top 69
abbrev sSlip : Stmt := top 70
abbrev sIsSo : Stmt := top 71
abbrev sRight : Stmt := top 72
abbrev sLaw : Stmt := top 73
end My
namespace My
open PySem PySem.Spec PyProof.Rows L2
/-- the def x is there, and keeps the promise -/
structure Hv (P : Program) (w : World) (K : PySem.W.Frag) (mg : Str → Option Value) (base : Heap) (k : Nat) (x : Str) (ps : List Str) (sp : Sp) : Prop where
  ex : ∃ (f : Addr) (fd : FuncData), FnOk P w K mg base CX0 k f fd ps sp ∧ Binds K fd ps [] ∧ mg x = some (.ref f) ∧ PySem.W.keepIn K (.ref f) = true
theorem pe_cl {X : Cx} {k : Nat} {x : Str} {ps : List Str} {sp : Sp} {p pos : Pos} {e : Expr} {es : List Expr} {t : TA} {E : XK} (h : Hv X.prog X.w X.K X.mg X.base k x ps sp) (hr : Room k X.A) (hg : Gl X x) (hx : Passes CX0 X E) (ha : PA X (e :: es) t)
    (hdb : (x == ("__debug__" : Str)) = false := by decide) (he : starEach (e :: es) X.env = (false, eval e X.env) :: starEach es X.env := by rfl) (hpl : (backTo pos (starEach es X.env)).any (·.1) = false := by rfl) :
    PE X (.Call (.Name x p) (e :: es) [] pos) (tCall sp [] E t) := by
  obtain ⟨f, fd, F, b, g, kp⟩ := h.ex
  exact pe_call F hr hg g kp b .nil hx ha hdb he hpl
abbrev abc : Str := "abcdefghijklmnopqrstuvwxyz"
def madeL (x y : Str) : Bool := (x.cps.toList.map fun c => decide (c ∈ y.cps.toList)).all id
def spMade : Sp := fun vs H Q _ => ∃ x y : Str, vs = [.str x, .str y] ∧ x.length ≤ 16000000 ∧ ∀ H', Same H H' → Q (.bl (madeL x y)) H'
section
variable {P : Program} {w : World} {K : PySem.W.Frag} {mg : Str → Option Value} {base : Heap}
theorem scMade : FnScope ["text", "letters", "letter"] ["text", "letters"] (defScope sMade) := ⟨rfl, rfl, rfl, by decide +kernel, rfl, by decide +kernel, by decide +kernel⟩
theorem ok_made {f : Addr} {fd : FuncData} (F : Fun K "made_of" "made_of" sMade f fd) (hA : mg "all" = none) : FnOk P w K mg base CX0 1 f fd ["text", "letters"] spMade := by
  refine F.ok scMade (fun vs H Q E h => ?_) (fun cdv A outer s H vs Q E hr h => ?_)
  · obtain ⟨x, y, rfl, _⟩ := h
    rfl
  · obtain ⟨x, y, rfl, hx, k⟩ := h
    refine ⟨_, pss_one (ps_ret (pe_callB (cr_all rfl) (by rfl) hA (by decide +kernel) (pa_cons (pe_lc (own := [("letter", 2)]) (g := gName 2) (tt := tYes) rfl scMade.nd (pi_str (pv 0))
      (blkOk_by (N := ["text", "letters", "letter"]) (sc := defScope sMade) (by decide +kernel)) (fun _ _ _ _ _ => pg_name (i := 2) scMade.nd rfl (Or.inl rfl)) (fun _ _ _ _ _ => pts_nil) (fun _ _ _ _ _ => pe_cmpR op_in_sign (pv 2) (pv 1) (by rfl))) pa_nil))), ?_⟩
    refine ⟨_, rfl, x, rfl, fun D hD => ?_⟩
    refine lcG (x.cps.toList) (fun c => some (.bl (decide (c ∈ y.cps.toList)))) (by rw [Array.length_toList]; exact walk_str) (by rw [Array.length_toList]; exact hx) hD (fun i H x H' h => by rw [h.1]; exact Same.refl _) (fun _ _ => trivial) (fun i c z H' H'' k1 hc _ hy k2 => ?_) (fun H' s' e => ?_)
    · obtain ⟨rfl, c', hc', rfl⟩ := hy
      rw [← Array.getElem?_toList, hc] at hc'
      cases hc'
      exact ⟨rfl, _, rfl, _, rfl, c, _, rfl, rfl, k2 _ (Same.refl _)⟩
    · refine ⟨D, x.cps.toList.map fun c => decide (c ∈ y.cps.toList), rfl, SqL.of ?_, k _ s'⟩
      rw [e, List.filterMap_eq_map', List.map_map]
      rfl
end
end My
namespace My
open PySem PySem.Spec PyProof.Rows L2
def spCell (K : PySem.W.Frag) : Sp := fun vs H Q _ => ∃ (a : Addr) (ns : List Int) (t : Int), vs = [.ref a, .int t] ∧ SqL K H a (ns.map V.int) ∧ 0 ≤ t ∧ t ≤ 1000 ∧ ∀ (n : Int) (H' : Hp), Same H H' → Q (.int n) H'
/-- a drawn number -/
def spPk : Sp := fun vs H Q _ => ∃ (p : Addr) (n : Int), vs = [.ref p, .int n] ∧ Wl H p ∧ 0 < n ∧ n < 1073741824 ∧ ∀ (d : Int) (H' : Hp), 0 ≤ d → d < n → Sb p H H' → Wl H' p → Q (.int d) H'
def spPurse : Sp := fun vs H Q _ => ∃ n : Int, vs = [.int n] ∧ ∀ (p : Addr) (H' : Hp), Same H H' → H p = none → Wl H' p → Q (.ref p) H'
section
variable {P : Program} {w : World} {K : PySem.W.Frag} {mg : Str → Option Value} {base : Heap}
abbrev nCell : List Str := ["_law_cells", "_law_k", "_law_seed", "_law_cell_here"]
theorem scCell : FnScope nCell ["_law_cells", "_law_k"] (defScope sCell) := ⟨rfl, rfl, rfl, by decide +kernel, rfl, by decide +kernel, by decide +kernel⟩
theorem ok_cell {f : Addr} {fd : FuncData} (F : Fun K "_law_cell" "_law_cell" sCell f fd) (hI : mg "int" = none) (hL : mg "len" = none) : FnOk P w K mg base CX0 1 f fd ["_law_cells", "_law_k"] (spCell K) := by
  refine F.ok scCell (fun vs H Q E h => ?_) (fun cdv A outer s H vs Q E hr h => ?_)
  · obtain ⟨a, ns, t, rfl, _⟩ := h
    rfl
  · obtain ⟨a, ns, t, rfl, hS, t0, t1, k⟩ := h
    refine ⟨_, pss_cons (ps_if (pt_cmpR op_lt (pv 1) (pe_callB call_len_seq (by rfl) hL PySem.boot_len (pa_cons (pv 0) pa_nil)) (nomark _)) (pss_one (ps_ret (pe_ix ix_list (pv 0) (pv 1) (fun _ _ => rfl)))) pss_nil)
      (pss_cons (ps_set (i := 2) scCell.nd rfl (Or.inl rfl) (pe_op op_add (pe_op op_add pe_int (pe_op op_mul (pe_op op_mul pe_int (pv 1)) (pv 1))) (pe_op op_mul pe_int (pv 1))))
      (pss_cons (ps_for PassesOwn.never rfl (pi_list (pe_slice sl_list (pv 0) po_none (po_some pe_int))) (pg_name (i := 3) scCell.nd rfl (Or.inl rfl))
        (pss_one (ps_set (i := 2) scCell.nd rfl (Or.inl rfl) (pe_op op_mod (pe_callTy call_int1 (by rfl) hI (by decide +kernel) (pa_cons (pe_op op_add (pe_op op_mul (pv 2) pe_int) (pv 3)) pa_nil)) pe_int))))
      (pss_one (ps_ret (pv 2))))), ?_⟩
    refine ⟨_, rfl, _, rfl, a, _, rfl, .inl hS, _, _, rfl, rfl, _, rfl, ite2 (fun c => ?_) (fun c => ?_)⟩
    · have c1 : t < ((ns.map V.int).length : Int) := of_decide_eq_true c
      rw [List.length_map] at c1
      obtain ⟨z, hz⟩ : ∃ z, ns[t.toNat]? = some z := ⟨_, List.getElem?_eq_getElem (by omega : t.toNat < ns.length)⟩
      have et : t = ((t.toNat : Nat) : Int) := by omega
      refine ⟨_, rfl, _, rfl, a, _, _, V.int z, rfl, rfl, hS, ?_, k z _ (Same.refl _)⟩
      rw [et]
      exact atI_nat (by rw [List.getElem?_map, hz]; rfl)
    · refine ⟨_, rfl, _, _, rfl, rfl, .inl ⟨by decide, by decide⟩, _, rfl, _, _, rfl, rfl, .inr ⟨by show -(2 ^ 64 : Int) < t; omega, by show t < 2 ^ 64; omega⟩, _, _, rfl, rfl, _, rfl, _, _, rfl, rfl, .inl ⟨by decide, by decide⟩, _, _, rfl, rfl, ?_⟩
      refine ⟨_, rfl, 4, rfl, a, _, rfl, hS, fun q hq => ⟨q, rfl, ⟨_, SqL.of upd_same⟩, ?_⟩⟩
      obtain ⟨ms, hms⟩ := cut_ints ns none (some 4)
      refine for_list (K := K) (a := q) (xs := cutV (ns.map V.int) none (some 4)) (fun i σ H' => ∃ (st : Int) (v : Option V), σ = [some (.ref a), some (.int t), some (.int st), v] ∧ H' = upd H q (.lst (cutV (ns.map V.int) none (some 4))))
        ⟨_, none, rfl, rfl⟩ (fun i σ H' _ ⟨_, _, _, e⟩ => by rw [e]; exact SqL.of upd_same) ?_ ?_
      · rintro i y σ H' hi ⟨st, v, rfl, rfl⟩
        rw [hms] at hi
        obtain ⟨z, _, rfl⟩ := map_int_get hi
        exact ⟨_, rfl, _, _, rfl, rfl, .inr ⟨by decide, by decide⟩, _, rfl, _, _, rfl, rfl, .inl ⟨_, rfl, _, _, rfl, rfl, (by show (0 : Int) < 2147483399; decide), _, _, rfl, rfl⟩⟩
      · rintro σ H' ⟨st, v, rfl, rfl⟩
        exact ⟨_, rfl, k _ _ (same_new hq)⟩
abbrev nPurse : List Str := ["_law_cell_here", "_law_digits"]
theorem scPurse : FnScope nPurse ["_law_cell_here"] (defScope sPurse) := ⟨rfl, rfl, rfl, by decide +kernel, rfl, by decide +kernel, by decide +kernel⟩
def tDig : TE := fun σ H Q => ∃ (n : Int) (v : Option V), σ = [some (.int n), v] ∧ ∀ d : Int, 0 ≤ d → Q (.int d) H
theorem PE_imp0 {X : Cx} {e : Expr} {t t' : TE} (h : PE X e t) (m : ∀ σ H Q, t' σ H Q → t σ H Q) : PE X e t' := ⟨fun pins s σ H Q I q => h.run pins s σ H Q I (m σ H Q q)⟩
theorem ok_purse {f : Addr} {fd : FuncData} (F : Fun K "_law_purse" "_law_purse" sPurse f fd) (hI : mg "int" = none) (hA : mg "abs" = none) : FnOk P w K mg base CX0 1 f fd ["_law_cell_here"] spPurse := by
  refine F.ok scPurse (fun vs H Q E h => ?_) (fun cdv A outer s H vs Q E hr h => ?_)
  · obtain ⟨n, rfl, _⟩ := h
    rfl
  · obtain ⟨n, rfl, k⟩ := h
    refine ⟨_, pss_cons (ps_set (i := 1) scPurse.nd rfl (Or.inl rfl) (PE_imp0 (t' := tDig) (pe_ifExp (PW.pt (pw_or (pt_cmpR op_lt (pv 0) pe_int (nomark _)) (pw_or1 (pt_cmpR op_ge (pv 0) (pe_op op_pow pe_int pe_int) (nomark _))))) (pe_callB call_abs (by rfl) hA (by decide +kernel) (pa_cons (pv 0) pa_nil)) pe_int) ?iD))
      (pss_one (ps_ret (pe_lst (pa_cons (pe_op op_mod (pe_callTy call_int1 (by rfl) hI (by decide +kernel) (pa_cons (pe_op op_add (pe_op op_mul (pv 0) pe_int) pe_int) pa_nil)) pe_int) (pa_cons (pv 1) (pa_cons pe_int pa_nil)))))), ?_⟩
    case iD =>
      rintro σ H Q ⟨n, v, rfl, q⟩
      refine ⟨_, rfl, _, _, rfl, rfl, _, rfl, ite2 (fun c => ?_) (fun c => ?_)⟩
      · exact ⟨_, rfl, _, rfl, q _ (by split <;> omega)⟩
      · refine ⟨_, rfl, _, _, rfl, rfl, ⟨by decide, by decide, by decide⟩, _, _, rfl, rfl, _, rfl, ite2 (fun c => ?_) (fun c => ?_)⟩
        · exact ⟨_, rfl, _, rfl, q _ (by split <;> omega)⟩
        · exact q 0 (Int.le_refl _)
    refine ⟨n, none, rfl, fun d hd => ?_⟩
    refine ⟨_, rfl, _, _, rfl, rfl, .inr ⟨by decide, by decide⟩, _, _, rfl, rfl, .inl ⟨_, rfl, _, _, rfl, rfl, (by show (0 : Int) < 2147483563; decide), _, rfl, by show 3 ≤ sizeLine; decide, fun p hp => ?_⟩⟩
    exact k p _ (same_new hp) hp ⟨_, _, _, Int.emod_nonneg _ (by decide), hd, upd_same⟩
abbrev nPk : List Str := ["_law_purse_here", "_law_size", "_law_state", "_law_step", "_law_digit"]
theorem scPk : FnScope nPk ["_law_purse_here", "_law_size"] (defScope sPick) := ⟨rfl, rfl, rfl, by decide +kernel, rfl, by decide +kernel, by decide +kernel⟩
theorem ok_pk {f : Addr} {fd : FuncData} (F : Fun K "_law_pick" "_law_pick" sPick f fd) (hI : mg "int" = none) (hD : mg "divmod" = none) : FnOk P w K mg base CX0 1 f fd ["_law_purse_here", "_law_size"] spPk := by
  refine F.ok scPk (fun vs H Q E h => ?_) (fun cdv A outer s H vs Q E hr h => ?_)
  · obtain ⟨p, n, rfl, _⟩ := h
    rfl
  · obtain ⟨p, n, rfl, ⟨w0, w1, w2, h0, h1, hp⟩, n0, n1, k⟩ := h
    refine ⟨_, pss_cons (ps_asg (pe_op op_add (pe_ix ix_list (pv 0) pe_int (fun _ _ => rfl)) pe_int) (pg_sub (pv 0) pe_int set_list))
      (pss_cons (ps_set (i := 2) scPk.nd rfl (Or.inl rfl) (pe_callTy call_int1 (by rfl) hI (by decide +kernel) (pa_cons (pe_ix ix_list (pv 0) pe_int (fun _ _ => rfl)) pa_nil)))
      (pss_cons (ps_set (i := 3) scPk.nd rfl (Or.inl rfl) (pe_op op_add (pe_op op_mod (pe_callTy call_int1 (by rfl) hI (by decide +kernel) (pa_cons (pv 2) pa_nil)) pe_int) pe_int))
      (pss_cons (ps_asg (pe_op op_mod (pe_callTy call_int1 (by rfl) hI (by decide +kernel) (pa_cons (pe_op op_add (pe_op op_add (pe_op op_mul (pv 2) (pv 3)) (pe_op op_mul pe_int (pe_ix ix_list (pv 0) pe_int (fun _ _ => rfl)))) pe_int) pa_nil)) pe_int) (pg_sub (pv 0) pe_int set_list))
      (pss_cons (ps_if (pt_cmpR op_gt (pe_ix ix_list (pv 0) pe_int (fun _ _ => rfl)) pe_int (nomark _))
        (pss_cons (ps_asg (pe_callB call_divmod (by rfl) hD (by decide +kernel) (pa_cons (pe_ix ix_list (pv 0) pe_int (fun _ _ => rfl)) (pa_cons (pv 1) pa_nil))) (pg_tup rfl (pgs_cons (pg_sub (pv 0) pe_int set_list) (pgs_cons (pg_name (i := 4) scPk.nd rfl (Or.inl rfl)) pgs_nil))))
        (pss_one (ps_ret (pv 4)))) pss_nil)
      (pss_one (ps_ret (pe_op op_modN (pe_op op_fdiv (pe_callTy call_int1 (by rfl) hI (by decide +kernel) (pa_cons (pe_ix ix_list (pv 0) pe_int (fun _ _ => rfl)) pa_nil)) pe_int) (pv 1)))))))), ?_⟩
    have hp1 : ∀ o, upd H p o p = some o := fun o => upd_same
    refine ⟨_, rfl, p, _, _, _, rfl, rfl, SqL.of hp, atI_nat (j := 2) rfl, _, _, rfl, rfl, _, rfl, p, _, _, 2, rfl, rfl, hp, rfl, ?_⟩
    refine ⟨_, rfl, p, _, _, _, rfl, rfl, SqL.of (hp1 _), atI_nat (j := 0) rfl, .inl ⟨_, rfl, ?_⟩⟩
    refine ⟨_, rfl, .inl ⟨_, rfl, _, _, rfl, rfl, (by show (0 : Int) < 40013; decide), _, _, rfl, rfl, ?_⟩⟩
    have m0 := Int.emod_nonneg w0 (show (40013 : Int) ≠ 0 by decide)
    have m1 := Int.emod_lt_of_pos w0 (show (0 : Int) < 40013 by decide)
    refine ⟨_, rfl, _, rfl, _, _, rfl, rfl, .inr ⟨by show -(2 ^ 64 : Int) < w0 % 40013 + 20021; omega, by show w0 % 40013 + 20021 < 2 ^ 64; omega⟩, _, rfl, p, _, _, _, rfl, rfl, SqL.of (hp1 _), atI_nat (j := 2) rfl, _, _, rfl, rfl, .inl ⟨by decide, by decide⟩, _, _, rfl, rfl, _, _, rfl, rfl, .inl ⟨_, rfl, _, _, rfl, rfl, (by show (0 : Int) < 2147483399; decide), _, rfl, p, _, _, 0, rfl, rfl, hp1 _, rfl, ?_⟩⟩
    rw [upd_upd]
    have e0 : ∀ z : Int, 0 ≤ z % 2147483399 := fun z => Int.emod_nonneg _ (by decide)
    refine ⟨_, rfl, p, _, _, _, rfl, rfl, SqL.of (hp1 _), atI_nat (j := 1) rfl, _, _, rfl, rfl, _, rfl, ite2 (fun c => ?_) (fun c => ?_)⟩
    · have c' : (0 : Int) < w1 := of_decide_eq_true c
      refine ⟨_, rfl, p, _, _, _, rfl, rfl, SqL.of (hp1 _), atI_nat (j := 1) rfl, _, rfl, _, _, rfl, ⟨by omega, by omega⟩, fun t ht => ?_⟩
      have nt : t ≠ p := (ne_of_none (hp1 _) ht).symm
      refine ⟨t, _, rfl, SqT.of upd_same, rfl, _, _, rfl, _, rfl, p, _, _, 1, rfl, rfl, by rw [upd_ne nt.symm]; exact hp1 _, rfl, _, _, rfl, rfl, _, rfl, ?_⟩
      have ed : w1 % n = w1 % n := rfl
      refine k _ _ (Int.emod_nonneg _ (by omega)) (Int.emod_lt_of_pos _ n0) (fun b u nb e => ?_) ⟨_, _, _, e0 _, Int.ediv_nonneg h1 (by omega), upd_same⟩
      have nbt : b ≠ t := ne_of_none (show upd H p _ b = some u by rw [upd_ne nb]; exact e) ht
      rw [upd_ne nb, upd_ne nbt, upd_ne nb]
      exact e
    · refine ⟨_, rfl, p, _, _, _, rfl, rfl, SqL.of (hp1 _), atI_nat (j := 0) rfl, .inl ⟨_, rfl, _, _, rfl, rfl, ⟨by decide, by decide⟩, _, rfl, _, _, rfl, rfl, (by show n ≠ 0; omega), ?_⟩⟩
      exact k _ _ (Int.fmod_nonneg_of_pos _ n0) (Int.fmod_lt_of_pos _ n0) Sb.upd_ ⟨_, _, _, e0 _, h1, upd_same⟩
end
end My
namespace My
open PySem PySem.Spec PyProof.Rows L2
theorem ShAll.get {K : PySem.W.Frag} {H : Hp} : ∀ {xs : List V} {ds : List PyData} {i : Nat} {v : V}, ShAll K H xs ds → xs[i]? = some v → ∃ d, d ∈ ds ∧ Sh K H v d
  | _, _, _, _, .nil, e => by simp at e
  | _, _, 0, _, .cons r _, e => by simp at e; subst e; exact ⟨_, List.mem_cons_self .., r⟩
  | _, _, i + 1, v, .cons _ t, e => by
    obtain ⟨d, h1, h2⟩ := ShAll.get (i := i) (v := v) t (by simpa using e)
    exact ⟨d, List.mem_cons_of_mem _ h1, h2⟩
theorem delk {H : Hp} {p t : Addr} {o u : HO} (e : H t = some u) (h : t ≠ p) : del (upd H p o) p t = some u := by
  rw [del_ne h, upd_ne h]
  exact e
theorem same_del_upd {H : Hp} {p : Addr} {o : HO} : Same (del H p) (del (upd H p o) p) := fun b u e => by
  by_cases hb : b = p
  · rw [hb, del_same] at e; cases e
  · rw [del_ne hb] at e ⊢
    rw [upd_ne hb]; exact e
end My
namespace L2
open PySem PySem.Spec PyProof.Rows PySem.GX HotX
/-! lists walked and unpacked while an exception is handled -/
section
variable {prog : Program} {w : World} {A : Around} {Er : Value → Shared → Prop} {s : Shared}
theorem hot_ne {x it l : Addr} {i : Nat} {h : Heap} (hot : HotAt A x h) (hit : h.IsListIter it l i) : x ≠ it := fun z => by
  obtain ⟨_, o, vs, e, d, c⟩ := hot
  obtain ⟨o', e', _, d'⟩ := hit
  rw [z, e'] at e
  cases e
  rw [d'] at d
  cases d
  simp at c
theorem next_end_hot {it l x : Addr} {i : Nat} {items : Array Value} {Q : Option Value → Shared → Prop} (hot : HotAt A x s.heap) (hit : s.heap.IsListIter it l i) (hl : s.heap.IsList l items) (none_ : items[i]? = none)
    (k : ∀ h', Heap.ExtBut it s.heap h' → Q none { s with heap := h' }) : wpAny (model prog w) A (pyNext (.ref it)) Q Er s := by
  have ne := hot_ne hot hit
  obtain ⟨oi, ei, ci, di⟩ := id hit
  obtain ⟨ol, el, _, nl, dl⟩ := hl
  obtain ⟨hh, o1, vs1, h1, d1, c1⟩ := hot
  unfold pyNext
  refine wpAny_bind (wpAny_attempt (wpAny_callSpecial?_slot (name := Str.ofString "__next__") hit.typeIs slot_listiter_next (wpAny_call_entry slot_listiter_next hit.typeIs entry_listiter_next ?_ (args_listiter_next _))))
  show wpAny _ _ (field (.ref it) 0 >>= _) _ _ s
  refine wpAny_bind (wpAny_field ei di (x := .ref l) rfl ?_)
  show wpAny _ _ (if (Value.ref l == Value.none) = true then _ else _) _ _ s
  rw [if_neg (show ¬ ((Value.ref l == Value.none) = true) from Bool.false_ne_true)]
  show wpAny _ _ (field (.ref it) 1 >>= _) _ _ s
  refine wpAny_bind (wpAny_field ei di (x := .int i 0) rfl ?_)
  show wpAny _ _ (seqItems? (.ref l) >>= _) _ _ s
  refine wpAny_bind (wpAny_seqItems el dl ?_)
  simp only [Int.toNat_natCast, none_]
  refine wpAny_bind (wpAny_rule (wpAny_bind (wpAny_setField ei di (by simp) ?_)))
  show wpAny _ _ (newExc (.type "StopIteration") [] >>= _) _ _ _
  refine wpAny_bind ?_
  simp only [newExc, newTuple]
  refine wpAny_bind (wpAny_newObj_type ?_ (by size_fits))
  refine wpAny_bind (m := firstArgMember _ _) (wpAny_of_eq (a := Value.none) (by first | rfl | (simp only [firstArgMember]; rfl)) ?_)
  refine wpAny_newObj_type ?_ (by size_fits)
  have g1 := Heap.get?_push_of_some { cls := .type "tuple", data := .seq ([] : List Value).toArray } ((Heap.get?_update_other s.heap (Obj.mapFields (·.setIfInBounds 0 Value.none)) ne.symm).trans h1)
  refine raiseNew_hot ⟨hh, o1, vs1, Heap.get?_push_of_some _ g1, d1, c1⟩ (Nat.ne_of_lt (Heap.lt_size g1)) (Heap.get?_push_size _ rfl) rfl (by first | (simp; done) | (simp; omega) | (simp only [Array.size_append]; simp; omega)) ?_
  refine wpAny_bind (wpAny_isInstance (T := "StopIteration") (b := true) ⟨_, Heap.get?_update_self _ (Heap.get?_push_size _ rfl) rfl, rfl⟩ isSubtype_stop ?_)
  refine wpAny_pure (k _ fun b o nb e => ?_)
  have g2 := Heap.get?_push_of_some { cls := .type "tuple", data := .seq ([] : List Value).toArray } ((Heap.get?_update_other s.heap (Obj.mapFields (·.setIfInBounds 0 Value.none)) nb.symm).trans e)
  rw [Heap.get?_update_other _ _ (Nat.ne_of_gt (Heap.lt_size g2))]
  exact Heap.get?_push_of_some _ g2
end
end L2
namespace L2
open PySem PySem.Spec PyProof.Rows PySem.GX HotX
/-- the context X handles the exception p, which stands as it is -/
structure Hb (X : Cx) (p : Addr × Obj) : Prop where
  hh : X.A.handled = some (.ref p.1)
  ctx : ∃ vs : Array Value, p.2.data = .fields vs ∧ vs[2]? = some .none
  at_ : ∀ (pins : List (Addr × Obj)) (σ : St) (H : Hp) (s : Shared), Inv X pins σ H s → s.heap.get? p.1 = some p.2 ∧ H p.1 = none
section
variable {X : Cx} {p : Addr × Obj}
theorem Hb.hot (h : Hb X p) {pins : List (Addr × Obj)} {σ : St} {H : Hp} {s : Shared} (I : Inv X pins σ H s) : HotAt X.A p.1 s.heap := by
  obtain ⟨vs, d, c⟩ := h.ctx
  exact ⟨h.hh, p.2, vs, (h.at_ _ _ _ _ I).1, d, c⟩
theorem Hb.of_pn (h1 : X.A.handled = some (.ref p.1)) (h2 : ∃ vs : Array Value, p.2.data = .fields vs ∧ vs[2]? = some .none) (hp : p ∈ X.pn) : Hb X p :=
  ⟨h1, h2, fun pins σ H s I => let z := I.pin p (List.mem_append_left _ hp); ⟨z.1, z.2.1⟩⟩
end
section
variable {prog : Program} {w : World} {A : Around} {Er : Value → Shared → Prop} {s : Shared}
theorem items_hot {x l : Addr} {items : Array Value} {Q : List Value → Shared → Prop} (hot : HotAt A x s.heap) (hl : s.heap.IsList l items) (k : ∀ h', Heap.ExtBut s.heap.objs.size s.heap h' → Q items.toList { s with heap := h' }) :
    wpAny (model prog w) A (unpackItems (.ref l) items.size none) Q Er s := by
  have nl : l ≠ s.heap.objs.size := by
    obtain ⟨o, e, _⟩ := hl
    exact Nat.ne_of_lt (Heap.lt_size e)
  obtain ⟨hh, o1, vs1, h1, d1, c1⟩ := hot
  unfold unpackItems
  refine wpAny_bind ?_
  unfold notIterableAtAll
  refine wpAny_bind (wpAny_specialOf hl.typeIs slot_list_iter.lookup (wpAny_pure ?_))
  simp only [Bool.false_eq_true, if_false]
  refine wpAny_bind (wpAny_holding (wpAny_pyIter_list hl (wpAny_bind (wpAny_holding (PySem.W.kun_draw nl items.size 0 _ _ ⟨_, Heap.get?_push_size _ rfl, rfl, rfl⟩ (hl.push _) (by omega) fun ha ita sa => ?_)))))
  rw [show List.take items.size (List.drop 0 items.toList) = items.toList by rw [List.drop_zero]; exact List.take_of_length_le (by simp), if_neg (by simp)]
  have hot2 : HotAt A x ha := ⟨hh, o1, vs1, sa.extBut x _ (Nat.ne_of_lt (Heap.lt_size h1)) (Heap.get?_push_of_some _ h1), d1, c1⟩
  refine wpAny_bind (wpAny_holding (next_end_hot (s := { s with heap := ha }) hot2 ita ((hl.push _).extBut sa.extBut nl) (by simp) fun hb eb => ?_))
  simp only [Option.isSome_none, Bool.false_eq_true, if_false]
  exact wpAny_pure (k hb fun b o nb e => eb b o nb (sa.extBut b o nb (Heap.get?_push_of_some _ e)))
end
section
variable {X : Cx} {p : Addr × Obj} {pos : Pos}
/-- (a, b, ..) = a list, while p is handled -/
theorem pg_unlE {K : PySem.W.Frag} (eK : X.K = K) {es : List Expr} {k : Nat} {t : TGs} {n : Nat} (hb : Hb X p) (h : PGs X es t) (hn : (assignEach es X.env).length = n := by rfl) (hst : (assignEach es X.env).findIdx? (·.1) = none := by rfl) : PG X (.Tuple es k pos) (gUnl K n t) := by
  subst eK
  refine ⟨fun pl s σ H v u Q I r ⟨a, xs, ev, hq, hl, hw⟩ => ?_⟩
  subst ev
  cases r
  obtain ⟨its, rv, ls, hz⟩ := I.list hq
  obtain ⟨o, m, e, c, d, q⟩ := ls
  have isL : s.heap.IsList a its.toArray := ⟨o, e, c, m, q⟩
  have en : (assignEach es X.env).length = its.toArray.size := hn.trans (hl.symm.trans (rv.length.trans (by simp)))
  rw [PyProof.Rows.assign_Tuple]
  refine wpAny_bind (wpAny_standAt ?_)
  unfold unpack
  rw [en, hst]
  refine wpAny_bind (wpAny_holding (items_hot (hb.hot I) isL fun h' hx => ?_))
  exact h.run pl _ σ H xs _ Q (I.kept (t' := s.toks) fun b o e => hx b o (Nat.ne_of_lt (Heap.lt_size e)) e) (by simpa using rv) hw
end
section
variable {X : Cx} {p : Addr × Obj} {pl : List (Addr × Obj)} {s : Shared} {σ : St} {H : Hp} {Q : VK} {elt tg iter : Expr} {ifs : List Expr} {scope : Scope} {own : List (Str × Nat)} {pos pos' : Pos} {ti : TE} {g : TG} {tt : TT} {te : TE} {use : Option (Value → Sem Unit)} {Qf : Value → Shared → Prop}
/-- [e for target in a list if ..], while p is handled -/
theorem lcE (hp : p ∈ X.pn) (hb : Hb X p) (hN : X.N.Nodup) (I : Inv X pl σ H s) (hi : PE X iter ti) (ok : BlkOk X.N X.env.scope scope own)
    (hg : ∀ (s : Shared) (H : Hp) (C : Addr) (cl : List (Str × Addr)) (fp : List Addr), Hb (X.blk s H scope (compEnvC scope cl C X.env) fp) p → PG (X.blk s H scope (compEnvC scope cl C X.env) fp) tg g)
    (ht : ∀ (s : Shared) (H : Hp) (C : Addr) (cl : List (Str × Addr)) (fp : List Addr), PTs (X.blk s H scope (compEnvC scope cl C X.env) fp) ifs tt)
    (he : ∀ (s : Shared) (H : Hp) (C : Addr) (cl : List (Str × Addr)) (fp : List Addr), PE (X.blk s H scope (compEnvC scope cl C X.env) fp) elt te) (hs : ∀ x, foldedSetIterable iter X.env x = pure x)
    (want : tLc (iList X.K ti) g tt te (own.map (·.2)) σ H Q)
    (fin : ∀ D C s' m H', Inv X pl σ H' s' → Q (.ref D) H' → s'.heap.Ns C m → FpOk X pl H' C → compPost (model X.prog X.w) X.A X.xe use Qf (.ref D) C (.ok .next) s') :
    wpAny (model X.prog X.w) X.A (comprehension (.ListComp elt [⟨tg, iter, ifs, 0⟩] scope pos) scope X.env pos' (newList []) false (eval iter X.env) use) Qf X.xe s := by
  have frees : ∀ y ∈ scope.names, y.2 = .free → ∃ c, X.env.cells.lookup y.1 = some c := fun y hy e => by
    rcases ok.free y hy e with k | k
    · exact I.ok.has _ (.inl k)
    · exact I.ok.has _ (.inr k)
  refine wpAny_comprehension_free (use := use) rfl hs (closure_ok frees) ok.kind (fun y hy e => by rw [ok.uniq y hy, e]) (thn (hi.run pl s σ H _ I want) fun _ sa ⟨va, Ha, Ia, ra, a, ea, ⟨xs, hq⟩, wishes⟩ => ?_)
  subst ea
  cases ra
  obtain ⟨its, rv, ls, hz⟩ := Ia.list hq
  refine wpAny_pyIter_list ls.isList (wpAny_newObj_type (newEnv_comp ?_) (by show 0 ≤ sizeLine; decide))
  generalize eit : sa.heap.objs.size = it
  generalize esb : ({ sa with heap := sa.heap.push { cls := .type "list_iterator", data := .fields #[.ref a, .int 0 0] } } : Shared) = sb
  have hsb : sb.heap = sa.heap.push { cls := .type "list_iterator", data := .fields #[.ref a, .int 0 0] } := by rw [← esb]
  have Ib : Inv X pl σ Ha sb := by
    rw [← esb]
    exact Ia.kept (t' := sa.toks) fun b o e => Heap.get?_push_of_some _ e
  have itb : sb.heap.IsListIter it a 0 := by
    rw [hsb, ← eit]
    exact ⟨_, Heap.get?_push_size _ rfl, rfl, rfl⟩
  have okit : FpOk X pl Ha it := Ia.fpOk (Nat.le_of_eq eit) (Ia.hok.fresh (Nat.le_of_eq eit))
  generalize eD : sb.heap.objs.size = D
  have freeD : Ha D = none := Ib.hok.fresh (Nat.le_of_eq eD)
  obtain ⟨W, ⟨m0, begins⟩, turn⟩ := wishes D freeD
  generalize esc : ({ sb with heap := sb.heap.push { cls := .type "list", data := .seq ([] : List Value).toArray } } : Shared) = sc
  have hsc : sc.heap = sb.heap.push { cls := .type "list", data := .seq ([] : List Value).toArray } := by rw [← esc]
  have Ic : Inv X pl σ (upd Ha D (.lst [])) sc := by
    rw [← esc]
    refine Ib.laid (t' := sb.toks) (fun b o e => Heap.get?_push_of_some _ e) (Nat.le_of_eq eD) ⟨Nat.zero_le _, [], 0, .nil, ?_⟩
    rw [← eD]
    exact Heap.get?_push_size _ rfl
  have itlt : it < sb.heap.objs.size := by
    obtain ⟨o, e, _⟩ := itb
    exact Heap.lt_size e
  have okc : ∀ b ∈ [it], FpOk X pl (upd Ha D (.lst [])) b ∧ b < sc.heap.objs.size := fun b hb => by
    obtain rfl : b = it := by simpa using hb
    refine ⟨⟨?_, okit.2⟩, ?_⟩
    · rw [upd_ne (by rw [← eD]; exact Nat.ne_of_lt itlt)]
      exact okit.1
    · rw [hsc, Heap.size_push]
      exact Nat.lt_succ_of_lt itlt
  have itc : sc.heap.IsListIter it a 0 := itb.at fun o e => by
    rw [hsc]
    exact Heap.get?_push_of_some _ e
  have Id := block_start Ic ok hN okc
  have pc := hb.at_ _ _ _ _ Ic
  have pz := Ic.pin p (List.mem_append_left _ hp)
  have nit : p.1 ≠ it := okit.2.2.2.2.2 p (List.mem_append_left _ hp)
  -- the block bears the handled exception
  have hbb : Hb (X.blk sc (upd Ha D (.lst [])) scope (compEnvC scope (cellsFrom (sc.heap.objs.size + 1) scope.names (cloFrom X.env.cells scope.names [])) sc.heap.objs.size X.env) [it]) p := by
    refine ⟨hb.hh, hb.ctx, fun pins' σ' H' s' I' => ?_⟩
    have nfs : p.1 ∉ frs X.stack := fun m => by
      rcases Ic.ok.stk with z | ⟨z, zf⟩
      · rw [z] at m
        exact pz.2.2.2.1 m
      · rw [z] at m
        unfold frs at m
        rw [List.filterMap_cons, zf] at m
        rcases List.mem_cons.mp m with m | m
        · exact pz.2.2.1 m
        · exact pz.2.2.2.1 m
    have nex : p.1 ∉ [it] := fun z => nit (by simpa using z)
    exact ⟨I'.base.keep p.1 p.2 pc.1 pc.2 nfs nex, I'.base.free p.1 p.2 pc.1 pc.2 nex⟩
  have g1 := hg sc (upd Ha D (.lst [])) sc.heap.objs.size (cellsFrom (sc.heap.objs.size + 1) scope.names (cloFrom X.env.cells scope.names [])) [it] hbb
  have g2 := ht sc (upd Ha D (.lst [])) sc.heap.objs.size (cellsFrom (sc.heap.objs.size + 1) scope.names (cloFrom X.env.cells scope.names [])) [it]
  have g3 := he sc (upd Ha D (.lst [])) sc.heap.objs.size (cellsFrom (sc.heap.objs.size + 1) scope.names (cloFrom X.env.cells scope.names [])) [it]
  show codeAny _ _ (.compStart (.ListComp elt [⟨tg, iter, ifs, 0⟩] scope pos) 0 (.ref it) (.ref D) (compEnvC scope (cellsFrom (sc.heap.objs.size + 1) scope.names (cloFrom X.env.cells scope.names [])) sc.heap.objs.size X.env)) _
    { sc with heap := pushCells (sc.heap.push { cls := .type "dict", data := .dict #[] }) scope.names }
  have hid : (upd Ha D (.lst [])) it = none := (okc it (by simp)).1.1
  generalize eenv : compEnvC scope (cellsFrom (sc.heap.objs.size + 1) scope.names (cloFrom X.env.cells scope.names [])) sc.heap.objs.size X.env = env at Id g1 g2 g3 hbb ⊢
  have eloc : env.locals = sc.heap.objs.size := by subst eenv; rfl
  generalize eHc : upd Ha D (.lst []) = Hc at Ic Id g1 g2 g3 begins hid okc hbb
  generalize esd : ({ sc with heap := pushCells (sc.heap.push { cls := .type "dict", data := .dict #[] }) scope.names } : Shared) = sd at Id ⊢
  have itd : sd.heap.IsListIter it a 0 := itc.at fun o e => by
    rw [← esd]
    exact pushCells_keeps _ _ _ _ (Heap.get?_push_of_some _ e)
  have fpOk : ∀ {σ' : St} {H' : Hp} {s' : Shared}, Inv (X.blk sc Hc scope env [it]) [] σ' H' s' → H' it = none → FpOk (X.blk sc Hc scope env [it]) [] H' it := fun {σ' H' s'} I' free => by
    refine ⟨free, (I'.ok.exf it (by simp)).1, I'.ok.exfs it (by simp), .inl (by simp), fun x c e => (I'.ok.exf it (by simp)).2 x c e, fun q hq => ?_⟩
    exact absurd (show q ∈ ([] : List (Addr × Obj)) ++ [] from hq) (by simp)
  have lp : codeAny (model X.prog X.w) X.A (.compLoop (.ListComp elt [⟨tg, iter, ifs, 0⟩] scope pos) 0 (.ref it) (.ref D) env) (compPost (model X.prog X.w) X.A X.xe use Qf (.ref D) sc.heap.objs.size) sd := by
    refine compLoop_any (fun n s' => ∃ i H', Inv (X.blk sc Hc scope env [it]) [] (wipe σ (own.map (·.2))) H' s' ∧ s'.heap.IsListIter it a i ∧ H' it = none ∧ W i n H') ?_ m0 ⟨0, Hc, Id, itd, hid, begins⟩
    rintro n se ⟨i, He, Ie, ie, free, at_⟩
    obtain ⟨f0, f1, f2, f3, f4, f5⟩ := fpOk Ie free
    rcases turn i n He at_ with ⟨⟨ys, hy, hle⟩, wish⟩ | ⟨⟨ys, x0, hy, hx0⟩, On, next, step⟩
    · obtain ⟨jts, rj, lj, hj⟩ := Ie.list hy
      have hlen := rj.length
      refine next_end_hot (hbb.hot Ie) ie lj.isList (by simp; omega) fun h' eb => ?_
      have If : Inv (X.blk sc Hc scope env [it]) [] (wipe σ (own.map (·.2))) He { se with heap := h' } := Ie.turned (t' := se.toks) (fun b o hb e => eb b o hb e) f0 f1 f3 f4 f5
      have back : Inv X pl σ He { se with heap := h' } := Ic.call' (ch := [it]) If.os If.base If.hok If.bare fun b hb => ⟨(okc b hb).1.2.2.2.1, (okc b hb).1.2.1, (okc b hb).1.2.2.2.2.1, (okc b hb).1.2.2.2.2.2⟩
      have noC : He sc.heap.objs.size = none := by
        have z : He env.locals = none := If.free
        rw [eloc] at z
        exact z
      obtain ⟨m, hn, _⟩ := If.loc
      have hn' : h'.Ns env.locals m := hn
      rw [eloc] at hn'
      exact fin D sc.heap.objs.size _ m He back wish hn' (Ic.fpOk (Nat.le_refl _) noC)
    · obtain ⟨jts, rj, lj, hj⟩ := Ie.list hy
      obtain ⟨u, hu, ru⟩ := rj.get hx0
      refine wpAny_pyNext_list_item ie lj.isList (x := u) (by simpa using hu) fun h' ie' sb' => ?_
      have Ig : Inv (X.blk sc Hc scope env [it]) [] (wipe σ (own.map (·.2))) He { se with heap := h' } := Ie.turned (t' := se.toks) (fun b o hb e => (sb'.2 b hb).trans e) f0 f1 f3 f4 f5
      obtain ⟨oi, ei, ci, di⟩ := id ie'
      refine go_of (s := { se with heap := h' }) ei ci di (by decide) ?_
      have pinned := Ig.pinned (fp := [it]) (fun b hb => by
        obtain rfl : b = it := by simpa using hb
        exact fpOk Ig free) (fun b hb => by
        obtain rfl : b = it := by simpa using hb
        exact ⟨oi, ei, fun v z => by rw [di] at z; cases z⟩)
      refine thnF (g1.run _ { se with heap := h' } _ He x0 u _ pinned ru (step x0 He ⟨rfl, fun zs hz => by rw [Ie.list_inj hz hy]; exact hx0⟩)) fun _ sh ⟨σh, Hh, Ih, wh, qh⟩ => ?_
      refine thnF (g2.run _ sh σh Hh _ Ih qh) fun b si ⟨Hi, Ii, qi⟩ => ?_
      have ends : ∀ {s' : Shared} {H' : Hp}, Inv (X.blk sc Hc scope env [it]) ([] ++ pinsAt [it] h') σh H' s' → On H' →
          ∃ m, m < n ∧ ∃ i H', Inv (X.blk sc Hc scope env [it]) [] (wipe σ (own.map (·.2))) H' s' ∧ s'.heap.IsListIter it a i ∧ H' it = none ∧ W i m H' := fun {s' H'} I' on => by
        obtain ⟨m', lt, at'⟩ := next H' on
        have z := I'.pin (it, oi) (List.mem_append_right _ (List.mem_append_right _ (mem_pinsAt (by simp) ei)))
        have len : (wipe σ (own.map (·.2))).length = σh.length := by
          rw [← wh, wipe_length]
        refine ⟨m', lt, i + 1, H', (I'.unpinned (pins := [])).weak len (fun j y e => ?_), ⟨oi, z.1, ci, di⟩, z.2.1, at'⟩
        rw [← wh] at e
        exact (wipe_some e).1
      cases b with
      | false =>
        simp only [Bool.false_eq_true, if_false] at qi ⊢
        exact ends Ii qi
      | true =>
        simp only [if_true] at qi ⊢
        refine thnF (g3.run _ si σh Hi _ Ii qi) fun _ sj ⟨yv, Hj, Ij, rj', acc, eDj, few, on⟩ => ?_
        exact app_ok (X := X.blk sc Hc scope env [it]) Ij eDj few rj' fun _ Il => ends Il on
  exact codeAny_compStart_list lp (wpAny_pyIter_listiter itd lp)
/-- name = [..] on one line, while p is handled -/
theorem ps_setLcE {i : Nat} {y : Str} {py spos : Pos} (hp : p ∈ X.pn) (hb : Hb X p) (hN : X.N.Nodup) (hy : X.N[i]? = some y) (hyl : X.env.scope.names.lookup y = some .local) (hsw : swapsWith (.ListComp elt [⟨tg, iter, ifs, 0⟩] scope pos) (some (.Name y py)) spos.line X.env = pure true)
    (hi : PE X iter ti) (ok : BlkOk X.N X.env.scope scope own)
    (hg : ∀ (s : Shared) (H : Hp) (C : Addr) (cl : List (Str × Addr)) (fp : List Addr), Hb (X.blk s H scope (compEnvC scope cl C X.env) fp) p → PG (X.blk s H scope (compEnvC scope cl C X.env) fp) tg g)
    (ht : ∀ (s : Shared) (H : Hp) (C : Addr) (cl : List (Str × Addr)) (fp : List Addr), PTs (X.blk s H scope (compEnvC scope cl C X.env) fp) ifs tt)
    (he : ∀ (s : Shared) (H : Hp) (C : Addr) (cl : List (Str × Addr)) (fp : List Addr), PE (X.blk s H scope (compEnvC scope cl C X.env) fp) elt te) (hs : ∀ x, foldedSetIterable iter X.env x = pure x := by intro _; rfl) :
    PS X (.Assign [.Name y py] (.ListComp elt [⟨tg, iter, ifs, 0⟩] scope pos) spos) (tAsg (tLc (iList X.K ti) g tt te (own.map (·.2))) (gName i)) := by
  refine ⟨fun pl s σ H D I want => ?_⟩
  rw [exec_Assign_Name_used _ _ _ _ hsw]
  refine wpAny_bind (wpAny_standAt (wpAny_bind (wpAny_bind (thn (lcE (Qf := fun _ s' => SP X pl D .next s') hp hb hN I hi ok hg ht he hs (show tLc (iList X.K ti) g tt te (own.map (·.2)) σ H (fun x H1 => gName i x σ H1 D.nx) from want) fun L C s' m H' I' q hn f => ?_) fun _ s' hq => wpAny_pure (wpAny_pure hq)))))
  obtain ⟨f0, f1, f2, f3, f4, f5⟩ := f
  refine wpAny_assign_Name (store_ok2 (v := V.ref L) I' hN hy (.inl hyl) rfl (fun sx Ix ⟨a, sb, ha⟩ => ⟨m, hn.sameBut sb ?_, fun hx sbx => ⟨_, H', Ix.turned (t' := sx.toks) (fun b o hb e => (sbx.2 b hb).trans e) f0 f1 f3 f4 f5, q⟩⟩) (.inr hyl))
  rcases ha with z | z
  · rw [z]
    exact f1
  · exact fun e => f4 y a z e.symm
end
end L2
namespace L2
open PySem PySem.Spec PyProof.Rows PySem.GX HotX L2H
/-- what a def promises where p is handled: sp may speak of p -/
structure FnE (p : Addr × Obj) (P : Program) (w : World) (K : PySem.W.Frag) (mg : Str → Option Value) (base : Heap) (k : Nat) (f : Addr) (fd : FuncData) (ps : List Str) (sp : Sp) : Prop where
  len : ∀ vs H Q E, sp vs H Q E → vs.length = ps.length
  run : ∀ (A : Around) (outer : List Env) (s : Shared) (H : Hp) (args : Args) (us : List Value) (vs : List V) (Q : VK) (E : XK), RoomH k A → Hot1 A p → PinOk outer H s p → Env0 P w K mg base A outer s H → BindsTo s fd args (ps.zip us) → Vals vs us → sp vs H Q E →
    codeAny (model P w) A (.call (.ref f) args) (CR CX0 outer P w H s Q E) s
section
variable {P : Program} {w : World} {K : PySem.W.Frag} {mg : Str → Option Value} {base : Heap} {p : Addr × Obj}
theorem Fun.okE {x qual : Str} {st : Stmt} {f : Addr} {fd : FuncData} {N ps : List Str} {k : Nat} {sp : Sp} (F : Fun K x qual st f fd) (S : FnScope N ps (defScope st)) (len : ∀ vs H Q E, sp vs H Q E → vs.length = ps.length)
    (hbody : ∀ (cdv : Value) (A : Around) (outer : List Env) (s : Shared) (H : Hp) (vs : List V) (Q : VK) (E : XK), Hot1 A p → RoomH k (A.deeper (envOfC qual (defScope st) s.heap.objs.size f cdv)) → sp vs H Q E →
      ∃ t, PSs (cxH CX0 P w K mg base N qual (defScope st) f cdv A outer s H E p) (defBody st) t ∧ t { nx := fun _ H' => Q .non H', rt := Q } (start N vs) H) : FnE p P w K mg base (k + 1) f fd ps sp := by
  obtain ⟨oc, od, kV, doc, pm, an, cdv, ct, osl, rfl, lk, hcd⟩ := F.ex
  refine ⟨len, fun A outer s H args us vs Q E hr hot hpin e0 hb r want => ?_⟩
  have kin : K.In s.heap := e0.mod.kin.keeps fun b o e => (e0.bs b o e).1
  have kinds : ∀ y ∈ ps.zip us, (defScope st).names.lookup y.1 = some .local ∨ ((defScope st).names.lookup y.1 = some .cell ∧ ((cellsFrom (s.heap.objs.size + 1) (defScope st).names []).lookup y.1).isSome = true) := fun ⟨n, v⟩ hy => by
    rcases S.par n (List.of_mem_zip hy).1 with q | q
    · exact .inl q
    · exact .inr ⟨q, PySem.W.cellsFrom_some _ _ _ (.inl q)⟩
  refine codeAny_call_function hr.depth (kin _ _ lk) rfl S.co S.gen rfl (PySem.W.codeRec_of kin hcd) (hb _ _ _ _ (wpAny_newFunctionEnv_cells S.kind kinds fun env he s1 x => ?_))
  subst he
  refine ⟨(e0.mod.nolimit.keeps fun b o e => (e0.bs b o e).1).keeps x.toInCall.keep, codeAny_func ?_⟩
  obtain ⟨t, ht, hq⟩ := hbody cdv A outer s H vs Q E hot (hr.deeper _) want
  refine wpAny_mono (ht.run [] s1 (start N vs) H _ (inv_startH S hpin e0 (len _ _ _ _ want) r x) hq) (fun fl s' hs => ?_) fun e s' hs => hs
  cases fl with
  | ret u =>
    obtain ⟨v, σ', H', J, rv, q⟩ := hs
    exact ⟨v, H', J.os, J.bare, J.base, J.hok, rv, q⟩
  | next =>
    obtain ⟨σ', H', J, q⟩ := hs
    exact ⟨V.non, H', J.os, J.bare, J.base, J.hok, rfl, q⟩
  | brk =>
    obtain ⟨_, _, _, q⟩ := hs
    exact False.elim q
  | cont =>
    obtain ⟨_, _, _, q⟩ := hs
    exact False.elim q
end
def tCallE (sp : Sp) (t : TA) : TE := fun σ H Q => t σ H fun vs H1 => sp vs H1 Q fun _ _ _ => False
section
variable {X : Cx} {p : Addr × Obj} {k : Nat} {f : Addr} {fd : FuncData} {ps : List Str} {sp : Sp} {x : Str} {pp pos : Pos} {e : Expr} {es : List Expr} {t : TA}
theorem pe_callE (F : FnE p X.prog X.w X.K X.mg X.base k f fd ps sp) (hr : RoomH k X.A) (hot : Hot1 X.A p) (hp : p ∈ X.pn) (hg : Gl X x) (hm : X.mg x = some (.ref f)) (hk : PySem.W.keepIn X.K (.ref f) = true) (hb : Binds X.K fd ps [])
    (ha : PA X (e :: es) t) (hdb : (x == ("__debug__" : Str)) = false := by decide) (he : starEach (e :: es) X.env = (false, eval e X.env) :: starEach es X.env := by rfl) (hpl : (backTo pos (starEach es X.env)).any (·.1) = false := by rfl) :
    PE X (.Call (.Name x pp) (e :: es) [] pos) (tCallE sp t) := by
  refine ⟨fun pl s σ H Q I want => wpAny_Call_Name_kw (ld_glob I hg hm (PySem.W.callWith_K (h₀ := X.base) I.ok.mod.kin hk (thn (ha.run pos pl s σ H _ I want) fun us s1 ⟨vs, H1, I1, r, q⟩ => ⟨I1.kIn, ?_⟩) he hpl) hdb)⟩
  have hl : us.length = ps.length := by
    rw [← r.length]
    exact F.len _ _ _ _ q
  have b := hb s1 us I1.kIn (by rw [List.append_nil]; exact hl)
  rw [List.append_nil] at b
  have z := I1.pin p (List.mem_append_left _ hp)
  have pin : PinOk X.stack H1 s1 p := ⟨z.1, z.2.1, fun m => (List.mem_cons.mp (I1.stkSub p.1 m)).elim z.2.2.1 z.2.2.2.1, z.2.2.2.2⟩
  refine wpAny_call (codeAny_mono (F.run X.A X.stack s1 H1 ⟨us, []⟩ us vs Q _ hr hot pin I1.env0 b r q) fun r s' hq => ?_)
  cases r with
  | error e => exact False.elim hq
  | ok fl =>
    cases fl with
    | ret u => exact I1.after hq
    | next => exact False.elim hq
    | brk => exact False.elim hq
    | cont => exact False.elim hq
end
end L2
namespace L2
open PySem PySem.Spec PyProof.Rows PySem.GX HotX L2H
/-- p is an exception of the class at C, its dict at d -/
structure PIs (p : Addr × Obj) (C d : Addr) : Prop where
  cl : p.2.cls = .ref C
  di : p.2.dict = some d
section
variable {X : Cx} {p : Addr × Obj} {C d : Addr} {pins : List (Addr × Obj)} {σ : St} {H : Hp} {s : Shared} {fs : List (Str × V)}
theorem inst_p (hb : Hb X p) (hp : PIs p C d) (I : Inv X pins σ H s) (hd : H d = some (exd d fs)) : ∃ o : Obj, PySem.W.InstAt s.heap p.1 p.2 C (some o) := by
  obtain ⟨mA, ⟨o, es, ep, h1, h2⟩, _⟩ := exd_at I.hok hd
  obtain ⟨vs, dv, _⟩ := hb.ctx
  refine ⟨o, ⟨(hb.at_ _ _ _ _ I).1, hp.cl, ?_, ?_⟩⟩
  · unfold PySem.W.notCls
    rw [dv]
  · rw [hp.di]
    exact h1
end
/-- isinstance(e, c), e the exception p that is handled -/
def rIsP (p : Addr × Obj) (C d : Addr) (K : PySem.W.Frag) : List V → Hp → VK → Prop := fun xs H Q => ∃ (c : V) (u : Value) (b : Bool) (fs : List (Str × V)), xs = [.ref p.1, c] ∧ H d = some (exd d fs) ∧ ClsV c u ∧ PySem.W.kitOne K (.ref C) u = some b ∧ Q (.bl b) H
theorem call_isP {X : Cx} {p : Addr × Obj} {C d : Addr} (hb : Hb X p) (hp : PIs p C d) (T : ExcC X.K C) : CallR X (.builtin "isinstance") (rIsP p C d X.K) := by
  intro pl s σ H xs us Q I r ⟨c, u, b, fs, ex, hd, k, ek, q⟩
  subst ex
  obtain ⟨u1, u2, rfl, r1, r2⟩ := vals2 r
  have z := k.eq r2
  subst z
  obtain rfl : u1 = Value.ref p.1 := r1
  obtain ⟨o, J⟩ := inst_p hb hp I hd
  exact PySem.W.kia_one (kitG T) I.kIn J ek (fun z => nomatch z) fun tk => ⟨.bl b, H, I.tok tk, rfl, q⟩
/-- e.f, e the exception p that is handled -/
def tXfP (p : Addr × Obj) (C d : Addr) (K : PySem.W.Frag) (f : Str) (te : TE) : TE := fun σ H Q => te σ H fun x H1 => ∃ (fs : List (Str × V)) (v : V), x = .ref p.1 ∧ H1 d = some (exd d fs) ∧ PySem.W.findIn K (.ref C) f = some none ∧ fs.lookup f = some v ∧ Q v H1
theorem pe_xfP {X : Cx} {p : Addr × Obj} {C d : Addr} {e : Expr} {te : TE} {f : Str} {pos : Pos} (hb : Hb X p) (hp : PIs p C d) (T : ExcC X.K C) (he : PE X e te) (ha : attributeBase e f X.env (eval e X.env) = eval e X.env := by rfl) : PE X (.Attribute e f pos) (tXfP p C d X.K f te) := by
  refine ⟨fun pl s σ H Q I want => attr_of ha (thn (he.run pl s σ H _ I want) fun u s1 ⟨x, H1, I1, rx, fs, v, ex, hd, no, l, q⟩ => ?_)⟩
  subst ex
  obtain rfl : u = Value.ref p.1 := rx
  obtain ⟨mA, hns, rel⟩ := exd_at I1.hok hd
  obtain ⟨od, hod, hl⟩ := lookIn_ns hns
  obtain ⟨u, hu, ru⟩ := RelO.some_of (v := v) (o := mA f) (by rw [← l]; exact rel f)
  obtain ⟨vs, dv, _⟩ := hb.ctx
  have J : PySem.W.InstAt s1.heap p.1 p.2 C (some od) := ⟨(hb.at_ _ _ _ _ I1).1, hp.cl, by unfold PySem.W.notCls; rw [dv], by rw [hp.di]; exact hod⟩
  exact HandSPX.exc_get I1.kIn J T.hg T.hk T.hs (PySem.W.findObj_own T.hd no rfl (by rw [hl, hu])) (handed_of ru) ⟨v, H1, I1.tok _, ru, q⟩
end L2
namespace L2
open PySem PySem.Spec PyProof.Rows PySem.GX HotX L2H
theorem PE_imp {X : Cx} {e : Expr} {t t' : TE} (h : PE X e t) (m : ∀ σ H Q, t' σ H Q → t σ H Q) : PE X e t' := ⟨fun pins s σ H Q I q => h.run pins s σ H Q I (m σ H Q q)⟩
/-- __init__ with one field -/
def spI1 (C : Addr) (f : Str) : Sp := fun vs H Q _ => ∃ (a : Addr) (v : V), vs = [.ref a, v] ∧ H a = some (exo a C none) ∧
  ∀ d, H d = none → d ≠ a → Q .non (upd (upd H d (exd d [(f, v)])) a (exo a C (some d)))
/-- the class x at C, whose __init__ keeps its one argument as f -/
structure Mk1 (P : Program) (w : World) (K : PySem.W.Frag) (mg : Str → Option Value) (base : Heap) (x : Str) (C : Addr) (f : Str) : Prop where
  ex : ExG K C
  gC : mg x = some (.ref C)
  ini : ∃ (fI : Addr) (fd : FuncData), PySem.W.findIn K (.ref C) "__init__" = some (some (.ref fI)) ∧ PySem.W.typeIn K (.ref fI) = some (.type "function") ∧ FnOk P w K mg base CX0 1 fI fd ["self", f] (spI1 C f) ∧
    KBn K fd ["self", f] 2 [] (fun us _ => us) (fun vs _ => vs) ∧ KBn K fd ["self", f] 1 [f] (fun us ws => us ++ ws) (fun vs zs => vs ++ zs)
def tMk1 (C : Addr) (f : Str) (ta : TA) : TE := fun σ H Q => ta σ H fun vs H1 => ∃ v, vs = [v] ∧ ∀ (a d : Addr) (H2 : Hp), H1 a = none → d ≠ a → Same H1 H2 → ExAt H2 a C d [(f, v)] → Q (.ref a) H2
/-- the heap behind the making -/
theorem mk1_heap {H : Hp} {a d C : Addr} {f : Str} {v : V} (ha : H a = none) (hd : upd H a (exo a C none) d = none) (ne : d ≠ a) :
    Same H (upd (upd (upd H a (exo a C none)) d (exd d [(f, v)])) a (exo a C (some d))) ∧ ExAt (upd (upd (upd H a (exo a C none)) d (exd d [(f, v)])) a (exo a C (some d))) a C d [(f, v)] := by
  refine ⟨fun b o e => ?_, upd_same, by rw [upd_ne ne, upd_same]⟩
  have hd' : H d = none := by rw [upd_ne ne] at hd; exact hd
  rw [upd_ne (ne_of_none e ha), upd_ne (ne_of_none e hd'), upd_ne (ne_of_none e ha)]
  exact e
section
variable {X : Cx} {x f g : Str} {C : Addr} {e : Expr} {es : List Expr} {kws : List Keyword} {ta tk : TA} {p pos : Pos}
theorem pe_mk1 (M : Mk1 X.prog X.w X.K X.mg X.base x C f) (hr : Room 2 X.A) (hg : Gl X x) (ha : PA X (e :: es) ta)
    (hdb : (x == ("__debug__" : Str)) = false := by decide) (he : starEach (e :: es) X.env = (false, eval e X.env) :: starEach es X.env := by rfl) (hpl : (backTo pos (starEach es X.env)).any (·.1) = false := by rfl) :
    PE X (.Call (.Name x p) (e :: es) [] pos) (tMk1 C f ta) := by
  obtain ⟨fI, fd, iC, tI, F1, kb, _⟩ := M.ini
  refine ⟨fun pins s σ H Q I h => wpAny_Call_Name_kw (ld_glob I hg M.gC ?_ hdb)⟩
  refine PySem.W.callWith_K (h₀ := X.base) I.ok.mod.kin M.ex.kC (thn (ha.run pos pins s σ H _ I h) fun us s1 ⟨vs, H1, I1, r, v, ev, q⟩ => ⟨I1.kIn, ?_⟩) he hpl
  subst ev
  refine run_mkG (n := 1) (ks := []) (ws := []) (zs := []) M.ex iC tI F1 hr kb pass0 I1 r .nil rfl rfl (by show 1 ≤ 1000; decide) fun a na => ⟨a, v, rfl, upd_same, fun d nd ne => ⟨rfl, ?_⟩⟩
  obtain ⟨z1, z2⟩ := mk1_heap (f := f) (v := v) na nd ne
  exact q a d _ na ne z1 z2
theorem pe_mk1K (M : Mk1 X.prog X.w X.K X.mg X.base x C f) (hr : Room 2 X.A) (hg : Gl X x) (hkw : PK X kws tk)
    (hall : (backToKw pos (keywordEach kws X.env)).all (·.1.isSome) = true := by rfl) (hks : (backToKw pos (keywordEach kws X.env)).filterMap (·.1) = [f] := by rfl) (hdb : (x == ("__debug__" : Str)) = false := by decide)
    (hpl : ((backTo pos (starEach [] X.env)).any (·.1) || (backToKw pos (keywordEach kws X.env)).any (·.1.isNone)) = false := by rfl) :
    PE X (.Call (.Name x p) [] kws pos) (tMk1 C f tk) := by
  obtain ⟨fI, fd, iC, tI, F1, _, kb⟩ := M.ini
  refine ⟨fun pins s σ H Q I h => wpAny_Call_Name_kw (ld_glob I hg M.gC ?_ hdb)⟩
  refine PySem.W.callWith_KW0 (h₀ := X.base) I.ok.mod.kin M.ex.kC hall ?_ hpl
  refine thn (hkw.run pos pins s σ H _ I h) fun ws s2 ⟨zs, H1, I1, rz, v, ev, q⟩ => ⟨I1.kIn, ?_⟩
  subst ev
  rw [hks]
  refine run_mkG (n := 0) (ks := [f]) (us := []) (vs := []) M.ex iC tI F1 hr kb pass0 I1 .nil rz rfl rfl (by decide) fun a na => ⟨a, v, rfl, upd_same, fun d nd ne => ⟨rfl, ?_⟩⟩
  obtain ⟨z1, z2⟩ := mk1_heap (f := f) (v := v) na nd ne
  exact q a d _ na ne z1 z2
end

/-- an own exception with its dict, made and raised -/
theorem pmk_exo {X : Cx} {e : Expr} {te : TE} (hx : X.ex = []) (he : PE X e te) :
    L2N.PMk X e (fun σ H Q => te σ H fun x H1 => ∃ a C d, x = .ref a ∧ H1 a = some (exo a C (some d)) ∧ X.H_0 a = none ∧ Raises X (.ref C) ∧ Q (.ref C) (some d) (delH H1 a)) := by
  intro pl s σ H Q I want
  refine wpAny_mono (he.run pl s σ H _ I want) (fun u s1 ⟨v, H1, I1, r1, a, C, d, ev, ea, h0, hr, q⟩ => ?_) fun _ _ x => x
  subst ev
  cases r1
  obtain ⟨t1, ho⟩ := exo_at I1.hok ea
  obtain ⟨G, gs, ga, J⟩ := Inv.untrack I1 ea (fr0_none h0) hx
  exact ⟨a, _, _, { s1 with heap := G }, delH H1 a, .ref C, some d, rfl, J, gs, ga, ho, ⟨rfl, rfl, fun vs e => by cases e; rfl⟩, rfl, rfl, delH_same, rfl, I1.bare, hr, q⟩
/-- raise X(e): what leaves -/
def tRs1 (X : Cx) (C : Addr) (f : Str) (W : L2.WX) (ta : TA) : TS := fun _ σ H => tMk1 C f ta σ H fun x H1 => ∃ a C d, x = .ref a ∧ H1 a = some (exo a C (some d)) ∧ X.H_0 a = none ∧ Raises X (.ref C) ∧ W (.ref C) (some d) σ (delH H1 a)
section
variable {X : Cx} {x f : Str} {C : Addr} {e : Expr} {es : List Expr} {ta : TA} {pp pos pos2 : Pos} {W : L2.WX}
theorem ps_raise1 (M : Mk1 X.prog X.w X.K X.mg X.base x C f) (hr : Room 2 X.A) (hg : Gl X x) (hx : X.ex = []) (hc : X.calm = true) (tk : L2N.Takes X W) (ha : PA X (e :: es) ta)
    (hdb : (x == ("__debug__" : Str)) = false := by decide) (he : starEach (e :: es) X.env = (false, eval e X.env) :: starEach es X.env := by rfl) (hpl : (backTo pos (starEach es X.env)).any (·.1) = false := by rfl) :
    PS X (.Raise (some (.Call (.Name x pp) (e :: es) [] pos)) none pos2) (tRs1 X C f W ta) :=
  L2N.ps_raise hc tk (pmk_exo hx (pe_mk1 (p := pp) M hr hg ha hdb he hpl))
/-- how the reading is answered -/
theorem rs1_end {X : Cx} {C a d : Addr} {f : Str} {v : V} {H1 H2 : Hp} {σ : St} {W : L2.WX} (rs : Raises X (.ref C)) (h0 : Same X.H_0 H1) (na : H1 a = none) (ne : d ≠ a) (s2 : Same H1 H2) (ex : ExAt H2 a C d [(f, v)])
    (k : ∀ H3, Same H1 H3 → H3 d = some (exd d [(f, v)]) → W (.ref C) (some d) σ H3) : ∃ a' C' d', V.ref a = .ref a' ∧ H2 a' = some (exo a' C' (some d')) ∧ X.H_0 a' = none ∧ Raises X (.ref C') ∧ W (.ref C') (some d') σ (delH H2 a') := by
  refine ⟨a, C, d, rfl, ex.ob, h0.free na, rs, k _ (fun b o e => ?_) ?_⟩
  · rw [delH_ne (ne_of_none e na)]
    exact s2 b o e
  · rw [delH_ne ne]
    exact ex.di
end
/-- a def that may raise, where nothing is handled -/
theorem Fun.okN {P : Program} {w : World} {K : PySem.W.Frag} {mg : Str → Option Value} {base : Heap} {x qual : Str} {st : Stmt} {f : Addr} {fd : FuncData} {N ps : List Str} {k : Nat} {sp : Sp} (F : Fun K x qual st f fd) (S : FnScope N ps (defScope st)) (len : ∀ vs H Q E, sp vs H Q E → vs.length = ps.length)
    (hbody : ∀ (cdv : Value) (A : Around) (outer : List Env) (s : Shared) (H : Hp) (vs : List V) (Q : VK) (E : XK), Room k (A.deeper (envOfC qual (defScope st) s.heap.objs.size f cdv)) → sp vs H Q E →
      ∃ t, PSs (cxOf (L2N.CX P w) P w K mg base N qual (defScope st) f cdv A outer s H E) (defBody st) t ∧ t { nx := fun _ H' => Q .non H', rt := Q } (start N vs) H) : FnOk P w K mg base (L2N.CX P w) (k + 1) f fd ps sp := by
  obtain ⟨oc, od, kV, doc, pm, an, cdv, ct, osl, rfl, lk, hcd⟩ := F.ex
  exact fn_of lk hcd S len fun A outer s H vs Q E hr want => hbody cdv A outer s H vs Q E hr want
end L2
namespace L2
open PySem PySem.Spec PyProof.Rows PySem.GX HotX L2H
theorem flying_keep {B h h' : Heap} {l : List Env} {e : Addr} {Z : Obj → Prop} (x : HandSPX.FlyingZ B l e Z h) (k : ∀ b o, h.get? b = some o → h'.get? b = some o) : HandSPX.FlyingZ B l e Z h' := by
  obtain ⟨f1, f2, f3, oe, vs, T, oT, ts, a1, a2, a3, a4, a5, a6, a7, a8, a9⟩ := x
  exact ⟨fun b o q => k b o (f1 b o q), f2, f3.of_keeps fun b o q _ => ⟨o, k b o q, rfl⟩, oe, vs, T, oT, ts, k _ _ a1, a2, a3, a4, a5, a6, k _ _ a7, a8, a9⟩
/-- what 'except (c1, c2, ..) as n' wishes: slot i is n's; all that may come is of one of them -/
def w3 (K : PySem.W.Frag) (cs : List Value) (i : Nat) (ts : Addr → Value → Option Addr → TS) (D : Ends) : L2.WX := fun cls d σ H =>
  PySem.W.exmAny K cls cs = some true ∧ ∀ a, H a = none → ts a cls d { nx := fun σ' H' => D.nx (σ'.set i none) H', rt := D.rt, bk := fun σ' H' => D.bk (σ'.set i none) H', ct := fun σ' H' => D.ct (σ'.set i none) H' } (σ.set i (some (.ref a))) H
section
variable {X : Cx} {x1 x2 x3 n : Str} {c1 c2 c3 : Value} {i kk : Nat} {body suite : List Stmt} {b₀ : Stmt} {p1 p2 p3 tp pos pos' : Pos} {tb : L2.WX → TS} {ts : Addr → Value → Option Addr → TS}
theorem ps_try3 (hs : X.stack = X.env :: X.outer) (hf : X.env.frame = some X.env.locals) (hN : X.N.Nodup) (hi : X.N[i]? = some n) (hln : X.env.kindOf n = some .local) (m1 : Names X x1 c1) (m2 : Names X x2 c2) (m3 : Names X x3 c3)
    (hb : ∀ (W : L2.WX) (pn : List (Addr × Obj)) (xe : Value → Shared → Prop), L2N.Takes (X.tr pn xe) W → PassesOwn (model X.prog X.w) X.A X.env xe → PSs (X.tr pn xe) body (tb W))
    (hsu : ∀ (a : Addr) (oe : Obj) (cls : Value) (d : Option Addr) (pn : List (Addr × Obj)), L2N.Zn cls d oe → (∃ vs, oe.data = .fields vs) → PSs (X.suite a ((a, oe) :: pn)) (b₀ :: suite) (ts a cls d)) :
    PS X (.Try body [.ExceptHandler (some (.Tuple [.Name x1 p1, .Name x2 p2, .Name x3 p3] kk tp)) (some n) (b₀ :: suite) pos'] [] [] pos) (fun D σ H => tb (w3 X.K [c1, c2, c3] i ts D) D σ H) := by
  refine ⟨fun pl s σ H D I want => wpAny_Try_except ?_⟩
  have ok := I.ok
  have frs_ : X.A.frames = some (X.env :: X.outer) := by rw [ok.frames, hs]
  have loc_ : Loc X.env.scope n := .inl hln
  refine wpAny_mono ((hb (w3 X.K [c1, c2, c3] i ts D) (X.pn ++ pl) (fun e s₁ => wpAny (model X.prog X.w) X.A (noteFrame e X.env) (fun _ s₂ => wpAny (model X.prog X.w) X.A (setFlight e none) (fun _ s₃ =>
    wpAny (model X.prog X.w) X.A (handleBy e X.env [.ExceptHandler (some (.Tuple [.Name x1 p1, .Name x2 p2, .Name x3 p3] kk tp)) (some n) (b₀ :: suite) pos']) (SP X pl D) X.xe s₃) X.xe s₂) X.xe s₁) (fun u s' xx => ?_) PassesOwn.looking).run [] s σ H D (I.toTry _) want) (fun f s1 hsp => ?_) (fun e s1 he => he)
  · obtain ⟨a, B, sI, pins', σ', H', cls, d, rfl, J', nb, up, sky, na, os, ag, hex, hyes⟩ := xx
    have J : Inv X pl σ' H' sI := J'.ofTry ok
    show wpAny (model X.prog X.w) X.A (noteFrame (.ref a) X.env) _ _ _
    refine L2N.Sky.land L2N.Zn.steady frs_ hf (show Sky B (X.env :: X.outer) a (L2N.Zn cls d) X.env.locals s'.heap by rw [← hs]; exact sky) fun h3 fl3 up3 => ?_
    have J3 : Inv X pl σ' H' { s' with heap := h3 } := J.landed nb fl3.1 (up.trans up3) os ag
    obtain ⟨oe3, vs3, he3, hz3, hd3⟩ := fl3.there
    have nfr : a ∉ frs (X.env :: X.outer) := fun m => by
      obtain ⟨_, o', e', hnf⟩ := fl3.2.2.1.mem m
      rw [he3] at e'
      cases e'
      exact hnf _ hd3
    have nL : a ≠ X.env.locals := fun z => nfr (List.mem_filterMap.mpr ⟨X.env, List.mem_cons_self, by rw [hf, z]⟩)
    have nF : a ∉ X.fs := fun m => by
      obtain ⟨e, he, q⟩ := List.mem_filterMap.mp m
      exact nfr (List.mem_filterMap.mpr ⟨e, List.mem_cons_of_mem _ he, q⟩)
    have S3 := J3.suite he3 hd3 na nL nF
    refine wpAny_handleBy_cons (codeAny_handlers_test ?_) (by intro q; cases q)
    have nam : ∀ {x : Str} {c : Value} {np : Pos} {Q : Value → Shared → Prop} {E : Value → Shared → Prop}, Names X x c → Q c { s' with heap := h3 } → wpAny (model X.prog X.w) (X.A.mark (some (.ref a))) (eval (.Name x np) X.env) Q E { s' with heap := h3 } := fun {x c np Q E} hc q => by
      obtain ⟨hg, hdbg, hm | ⟨hm, hv, hnn⟩⟩ := hc
      · exact ld_glob (X := X.suite a ((a, oe3) :: (X.pn ++ pl))) S3 hg hm q hdbg
      · exact ld_blt (X := X.suite a ((a, oe3) :: (X.pn ++ pl))) S3 hg hm hv q hnn hdbg
    refine wpAny_Tuple (wpAny_items_cons (nam m1 (wpAny_items_cons (nam m2 (wpAny_items_cons (nam m3 (wpAny_items_nil ⟨by size_fits, ?_⟩)))))))
    have kp : ∀ q o, h3.get? q = some o → (h3.push { cls := .type "tuple", data := .seq [c1, c2, c3].toArray }).get? q = some o := fun _ _ z => Heap.get?_push_of_some _ z
    have LT : PySem.W.Looks (model X.prog X.w) (h3.push { cls := .type "tuple", data := .seq [c1, c2, c3].toArray }) (typeOf (.ref a)) cls := fun A Q E s k q => wpAny_typeOf_ref (k _ _ (kp _ _ he3)) (by rw [hz3.1]; exact q)
    refine (PySem.W.exm_tup3 (M := model X.prog X.w) (J3.kIn.keeps kp) LT (Heap.get?_push_size h3 rfl) hex).here ?_
    refine codeAny_handlers_suite_as (HandSPX.lands_againZ (flying_keep fl3 kp) fun h4 fl4 up4 => ?_)
    have J4 : Inv X pl σ' H' { s' with heap := h4 } := J.landed nb fl4.1 (((up.trans up3).trans (.of_keeps kp)).trans up4) os ag
    obtain ⟨oe4, vs4, he4, hz4, hd4⟩ := fl4.there
    have S4 := J4.suite he4 hd4 na nL nF
    refine store_ok (X := X.suite a ((a, oe4) :: (X.pn ++ pl))) (v := .ref a) S4 hN hi loc_ rfl (fun s5 S5 => wpAny_mono ((hsu a oe4 cls d (X.pn ++ pl) hz4 ⟨_, hd4⟩).run [] s5 _ H' _ S5 (hyes a na)) (fun f s6 hsp => ?_) (fun _ _ z => False.elim z)) (.inr hln)
    have leaves : ∀ {σ6 : St} {H6 : Hp} {Q : Shared → Prop}, Inv (X.suite a ((a, oe4) :: (X.pn ++ pl))) [] σ6 H6 s6 → (∀ s7, Inv X pl (σ6.set i none) H6 s7 → Q s7) →
        wpAny (model X.prog X.w) X.A (do bindName X.env n .none; unbindBehindTheSuite X.env n pos') (fun _ s7 => Q s7) X.xe s6 := fun {σ6 H6 Q} S6 hq => gone_ok (S6.unsuite ok) hN hi hln hq
    cases f with
    | next =>
      obtain ⟨σ6, H6, S6, q6⟩ := hsp
      exact leaves S6 fun s7 J7 => ⟨_, _, J7, q6⟩
    | brk =>
      obtain ⟨σ6, H6, S6, q6⟩ := hsp
      exact leaves S6 fun s7 J7 => ⟨_, _, J7, q6⟩
    | cont =>
      obtain ⟨σ6, H6, S6, q6⟩ := hsp
      exact leaves S6 fun s7 J7 => ⟨_, _, J7, q6⟩
    | ret u =>
      obtain ⟨v6, σ6, H6, S6, r6, q6⟩ := hsp
      exact leaves S6 fun s7 J7 => ⟨_, _, _, J7, r6, q6⟩
  · cases f with
    | next =>
      obtain ⟨σ', H', J', q⟩ := hsp
      exact wpAny_execs_nil ⟨σ', H', J'.ofTry ok, q⟩
    | brk =>
      obtain ⟨σ', H', J', q⟩ := hsp
      exact ⟨σ', H', J'.ofTry ok, q⟩
    | cont =>
      obtain ⟨σ', H', J', q⟩ := hsp
      exact ⟨σ', H', J'.ofTry ok, q⟩
    | ret u =>
      obtain ⟨v, σ', H', J', r, q⟩ := hsp
      exact ⟨v, σ', H', J'.ofTry ok, r, q⟩
end
end L2
namespace L2
open PySem PySem.Spec PyProof.Rows PySem.GX HotX L2H LamX
/-- what is invariant does not speak of the wish about exceptions -/
theorem Inv.xe_ {X : Cx} {pins : List (Addr × Obj)} {σ : L2.St} {H : Hp} {s : Shared} (I : Inv X pins σ H s) (e : Value → Shared → Prop) : Inv { X with xe := e } pins σ H s :=
  have o := I.ok
  ⟨⟨o.mod, o.kind, o.glob, o.blt, o.above, o.inj, o.has, o.cab, o.hd, o.frames, o.stk, o.exf, o.bs, o.bsz, o.noex, o.exfs, o.funs, o.frf⟩, I.os, I.bare, I.base, I.loc, I.cell, I.free, I.freeC, I.pin, I.hok, I.len⟩
/-- the context of a lambda's body; what leaves it has no context of its own -/
def lamN (X : Cx) (A : Around) (outer : List Env) (s : Shared) (H : Hp) (E : XK) (scope : Scope) (f c' : Addr) : Cx :=
  { lamCx X A outer s H E scope f c' with xe := fun e s' => wpAny (model X.prog X.w) (A.deeper (lamEnv X scope s.heap.objs.size f c')) (leaving (lamEnv X scope s.heap.objs.size f c') e) (fun _ s'' => L2N.CX X.prog X.w outer H s E e s'') (fun e' s'' => L2N.CX X.prog X.w outer H s E e' s'') s' }
section
variable {X : Cx} {pl : List (Addr × Obj)} {σ : L2.St} {H : Hp} {s : Shared}
/-- a(), in the def that got the lambda -/
theorem pe_actN {CXg : CXT} {Eg : XK} {Ng : List Str} {qg : Str} {sg : Scope} {g f c' : Addr} {cdg pm ctv : Value} {params : Arguments} {body : Expr} {scope : Scope} {k i : Nat} {a : Str} {pn : List (Addr × Obj)} {xe : Value → Shared → Prop} {W : L2.WX} {E : XK} {tb : TE} {p1 p2 : Pos}
    (I : Inv X pl σ H s) (L : LamS X.env.scope scope) (hf : s.heap.get? f = some (PySem.W.kla_obj "<lambda>" (X.env.qual ++ "<lambda>") params body scope (cloFrom X.env.cells scope.names []) pm c' ctv)) (hfn : H f = none) (hfr : f ∉ frs X.stack)
    (hbind : bindArgs (PySem.W.kla_fn "<lambda>" (X.env.qual ++ "<lambda>") params body scope (cloFrom X.env.cells scope.names []) pm (.ref c') ctv) ⟨[], []⟩ = pure [])
    (tk : L2N.Takes ((cxOf CXg X.prog X.w X.K X.mg X.base Ng qg sg g cdg X.A X.stack s H Eg).tr pn xe) W) (hW : ∀ cls d σ' H', E cls d H' → W cls d σ' H') (hr : Room (k + 1) (X.A.deeper (envOfC qg sg s.heap.objs.size g cdg)))
    (hbody : ∀ (A : Around) (outer : List Env) (s : Shared) (H : Hp), Room k (A.deeper (lamEnv X scope s.heap.objs.size f c')) → PE (lamN X A outer s H E scope f c') body tb)
    (hN : Ng[i]? = some a) (hv : Vis sg a) (hd : (a == ("__debug__" : Str)) = false := by decide) (hcd : (a == ("__classdict__" : Str)) = false := by decide) :
    PE ((cxOf CXg X.prog X.w X.K X.mg X.base Ng qg sg g cdg X.A X.stack s H Eg).tr pn xe) (.Call (.Name a p1) [] [] p2)
      (fun σZ HZ Q => σZ[i]? = some (some (.ref f)) ∧ HZ c' = some (CodeO c' (X.env.qual ++ "<lambda>")) ∧ tb σ HZ Q) := by
  refine ⟨fun plZ sZ σZ HZ Q IZ ⟨hs, hc, want⟩ => wpAny_Call_Name_kw (thn ((pe_var (pos := p1) (i := i) hN hv hd hcd).run plZ sZ σZ HZ (fun v H1 => v = .ref f ∧ H1 = HZ) IZ ⟨.ref f, hs, rfl, rfl⟩) fun u s1 ⟨v, H1, I1, r1, ev, eH⟩ => ?_)⟩
  subst ev
  rw [eH] at I1
  obtain rfl : u = Value.ref f := r1
  have of1 : s1.heap.get? f = some (PySem.W.kla_obj "<lambda>" (X.env.qual ++ "<lambda>") params body scope (cloFrom X.env.cells scope.names []) pm c' ctv) := I1.base.keep f _ hf hfn hfr (fun z => nomatch (show f ∈ ([] : List Addr) from z))
  obtain ⟨⟨oc, vs, t, hoc, hdc, hvc⟩, _, _⟩ := I1.hok c' _ hc
  have rc : codeAny (model X.prog X.w) (X.A.deeper (envOfC qg sg s.heap.objs.size g cdg)) (.call (.ref f) ⟨[], []⟩) (CR (L2N.CX X.prog X.w) (envOfC qg sg s.heap.objs.size g cdg :: X.stack) X.prog X.w HZ s1 Q E) s1 := by
    refine PySem.W.kla_callFunE hr.depth of1 rfl L.co L.gen rfl ⟨c', oc, vs, t, rfl, hoc, hdc, hvc⟩ ?_
    rw [hbind]
    refine wpAny_pure (wpAny_newFunctionEnv (fun y hy => (L.own y hy).2) (fun y hy => absurd hy (by simp)) (fun h₁ hns hsb => ⟨I1.nolimit.fresh _ hsb, ?_⟩) L.kind)
    show codeAny _ _ (.expr body (lamEnv X scope s1.heap.objs.size f c')) _ _
    have J := (lam_start2 (E := E) (f := f) (c' := c') (tk := s1.toks + ([] : List (Str × Value)).length) I L I1.env0 hr.hd (show Un (frs X.stack) [] H HZ s.heap s1.heap from I1.base) hns fun b o e => hsb.extBut b o (Nat.ne_of_lt (Heap.lt_size e)) (Heap.get?_push_of_some _ e)).xe_ (fun e s' => wpAny (model X.prog X.w) ((X.A.deeper (envOfC qg sg s.heap.objs.size g cdg)).deeper (lamEnv X scope s1.heap.objs.size f c')) (leaving (lamEnv X scope s1.heap.objs.size f c') e) (fun _ s'' => L2N.CX X.prog X.w (envOfC qg sg s.heap.objs.size g cdg :: X.stack) HZ s1 E e s'') (fun e' s'' => L2N.CX X.prog X.w (envOfC qg sg s.heap.objs.size g cdg :: X.stack) HZ s1 E e' s'') s')
    refine PySem.W.kla_codeExpr (wpAny_mono ((hbody _ _ s1 HZ (hr.deeper _)).run [] _ _ HZ Q J want) (fun v s' ⟨w', H', J', rv, q⟩ => ⟨w', H', J'.os, J'.bare, J'.base, J'.hok, rv, q⟩) fun e s' hq => hq)
  refine PySem.W.callWith_F0 ⟨_, _, _, _, of1⟩ (wpAny_call (codeAny_mono rc fun r s' hq => ?_))
  cases r with
  | error e => exact L2N.passes_call tk hW plZ σZ HZ s1 e s' I1 hq
  | ok fl =>
    cases fl with
    | ret u => exact I1.after hq
    | next => exact False.elim hq
    | brk => exact False.elim hq
    | cont => exact False.elim hq
end
/-- the def that calls what it got (TT: what it makes of the lambda's reading) -/
def GivesN (X : Cx) (k : Nat) (Ng : List Str) (x : Str) (sg : Scope) (g : Addr) (cdg : Value) (bg : List Stmt) (a : Str) (q : Str) (TT : (XK → Hp → VK → Prop) → Hp → VK → Prop) : Prop :=
  ∀ (f c' : Addr) (s : Shared) (H : Hp) (Q : VK) (tl : XK → Hp → VK → Prop), Room k (X.A.deeper (envOfC x sg s.heap.objs.size g cdg)) →
    (∀ (W : L2.WX) (pn : List (Addr × Obj)) (xe : Value → Shared → Prop) (E : XK) (p1 p2 : Pos), L2N.Takes ((cxOf CX0 X.prog X.w X.K X.mg X.base Ng x sg g cdg X.A X.stack s H E0).tr pn xe) W → (∀ cls d σ' H', E cls d H' → W cls d σ' H') →
      PE ((cxOf CX0 X.prog X.w X.K X.mg X.base Ng x sg g cdg X.A X.stack s H E0).tr pn xe) (.Call (.Name a p1) [] [] p2) (fun σZ HZ Q => σZ[0]? = some (some (.ref f)) ∧ HZ c' = some (CodeO c' q) ∧ tl E HZ Q)) →
    H c' = some (CodeO c' q) → TT tl H Q →
    ∃ t, PSs (cxOf CX0 X.prog X.w X.K X.mg X.base Ng x sg g cdg X.A X.stack s H E0).nox bg t ∧ t { nx := fun _ H' => Q .non H', rt := Q } (L2.start Ng [.ref f]) H
section
variable {X : Cx}
/-- x(lambda: body) -/
theorem pe_lamN {T : List (Addr × Str)} {TT : (XK → Hp → VK → Prop) → Hp → VK → Prop} {x a : Str} {g c P : Addr} {k : Nat} {pg : Arguments} {bg : List Stmt} {sg : Scope} {dV kV doc pm cdv ct oc : Value} {an od : Option Addr} {osl : Array (Option Value)} {Ng : List Str}
    {params : Arguments} {body : Expr} {scope : Scope} {t : XK → TE} {p lpos pos : Pos} (hg : Gl X x) (hm : X.mg x = some (.ref g)) (hk : PySem.W.keepIn X.K (.ref g) = true)
    (lk : X.K.lookup g = some ⟨oc, od, .func (PySem.W.fnOf x x pg bg sg dV kV doc pm an cdv ct), osl⟩) (hcg : PySem.W.codeIn X.K cdv x = true) (hb : L2.Binds X.K (PySem.W.fnOf x x pg bg sg dV kV doc pm an cdv ct) [a] []) (Sg : FnScope Ng [a] sg) (hNg : Ng[0]? = some a) (hva : Vis sg a)
    (hG : GivesN X (k + 1) Ng x sg g cdv bg a (X.env.qual ++ "<lambda>") TT)
    (TB : TabB X.base X.mg c P) (hcode : X.env.code = .ref c) (hmT : (P, X.env.qual ++ "<lambda>") ∈ T) (hu : ∀ p ∈ T, p.1 = P → p.2 = X.env.qual ++ "<lambda>") (hr : Room (k + 2) X.A) (L : LamS X.env.scope scope) (hdef : defaultsOf params X.env = ([], []))
    (hbind : ∀ (q : Str) (cl : List (Str × Addr)) (pm cv ctv : Value), bindArgs (PySem.W.kla_fn "<lambda>" q params body scope cl pm cv ctv) ⟨[], []⟩ = pure [])
    (hbody : ∀ (A : Around) (outer : List Env) (s : Shared) (H : Hp) (E : XK) (f c' : Addr), Room k (A.deeper (lamEnv X scope s.heap.objs.size f c')) → PE (lamN X A outer s H E scope f c') body (t E))
    (hdb : (x == ("__debug__" : Str)) = false := by decide) (hd : (a == ("__debug__" : Str)) = false := by decide) (hcd : (a == ("__classdict__" : Str)) = false := by decide) :
    PE X (.Call (.Name x p) [.Lambda params body scope lpos] [] pos) (tLam T TT t) := by
  refine ⟨fun pl s σ H Q I ⟨hT, want⟩ => wpAny_Call_Name_kw (ld_glob I hg hm (PySem.W.callWith_K (h₀ := X.base) I.ok.mod.kin hk ?_ (by rfl) (by rfl)) hdb)⟩
  show wpAny _ _ (spliced ((false, eval (.Lambda params body scope lpos) X.env) :: backTo pos (starEach [] X.env))) _ _ s
  refine Calls.spliced_cons (lam_make2 I TB hcode hmT hu hT hdef (L.has I.ok) fun f c' pm' ctv H1 s' I1 eN T1 hf hfn hfr hco => Calls.spliced_nil ⟨I1.kIn, ?_⟩)
  have rc : codeAny (model X.prog X.w) X.A (.call (.ref g) ⟨[.ref f], []⟩) (CR CX0 X.stack X.prog X.w H1 s' Q E0) s' := by
    refine run_ofS (N := Ng) (ps := [a]) (us := [.ref f]) (vs := [.ref f]) lk hcg Sg hr I1.env0 (hb s' [.ref f] I1.kIn rfl) (.cons rfl .nil) rfl fun hr' => ?_
    obtain ⟨t', ht', hq'⟩ := hG f c' s' H1 Q (fun E H' Q' => t E σ H' Q') hr' (fun W pn xe E p1 p2 tk hW => pe_actN (i := 0) I1 L hf hfn hfr (hbind _ _ _ _ _) tk hW hr' (fun A outer s H hr2 => hbody A outer s H E f c' hr2) hNg hva hd hcd) hco (want H1 eN T1)
    exact ⟨t', ht'.nox, hq'⟩
  refine wpAny_call (codeAny_mono rc fun r s2 hq => ?_)
  cases r with
  | error e => exact (show False from hq).elim
  | ok fl =>
    cases fl with
    | ret u => exact I1.after hq
    | next => exact False.elim hq
    | brk => exact False.elim hq
    | cont => exact False.elim hq
end
end L2
namespace L2
open PySem PySem.Spec PyProof.Rows PySem.GX LamX
/-- the law's call, its promise where no repr is under way; the tables ts of code objects may grow -/
theorem law_callGT {P : Program} {w : World} {K : PySem.W.Frag} {mg mb : Str → Option Value} {CX : CXT} {k : Nat} {fa a : Addr} {fd : FuncData} {x : Str} {sp : Sp} {s1 : Shared} {vs : List Value} {ns : List Int} {ts : List (Addr × Addr)}
    (KX : K.In s1.heap) (hns : s1.heap.Ns mainGlobals mg) (hb : s1.heap.Ns builtinsNs mb) (hbb : ∀ x : Str, x ≠ "__name__" → mb x = bootBuiltins x) (hlim : s1.heap.NoLimit) (hg : s1.gens = #[])
    (t1 : ∀ q ∈ ts, s1.heap.get? q.2 = some (PySem.W.tabObj #[]) ∧ K.lookup q.2 = none ∧ PySem.W.CodeHd s1.heap q.1 q.2)
    (hbm : ∃ (m : Addr) (om : Obj), mg "__builtins__" = some (.ref m) ∧ m ≠ builtinsNs ∧ s1.heap.get? m = some om ∧ om.cls = .type "module" ∧ om.dict = some builtinsNs ∧ om.data = .plain)
    (ha : s1.heap.get? a = some { cls := .type "list", data := .seq vs.toArray }) (hi : IntsAre vs ns) (hl : ns.length ≤ sizeLine) (hr : Room k callerA)
    (F : ∀ base : Heap, K.In base → base.Ns mainGlobals mg → (∀ q ∈ ts, TabB base mg q.1 q.2) → FnG P w K mg base CX k fa fd [x] sp) (hbind : ∀ (s : Shared) (u : Value), BindsTo s fd ⟨[u], []⟩ [(x, u)])
    (hsp : ∀ H : Hp, (∀ q ∈ ts, H q.2 = some (.tbl #[])) → SqL K H a (ns.map V.int) → sp [.ref a] H (fun v _ => v = .bl true) fun _ _ _ => False)
    (hCX : ∀ H e s', CX [] H s1 (fun _ _ _ => False) e s' → False) :
    codeAny (model P w) callerA (.call (.ref fa) ⟨[.ref a], []⟩) (fun r s' => r = .ok (.ret (.bool true)) ∧ OldK s1.heap s'.heap ∧ s'.os = s1.os ∧ AllBare s'.gens) s1 := by
  have rv := vals_ints hi
  have lenV := hi.length
  let T : List Addr := ts.map (·.2)
  have tT : ∀ b ∈ T, ∃ q ∈ ts, q.2 = b := fun b h => List.mem_map.mp h
  have oT : ∀ b ∈ T, s1.heap.get? b = some (PySem.W.tabObj #[]) := fun b h => by
    obtain ⟨q, hq, rfl⟩ := tT b h
    exact (t1 q hq).1
  have naT : a ∉ T := fun h => by
    have e := oT a h
    rw [ha] at e
    have d : Data.seq vs.toArray _ = Data.fields #[] := congrArg Obj.data (Option.some.inj e)
    cases d
  let sc : HO := .frz { cls := .type "list", data := .seq vs.toArray } (.lst (ns.map V.int))
  let H : Hp := fun b => if b ∈ T then some (.tbl #[]) else if b = a ∧ (K.lookup a).isNone = true then some sc else none
  have HT : ∀ b ∈ T, H b = some (.tbl #[]) := fun b h => if_pos h
  have isH : ∀ b, H b ≠ none → b ∈ T ∨ b = a ∧ K.lookup a = none := fun b h => by
    by_cases h1 : b ∈ T
    · exact .inl h1
    · by_cases h2 : b = a ∧ (K.lookup a).isNone = true
      · exact .inr ⟨h2.1, Option.isNone_iff_eq_none.mp h2.2⟩
      · exact absurd ((if_neg h1).trans (if_neg h2)) h
  have sH : ∀ b u, H b = some u → b ∉ T → u = sc := fun b u e h1 => by
    have e2 : (if b = a ∧ (K.lookup a).isNone = true then some sc else none) = some u := (if_neg h1).symm.trans e
    by_cases h2 : b = a ∧ (K.lookup a).isNone = true
    · exact (Option.some.inj ((if_pos h2).symm.trans e2)).symm
    · cases (if_neg h2).symm.trans e2
  have seqA : SqL K H a (ns.map V.int) := by
    cases hk : K.lookup a with
    | some o =>
      have e := KX a o hk
      rw [ha] at e
      cases e
      exact .inr ⟨_, vs.toArray, _, hk, rfl, rfl, rfl, by rw [List.size_toArray, lenV]; exact hl, by simpa using rv⟩
    | none =>
      refine .inl (.inr ⟨{ cls := .type "list", data := .seq vs.toArray }, (if_neg naT).trans (if_pos ⟨rfl, ?_⟩)⟩)
      rw [hk]
      rfl
  have hok : HOk P w H s1.heap := fun b u e => by
    by_cases h1 : b ∈ T
    · have e2 := (HT b h1).symm.trans e
      cases e2
      exact oT b h1
    · have e3 := sH b u e h1
      have e4 : b = a := ((isH b (by rw [e]; simp)).resolve_left h1).1
      subst e3 e4
      exact ⟨ha, by rw [List.length_map]; exact hl, vs, _, rv, ha⟩
  -- what is of another kind is not tracked
  have off : ∀ {b : Addr} {o : Obj}, s1.heap.get? b = some o → (∀ z n, o.data ≠ .seq z n) → o.data ≠ .fields #[] → H b = none := fun {b o} e d1 d2 => by
    cases q : H b with
    | none => rfl
    | some u =>
      rcases isH b (by rw [q]; simp) with m | ⟨m, _⟩
      · rw [oT b m] at e
        cases e
        exact absurd rfl d2
      · rw [m, ha] at e
        cases e
        exact absurd rfl (d1 _ _)
  have offD : ∀ {b : Addr} {o : Obj} {es : Array DictEntry} {ep : Nat}, s1.heap.get? b = some o → o.data = .dict es ep → H b = none := fun {b o es ep} e d =>
    off e (fun z n q => by rw [d] at q; cases q) (fun q => by rw [d] at q; cases q)
  have nsB : ∀ {b : Addr} {m : Str → Option Value}, s1.heap.Ns b m → (hidT s1.heap H).Ns b m := fun {b m} ⟨o, es, ep, e, d, r⟩ => ⟨o, es, ep, hidT_get e (offD e d), d, r⟩
  have inB : K.In (hidT s1.heap H) := fun b o e => hidT_get (KX b o e) (by
    cases q : H b with
    | none => rfl
    | some u =>
      rcases isH b (by rw [q]; simp) with m | ⟨m, m2⟩
      · obtain ⟨r, hq, rfl⟩ := tT b m
        rw [(t1 r hq).2.1] at e
        cases e
      · rw [m, m2] at e
        cases e)
  have modB : Mod K mg (hidT s1.heap H) := ⟨inB, nsB hns, ⟨mb, nsB hb, hbb⟩, let ⟨mc, l1, l2⟩ := hlim; ⟨mc, nsB l1, l2⟩⟩
  have tabB : ∀ q ∈ ts, TabB (hidT s1.heap H) mg q.1 q.2 := fun q hq => by
    obtain ⟨oq, _, ⟨oc, us, fl, tf, fg, tg, nF, tx, tt, c1, c2, c3, c4, c5⟩⟩ := t1 q hq
    refine ⟨⟨oc, us, fl, tf, fg, tg, nF, tx, tt, hidT_get c1 (off c1 (fun z n d => by rw [c3] at d; cases d) fun d => ?_), c2, c3, c4, c5⟩, ?_, fun z => ?_⟩
    · rw [c3] at d
      cases d
      simp at c4
    · obtain ⟨m, om, b1, b2, b3, b4, b5, b6⟩ := hbm
      refine ⟨m, om, b1, b2, fun z => ?_, fun z => ?_, hidT_get b3 (off b3 (fun z n d => by rw [b6] at d; cases d) fun d => by rw [b6] at d; cases d), b4, b5, b6⟩
      · obtain ⟨o, es, ep, e, d, _⟩ := hns
        rw [z, e] at b3
        cases b3
        rw [d] at b6
        cases b6
      · rw [z, oq] at b3
        cases b3
        cases b6
    · obtain ⟨o, es, ep, e, d, _⟩ := hns
      rw [z, oq] at e
      cases e
      cases d
  have e0 : Env0 P w K mg (hidT s1.heap H) callerA [] s1 H :=
    ⟨rfl, modB, fun b o e => of_hidT e, Nat.le_of_eq (hidT_size _ _), trivial, fun b m => absurd (show b ∈ ([] : List Addr) from m) (by simp), hok, .of_eq hg⟩
  refine codeAny_mono ((F _ inB (nsB hns) tabB).run callerA [] s1 H ⟨[.ref a], []⟩ [.ref a] [.ref a] _ _ rfl hr e0 (hbind s1 (.ref a)) (.cons rfl .nil) (hsp H (fun q hq => HT _ (List.mem_map.mpr ⟨q, hq, rfl⟩)) seqA)) fun r s' h => ?_
  cases r with
  | error e => exact (hCX H e s' h).elim
  | ok fl =>
    cases fl with
    | next => exact False.elim h
    | brk => exact False.elim h
    | cont => exact False.elim h
    | ret u =>
      obtain ⟨v, H', os, bare, un, hok', r', q⟩ := h
      have qv : v = .bl true := q
      subst qv
      obtain rfl : u = Value.bool true := r'
      have stays : ∀ b o, b ∉ T → s1.heap.get? b = some o → s'.heap.get? b = some o := fun b o nb e => by
        cases q : H b with
        | none => exact un.keep b o e q (by intro z; exact absurd (show b ∈ ([] : List Addr) from z) (by simp)) (by simp)
        | some u =>
          have e3 := sH b u q nb
          subst e3
          have z2 := un.frzs b _ _ q
          obtain ⟨k1, _⟩ := hok b _ q
          obtain ⟨k2, _⟩ := hok' b _ z2
          rw [e] at k1
          cases k1
          exact k2
      have grows : ∀ b ∈ T, ∃ more : Array Value, s'.heap.get? b = some (PySem.W.tabObj more) := fun b m => by
        obtain ⟨more, z⟩ := un.tbls b #[] (HT b m)
        exact ⟨_, hok' b _ z⟩
      refine ⟨rfl, ⟨fun b o e => ?_, fun b o e => ?_⟩, os, bare⟩
      · by_cases m : b ∈ T
        · obtain ⟨q, hq, rfl⟩ := tT b m
          obtain ⟨more, hm⟩ := grows _ m
          obtain ⟨oq, _, cq⟩ := t1 q hq
          rw [oq] at e
          cases e
          exact .inr (.inl ⟨(cq.tab oq).isCodeTable, rfl, #[], more, rfl, by rw [Array.empty_append]; exact hm⟩)
        · exact .inl (stays b o m e)
      · by_cases m : b ∈ T
        · obtain ⟨more, hm⟩ := grows _ m
          exact ⟨_, hm⟩
        · exact ⟨o, stays b o m e⟩
/-- the walk of a law whose defs make lambdas -/
theorem walk_GT {l : PySem.W.OpenLaw} {n k : Nat} {q : Program} {loose : List Str} {XP : (Str → Option Value) → Heap → Prop} {YP : World → Heap → Prop} {d : DefRec} {K : Params → PySem.W.Frag} {sp : PySem.W.Frag → List (Addr × Addr) → Sp} {x : Str} {ts : List (Addr × Addr)}
    (hn : l.most = some n) (hn2 : n ≤ sizeLine) (hdf : d.params.defaults = []) (hr : Room k callerA)
    (hY : ∀ (w : World) (h : Heap), YP w h → (K w.params).In h) (hZ : ∀ (w : World) (h : Heap), YP w h → ∀ q ∈ ts, h.get? q.2 = some (PySem.W.tabObj #[]) ∧ (K w.params).lookup q.2 = none ∧ PySem.W.CodeHd h q.1 q.2)
    (F : ∀ (w : World) (mg : Str → Option Value) (fa : Addr) (h : Heap), (K w.params).In h → h.Ns mainGlobals mg → mg d.name = some (.ref fa) →
      ∃ fd : FuncData, (∀ (s : Shared) (u : Value), BindsTo s fd ⟨[u], []⟩ [(x, u)]) ∧
        ∀ base : Heap, (K w.params).In base → base.Ns mainGlobals mg → (∀ q ∈ ts, TabB base mg q.1 q.2) → FnG l.prog w (K w.params) mg base CX0 k fa fd [x] (sp (K w.params) ts))
    (hsp : ∀ (K : PySem.W.Frag) (H : Hp) (a : Addr) (ns : List Int), ns.length ≤ n → (∀ q ∈ ts, H q.2 = some (.tbl #[])) → SqL K H a (ns.map V.int) → sp K ts [.ref a] H (fun v _ => v = .bl true) fun _ _ _ => False) :
    PySem.W.WalkO q loose XP YP l.row.toRowW d [] (fun f vs => PySem.call f vs) := by
  refine Att.attach_call hn hdf fun w s₀ s1 mg mb fa o pm cd doc a vs ns G Y ho hd hcd hmg hobj hints hlen hg => ?_
  have KX := hY w _ Y
  have t1 := hZ w _ Y
  obtain ⟨fd, hb, hF⟩ := F w mg fa _ KX G.T.g hmg
  exact law_callGT KX G.T.g G.T.b G.T.builtins G.T.nolimit hg t1 G.T.bmain hobj hints (Nat.le_trans hlen hn2) hr hF hb (fun H hT hS => hsp (K w.params) H a ns hlen hT hS) fun _ _ _ z => z
end L2
namespace My
open PySem PySem.Spec PyProof.Rows L2 PySem.GX
def isRowL (x r : Str) : Bool := decide (r.length ≤ 1000) && r.cps.toList.all fun c => decide (c ∈ x.cps.toList)
/-- v is no row of the signs x -/
def NoRow (K : PySem.W.Frag) (H : Hp) (x : Str) (v : V) : Prop := (∃ r, v = .str r ∧ r.length ≤ 16000000 ∧ isRowL x r = false) ∨ ∃ ty, TyX K H v ty ∧ PySem.W.kitOne K ty (.type "str") = some false
end My
namespace My
open PySem PySem.Spec PyProof.Rows L2 PySem.GX
theorem mem_ins {ys : List Str} {k z : Str} : z ∈ ins ys k ↔ z = k ∨ z ∈ ys := by
  unfold ins
  by_cases h : k ∈ ys
  · rw [if_pos h]
    constructor
    · intro m; exact .inr m
    · rintro (rfl | m)
      · exact h
      · exact m
  · rw [if_neg h, List.mem_cons]
theorem setFold_all : ∀ (n : Nat) (xs : List Str), xs.length = n → (setFold xs).Nodup ∧ (∀ z, z ∈ setFold xs ↔ z ∈ xs) ∧ (xs.Nodup → (setFold xs).Perm xs) ∧ (¬ xs.Nodup → (setFold xs).length < xs.length) := by
  intro n
  induction n with
  | zero =>
    intro xs h
    have : xs = [] := List.eq_nil_of_length_eq_zero h
    subst this
    exact ⟨List.nodup_nil, fun _ => Iff.rfl, fun _ => List.Perm.refl _, fun h => absurd List.nodup_nil h⟩
  | succ n ih =>
    intro xs h
    have hne : xs ≠ [] := by intro z; subst z; cases h
    obtain ⟨ys, a, rfl⟩ : ∃ ys a, xs = ys ++ [a] := ⟨xs.dropLast, xs.getLast hne, (List.dropLast_concat_getLast hne).symm⟩
    have hl : ys.length = n := by rw [List.length_append] at h; simpa using h
    obtain ⟨i1, i2, i3, i4⟩ := ih ys hl
    have len := setFold_len n ys hl
    rw [setFold_snoc]
    refine ⟨ins_nodup i1, fun z => ?_, fun nd => ?_, fun nd => ?_⟩
    · rw [mem_ins, i2, List.mem_append]
      simp
      constructor
      · rintro (h | h) <;> simp [h]
      · rintro (h | h) <;> simp [h]
    · rw [List.nodup_append] at nd
      have ha : a ∉ setFold ys := fun z => nd.2.2 a ((i2 a).mp z) a (by simp) rfl
      unfold ins
      rw [if_neg ha]
      exact ((i3 nd.1).cons a).trans (List.perm_append_singleton a ys).symm
    · unfold ins
      by_cases ha : a ∈ setFold ys
      · rw [if_pos ha, List.length_append]
        simp; omega
      · rw [if_neg ha, List.length_append]
        have : ¬ ys.Nodup := fun z => nd (by
          rw [List.nodup_append]
          refine ⟨z, by simp, fun b hb c hc e => ?_⟩
          simp at hc
          subst hc; subst e
          exact ha ((i2 b).mpr hb))
        have := i4 this
        simp; omega
theorem setFold_eqlen (xs : List Str) : decide ((setFold xs).length = xs.length) = decide xs.Nodup := by
  obtain ⟨_, _, i3, i4⟩ := setFold_all _ xs rfl
  by_cases h : xs.Nodup
  · rw [decide_eq_true h, decide_eq_true (i3 h).length_eq]
  · rw [decide_eq_false h, decide_eq_false (Nat.ne_of_lt (i4 h))]
/-- the sign c as a text -/
abbrev sg (c : Nat) : Str := ⟨#[c]⟩
theorem sg_inj {a b : Nat} (h : sg a = sg b) : a = b := by
  have := congrArg (fun s : Str => s.cps.toList) h
  simpa using this
theorem str_ext {x y : Str} (h : x.cps.toList = y.cps.toList) : x = y := by
  cases x; cases y
  simp at h
  rw [h]
theorem asc_eq : ∀ {a b : List Nat}, a.Pairwise (· < ·) → b.Pairwise (· < ·) → (∀ z, z ∈ a ↔ z ∈ b) → a = b
  | [], [], _, _, _ => rfl
  | [], y :: _, _, _, h => by have := (h y).mpr (by simp); simp at this
  | x :: _, [], _, _, h => by have := (h x).mp (by simp); simp at this
  | x :: xs, y :: ys, h1, h2, h => by
    rw [List.pairwise_cons] at h1 h2
    have e : x = y := by
      have m1 := (h x).mp (by simp)
      have m2 := (h y).mpr (by simp)
      simp at m1 m2
      rcases m1 with m1 | m1
      · exact m1
      · rcases m2 with m2 | m2
        · exact m2.symm
        · have a1 := h1.1 _ m2
          have a2 := h2.1 _ m1
          omega
    subst e
    congr 1
    refine asc_eq h1.2 h2.2 fun z => ?_
    constructor
    · intro m
      have := (h z).mp (by simp [m])
      simp at this
      rcases this with rfl | t
      · exact absurd (h1.1 _ m) (Nat.lt_irrefl _)
      · exact t
    · intro m
      have := (h z).mpr (by simp [m])
      simp at this
      rcases this with rfl | t
      · exact absurd (h2.1 _ m) (Nat.lt_irrefl _)
      · exact t
theorem rising_asc : ∀ (cs : List Nat) (p : Nat), risingS (sg p) (cs.map sg) = true → (p :: cs).Nodup → (p :: cs).Pairwise (· < ·)
  | [], p, _, _ => by simp
  | c :: cs, p, h, nd => by
    unfold risingS at h
    rw [List.map_cons] at h
    simp only [Bool.and_eq_true] at h
    have nd' := (List.nodup_cons.mp nd)
    have ih := rising_asc cs c h.2 nd'.2
    have h1 : ¬ c < p := by
      have := h.1
      simp [ltCps] at this
      omega
    have h2 : p ≠ c := fun z => nd'.1 (by simp [z])
    rw [List.pairwise_cons] at ih ⊢
    refine ⟨fun z hz => ?_, List.pairwise_cons.mpr ih⟩
    simp at hz
    rcases hz with rfl | hz
    · omega
    · have := ih.1 z hz
      omega
theorem join_signs : ∀ cs : List Nat, (Str.join Str.empty (cs.map sg)).cps.toList = cs
  | [] => rfl
  | [c] => rfl
  | c :: d :: cs => by
    have ih := join_signs (d :: cs)
    show ((sg c ++ Str.empty ++ Str.join Str.empty ((d :: cs).map sg)).cps).toList = _
    show (((#[c] ++ #[]) ++ (Str.join Str.empty ((d :: cs).map sg)).cps)).toList = _
    rw [Array.toList_append, ih]
    rfl
/-- the text is its own signs in their order, each once -/
theorem asc_join {x : Str} {zs : List Str} (hp : zs.Perm (setFold (signsOf x))) (hs : sortedS zs = true) : decide (V.str x = V.str (Txt.join Str.empty zs)) = decide (x.cps.toList.Pairwise (· < ·)) := by
  obtain ⟨i1, i2, i3, i4⟩ := setFold_all _ (signsOf x) rfl
  have nd : zs.Nodup := hp.nodup_iff.mpr i1
  have hm : ∀ z, z ∈ zs ↔ z ∈ signsOf x := fun z => (hp.mem_iff).trans (i2 z)
  obtain ⟨cs, rfl⟩ : ∃ cs : List Nat, zs = cs.map sg := by
    have all : ∀ z ∈ zs, ∃ c, z = sg c := fun z hz => by
      have := (hm z).mp hz
      unfold signsOf at this
      obtain ⟨c, _, rfl⟩ := List.mem_map.mp this
      exact ⟨c, rfl⟩
    clear hp hs nd hm i1 i2 i3 i4
    induction zs with
    | nil => exact ⟨[], rfl⟩
    | cons z t ih =>
      obtain ⟨c, rfl⟩ := all z (by simp)
      obtain ⟨cs, e⟩ := ih fun y hy => all y (by simp [hy])
      exact ⟨c :: cs, by rw [e]; rfl⟩
  have ndc : cs.Nodup := by
    unfold List.Nodup at nd
    rw [List.pairwise_map] at nd
    exact nd.imp fun h z => h (congrArg sg z)
  have asc : cs.Pairwise (· < ·) := by
    cases cs with
    | nil => simp
    | cons c t => exact rising_asc t c hs ndc
  have mem : ∀ c, c ∈ cs ↔ c ∈ x.cps.toList := fun c => by
    have := hm (sg c)
    unfold signsOf at this
    constructor
    · intro h
      obtain ⟨d, hd, e⟩ := List.mem_map.mp (this.mp (List.mem_map.mpr ⟨c, h, rfl⟩))
      rw [← sg_inj e]; exact hd
    · intro h
      obtain ⟨d, hd, e⟩ := List.mem_map.mp (this.mpr (List.mem_map.mpr ⟨c, h, rfl⟩))
      rw [← sg_inj e]; exact hd
  have ej : (Txt.join Str.empty (cs.map sg)).cps.toList = cs := by rw [TL.join_eq, join_signs]
  by_cases h : x.cps.toList.Pairwise (· < ·)
  · rw [decide_eq_true h, decide_eq_true]
    congr 1
    exact str_ext (by rw [ej]; exact asc_eq h asc fun z => (mem z).symm)
  · rw [decide_eq_false h, decide_eq_false]
    intro e
    have e' : x = _ := V.str.inj e
    apply h
    rw [e', ej]
    exact asc
end My
namespace My
open PySem PySem.Spec PyProof.Rows L2
theorem len_app (a b : Str) : (a ++ b).length = a.length + b.length := Str.length_append a b
theorem cps_app (a b : Str) : (a ++ b).cps.toList = a.cps.toList ++ b.cps.toList := by
  show (a.cps ++ b.cps).toList = _
  exact Array.toList_append
theorem ok_low {y : Str} (h : ∀ c ∈ y.cps.toList, c < 256) : PyData.strOk y = true := by
  unfold PyData.strOk
  rw [Array.all_eq_true_iff_forall_mem]
  intro c hc
  have := h c (by simpa using hc)
  simp
  omega
theorem yat_same (xs : List V) : ∀ i H x H', YAt xs i H x H' → Same H H' := fun i H x H' h => by rw [h.1]; exact Same.refl _
theorem map_get {α : Type} {xs : List α} {f : α → V} {i : Nat} {a : α} {x : V} (ha : xs[i]? = some a) (h : (xs.map f)[i]? = some x) : x = f a := by
  rw [List.getElem?_map, ha] at h
  exact (Option.some.inj h).symm
theorem walk_listL {K : PySem.W.Frag} {a : Addr} {α : Type} (xs : List α) (f : α → V) : Walk (Itl K a) xs.length (fun H => SqL K H a (xs.map f)) (YAt (xs.map f)) := by
  have := walk_list (K := K) (a := a) (xs := xs.map f)
  rw [List.length_map] at this
  exact this
theorem in_strs (x : Str) : ∀ ys : List Str, inV (.str x) (ys.map V.str) = decide (x ∈ ys)
  | [] => rfl
  | y :: t => by
    have ih := in_strs x t
    unfold inV at ih ⊢
    rw [List.map_cons, List.any_cons, ih]
    have e : eqV (.str y) (.str x) = decide (y = x) := by
      show (y == x) = _
      by_cases h : y = x
      · subst h; simp
      · simp [h]
    rw [e]
    by_cases h : y = x
    · subst h; simp
    · simp [h, Ne.symm h]
theorem flat_strs (ys : List Str) : (ys.map V.str).all flatV = true := by
  rw [List.all_map]
  exact List.all_eq_true.mpr fun _ _ => rfl
end My
namespace My
open PySem PySem.Spec PyProof.Rows L2 PySem.GX L2H LamX
open Builtin.Str (reprChar)
theorem reps_list (c : Nat) : ∀ (n : Nat) (acc : Array Nat), ((List.replicate n #[c]).foldl (· ++ ·) acc).toList = acc.toList ++ List.replicate n c
  | 0, acc => by simp
  | n + 1, acc => by
    rw [List.replicate_succ, List.foldl_cons, reps_list c n, List.replicate_succ]
    simp
/-- one sign, so often -/
def manyS (c : Nat) : Str := ⟨(List.replicate 1001 c).toArray⟩
theorem op_mulS {X : Cx} : OpR X (binaryOp .Mult) (fun x y H Q => ∃ c : Nat, x = .str (sg c) ∧ y = .int 1001 ∧ Q (.str (manyS c)) H) := by
  intro pins s σ H x y v u Q I rx ry ⟨c, ex, ey, q⟩
  subst ex ey
  obtain ⟨t, rfl⟩ := rx
  obtain ⟨t', rfl⟩ := ry
  have e : Txt.mul (sg c) 1001 = manyS c := by
    unfold Txt.mul
    rw [if_neg (by decide), if_neg (by show ¬ ((1001 : Int) == 1 || (1 : Nat) == 0) = true; decide)]
    exact str_ext (by
      show ((List.replicate 1001 #[c]).foldl (· ++ ·) #[]).toList = _
      rw [reps_list]
      simp [manyS])
  refine SB.mul ⟨by decide, fun _ _ => ?_, fun _ _ => ?_⟩ fun t' k => ⟨.str (manyS c), H, I.tok _, ⟨t', by rw [e]⟩, q⟩
  · show ¬ ((1 : Int) > (2 ^ 63 - 1) / 1001)
    decide
  · show Builtin.Str.tooLong (1 * 1001) = false
    decide +kernel
/-- all but the tables and what is at p stays -/
def Kp (p : Addr) (H H' : Hp) : Prop := ∀ b o, b ≠ p → (∀ ps, o ≠ .tbl ps) → H b = some o → H' b = some o
theorem Kp.refl (p : Addr) (H : Hp) : Kp p H H := fun _ _ _ _ h => h
theorem Kp.trans {p : Addr} {H H1 H2 : Hp} (a : Kp p H H1) (b : Kp p H1 H2) : Kp p H H2 := fun c o n t h => b c o n t (a c o n t h)
theorem Kp.sb {p : Addr} {H H' : Hp} (s : Sb p H H') : Kp p H H' := fun b o n _ h => s b o n h
theorem Kp.of {p : Addr} {H H' : Hp} (s : Same H H') : Kp p H H' := fun b o _ _ h => s b o h
theorem Kp.ext {p : Addr} {H H' : Hp} (s : ExtN H H') : Kp p H H' := fun b o _ t h => s b o h t
theorem Tabs.sb_ {T : List (Addr × Str)} {p : Addr} {H H' : Hp} (t : Tabs T H) (w : Wl H p) (s : Sb p H H') : Tabs T H' := fun q hq => by
  obtain ⟨ps, h1, h2, h3⟩ := t q hq
  refine ⟨ps, s _ _ (w.ne h1 fun a b c z => by cases z) h1, h2, fun pos cv hc => ?_⟩
  obtain ⟨c, e1, e2⟩ := h3 pos cv hc
  exact ⟨c, e1, s _ _ (w.ne e2 fun a b c z => by cases z) e2⟩
theorem Wl.ext_ {H H' : Hp} {p : Addr} (w : Wl H p) (s : ExtN H H') : Wl H' p := by
  obtain ⟨w0, w1, w2, a0, a1, e⟩ := w
  exact ⟨w0, w1, w2, a0, a1, s _ _ e fun _ z => by cases z⟩
theorem call_reprLK {X : Cx} {K : PySem.W.Frag} (h : X.K = K) (hg : X.A.guards = some []) (hu : X.A.units + 64 < cLine) : CallR X (.builtin "repr") (rRepr K) := by subst h; exact call_reprL hg hu
def Low (y : Str) : Prop := ∀ c ∈ y.cps.toList, c < 256
theorem Low.app {a b : Str} (h1 : Low a) (h2 : Low b) : Low (a ++ b) := fun c hc => by
  rw [cps_app] at hc
  rcases List.mem_append.mp hc with m | m
  · exact h1 c m
  · exact h2 c m
theorem reprChar_low : ∀ c, c < 256 → ∀ q ∈ [39, 34], (reprChar q c).all (fun e => decide (e < 256)) = true := by decide +kernel
theorem fold_low (q : Nat) (hq : q ∈ [39, 34]) : ∀ (l : List Nat) (acc : Array Nat), (∀ c ∈ l, c < 256) → (∀ c ∈ acc.toList, c < 256) → ∀ c ∈ (l.foldl (fun out c => out ++ (reprChar q c).toArray) acc).toList, c < 256
  | [], acc, _, h => h
  | d :: r, acc, h1, h2 => by
    refine fold_low q hq r _ (fun c hc => h1 c (by simp [hc])) fun c hc => ?_
    simp only [Array.toList_append, List.mem_append] at hc
    rcases hc with m | m
    · exact h2 c m
    · exact of_decide_eq_true (List.all_eq_true.mp (reprChar_low d (h1 d (by simp)) q hq) c m)
theorem repr_low {x : Str} (h : Low x) : Low (reprText x) := fun c hc => by
  have hq : reprQuote x ∈ [39, 34] := by
    unfold reprQuote
    split <;> simp
  unfold reprText at hc
  simp only [Array.toList_push, List.mem_append, List.mem_singleton] at hc
  have q0 : reprQuote x < 256 := by
    simp only [List.mem_cons, List.not_mem_nil, or_false] at hq
    omega
  rcases hc with m | m
  · rw [← Array.foldl_toList] at m
    exact fold_low _ hq _ _ h (fun d hd => by
      have : d = reprQuote x := by simpa using hd
      rw [this]; exact q0) c m
  · rw [m]; exact q0
theorem repr_short {x : Str} (h : Low x) : (reprText x).length ≤ 10 * x.length + 2 := StrLaws.reprText_len x fun c hc => Nat.lt_trans (h c hc) (by decide)
/-- what repr(["row", d]) is asked for -/
structure Gd (d : PyData) : Prop where
  sh : PyData.showableAll [.str "row", d] = true
  ln : (PyData.list [.str "row", d]).shown.length ≤ sizeLine
  dp : (PyData.list [.str "row", d]).depth ≤ 60
  ok : PyData.strOk (PyData.list [.str "row", d]).shown = true
theorem row_text (t : Str) : listText [reprText "row", t] = ("['row', " : Str) ++ t ++ "]" := by
  have e : textFrom 0 "[" [reprText "row", t] = ("['row', " : Str) ++ t := by
    show (("[" : Str) ++ ("" : Str) ++ reprText "row") ++ (", " : Str) ++ t = _
    have : (("[" : Str) ++ ("" : Str) ++ reprText "row") ++ (", " : Str) = "['row', " := by decide +kernel
    rw [this]
  unfold listText
  rw [e]
theorem gd_of {d : PyData} (h1 : d.showable = true) (h2 : d.shown.length ≤ 20000) (h3 : d.depth ≤ 50) (h4 : Low d.shown) : Gd d := by
  have e : (PyData.list [.str "row", d]).shown = ("['row', " : Str) ++ d.shown ++ "]" := by
    rw [← row_text]
    simp only [PyData.shown, PyData.shownAll]
  refine ⟨?_, ?_, ?_, ?_⟩
  · simp only [PyData.showableAll, PyData.showable, h1, Bool.and_self]
  · rw [e, len_app, len_app]
    have a : ("['row', " : Str).length = 8 := by decide +kernel
    have b : ("]" : Str).length = 1 := by decide +kernel
    rw [a, b, sizeLine_eq]
    omega
  · simp only [PyData.depth, PyData.depthAll]
    omega
  · rw [e]
    exact ok_low (Low.app (Low.app (by unfold Low; decide +kernel) h4) (by unfold Low; decide +kernel))
theorem gd_str {r : Str} (h : Low r) (hl : r.length ≤ 1100) : Gd (.str r) := by
  have := repr_short h
  refine gd_of (by simp only [PyData.showable]) ?_ (by simp only [PyData.depth]; omega) ?_
  · simp only [PyData.shown]
    omega
  · simp only [PyData.shown]
    exact repr_low h
theorem gd_list {r : Str} (h : Low r) (hl : r.length ≤ 1100) : Gd (.list [.str r]) := by
  have := repr_short h
  have e : (PyData.list [.str r]).shown = ("[" : Str) ++ reprText r ++ "]" := by
    simp only [PyData.shown, PyData.shownAll]
    unfold listText
    show (("[" : Str) ++ ("" : Str) ++ reprText r) ++ "]" = _
    have : ("[" : Str) ++ ("" : Str) = "[" := by decide +kernel
    rw [this]
  refine gd_of (by simp only [PyData.showable, PyData.showableAll, Bool.and_self]) ?_ (by simp only [PyData.depth, PyData.depthAll]; omega) ?_
  · rw [e, len_app, len_app]
    have a : ("[" : Str).length = 1 := by decide +kernel
    have b : ("]" : Str).length = 1 := by decide +kernel
    omega
  · rw [e]
    exact Low.app (Low.app (by unfold Low; decide +kernel) (repr_low h)) (by unfold Low; decide +kernel)
theorem gd_tup {r : Str} (h : Low r) (hl : r.length ≤ 1100) : Gd (.tuple [.str r]) := by
  have := repr_short h
  have e : (PyData.tuple [.str r]).shown = ("(" : Str) ++ reprText r ++ ",)" := by
    simp only [PyData.shown, PyData.shownAll]
    rfl
  refine gd_of (by simp only [PyData.showable, PyData.showableAll, Bool.and_self]) ?_ (by simp only [PyData.depth, PyData.depthAll]; omega) ?_
  · rw [e, len_app, len_app]
    have a : ("(" : Str).length = 1 := by decide +kernel
    have b : (",)" : Str).length = 2 := by decide +kernel
    omega
  · rw [e]
    exact Low.app (Low.app (by unfold Low; decide +kernel) (repr_low h)) (by unfold Low; decide +kernel)
mutual
theorem Sh.ext {K : PySem.W.Frag} {H H' : Hp} (s : ExtN H H') : ∀ {v : V} {d : PyData}, Sh K H v d → Sh K H' v d
  | _, _, .fl f => .fl f
  | _, _, .lst h t => .lst (by
      rcases h with (h | ⟨o, h⟩) | h
      · exact .inl (.inl (s _ _ h fun _ z => by cases z))
      · exact .inl (.inr ⟨o, s _ _ h fun _ z => by cases z⟩)
      · exact .inr h) (ShAll.ext s t)
  | _, _, .tup h t => .tup (by
      rcases h with (h | ⟨o, h⟩) | h
      · exact .inl (.inl (s _ _ h fun _ z => by cases z))
      · exact .inl (.inr ⟨o, s _ _ h fun _ z => by cases z⟩)
      · exact .inr h) (ShAll.ext s t)
  | _, _, .dic h a b => .dic (s _ _ h fun _ z => by cases z) a b
theorem ShAll.ext {K : PySem.W.Frag} {H H' : Hp} (s : ExtN H H') : ∀ {vs : List V} {ds : List PyData}, ShAll K H vs ds → ShAll K H' vs ds
  | _, _, .nil => .nil
  | _, _, .cons a b => .cons (Sh.ext s a) (ShAll.ext s b)
end
theorem Kp.cut {p : Addr} {H H' : Hp} (s : Kp p H H') : ExtN (del H p) (del H' p) := fun b o e t => by
  by_cases hb : b = p
  · rw [hb, del_same] at e; cases e
  · rw [del_ne hb] at e ⊢
    exact s b o hb t e
theorem ext_of_del {H : Hp} {p : Addr} : ExtN (del H p) H := fun b o e _ => by
  by_cases hb : b = p
  · rw [hb, del_same] at e; cases e
  · rw [del_ne hb] at e; exact e
theorem sb_of_del {p : Addr} {H H' : Hp} (s : Same (del H p) (del H' p)) : Sb p H H' := fun b o n e => by
  have := s b o (by rw [del_ne n]; exact e)
  rw [del_ne n] at this
  exact this
/-- a text, or of another type -/
theorem sh_ty {K : PySem.W.Frag} {H : Hp} {v : V} {d : PyData} (h : Sh K H v d) : (∃ r, v = .str r ∧ d = .str r) ∨ ∃ ty, TyX K H v ty ∧ PySem.W.kitOne K ty (.type "str") = some false := by
  cases h with
  | fl f =>
    cases f with
    | non => exact .inr ⟨_, .base .non, kit_ty (by decide +kernel)⟩
    | bl b => exact .inr ⟨_, .base (.bl b), kit_ty (by decide +kernel)⟩
    | int i => exact .inr ⟨_, .base (.int i), kit_ty (by decide +kernel)⟩
    | str x => exact .inl ⟨x, rfl, rfl⟩
  | lst h t =>
    rcases h with (h | ⟨o, h⟩) | ⟨o, its, n, hk, hc, _⟩
    · exact .inr ⟨_, .base (.lst h), kit_ty (by decide +kernel)⟩
    · exact .inr ⟨_, .base (.frz h), kit_ty (by decide +kernel)⟩
    · exact .inr ⟨_, .kList hk hc, kit_ty (by decide +kernel)⟩
  | tup h t =>
    rcases h with (h | ⟨o, h⟩) | ⟨o, its, n, hk, hc, _⟩
    · exact .inr ⟨_, .base (.tup h), kit_ty (by decide +kernel)⟩
    · exact .inr ⟨_, .fTuple h, kit_ty (by decide +kernel)⟩
    · exact .inr ⟨_, .kTuple hk hc, kit_ty (by decide +kernel)⟩
  | dic h a b => exact .inr ⟨_, .base (.dK h), kit_ty (by decide +kernel)⟩
theorem row_is {x r : Str} (h1 : r.length ≤ 1000) (h2 : ∀ c ∈ r.cps.toList, c ∈ x.cps.toList) : isRowL x r = true := by
  unfold isRowL
  rw [decide_eq_true h1, Bool.true_and]
  exact List.all_eq_true.mpr fun c hc => decide_eq_true (h2 c hc)
theorem cut_sub (r : Str) (lo hi : Option Int) : ∀ c ∈ (cutS r lo hi).cps.toList, c ∈ r.cps.toList := fun c hc => by
  unfold cutS at hc
  exact List.mem_of_mem_drop (List.mem_of_mem_take (by simpa using hc))
theorem many_low {c : Nat} (h : c < 256) : Low (manyS c) := fun d hd => by
  unfold manyS at hd
  have : d = c := by simpa using hd
  rw [this]; exact h
theorem many_len (c : Nat) : (manyS c).length = 1001 := by
  show ((List.replicate 1001 c).toArray).size = 1001
  rw [List.size_toArray, List.length_replicate]
theorem sg_low {c : Nat} (h : c < 256) : Low (sg c) := fun d hd => by
  have : d = c := by simpa using hd
  rw [this]; exact h
theorem Tabs.off {T : List (Addr × Str)} {l : Addr} {H : Hp} {xs : List V} {o : HO} (t : Tabs T H) (e : H l = some (.lst xs)) : Tabs T (upd H l o) := fun q hq => by
  obtain ⟨ps, h1, h2, h3⟩ := t q hq
  refine ⟨ps, by rw [upd_ne (ne_of h1 e (by intro z; cases z))]; exact h1, h2, fun pos cv hc => ?_⟩
  obtain ⟨c, e1, e2⟩ := h3 pos cv hc
  exact ⟨c, e1, by rw [upd_ne (ne_of e2 e (by intro z; cases z))]; exact e2⟩
end My
namespace L2
open PySem PySem.Spec PyProof.Rows PySem.GX PySem.W
/-- a, b, *c, d = a tuple -/
def gStar (K : PySem.W.Frag) (n i : Nat) (t : TGs) : TG := fun v σ H Q => ∃ a xs, v = .ref a ∧ SqT K H a xs ∧ i < n ∧ n ≤ xs.length + 1 ∧ xs.length ≤ 16384 ∧
  ∀ D, H D = none → t (xs.take i ++ [.ref D] ++ (xs.drop i).drop (xs.length + 1 - n)) σ (upd H D (.lst ((xs.drop i).take (xs.length + 1 - n)))) Q
theorem vals_take {vs : List V} {us : List Value} (r : Vals vs us) : ∀ n, Vals (vs.take n) (us.take n) := by
  induction r with
  | nil => intro n; cases n <;> exact .nil
  | cons a t ih =>
    intro n
    cases n with
    | zero => exact .nil
    | succ n => exact .cons a (ih n)
theorem vals_drop {vs : List V} {us : List Value} (r : Vals vs us) : ∀ n, Vals (vs.drop n) (us.drop n) := by
  induction r with
  | nil => intro n; cases n <;> exact .nil
  | cons a t ih =>
    intro n
    cases n with
    | zero => exact .cons a t
    | succ n => exact ih n
theorem pg_star {X : Cx} {es : List Expr} {k : Nat} {t : TGs} {n i : Nat} {pos : Pos} (hc : X.calm = true) (h : PGs X es t)
    (hn : (assignEach es X.env).length = n := by rfl) (hst : (assignEach es X.env).findIdx? (·.1) = some i := by rfl) : PG X (.Tuple es k pos) (gStar X.K n i t) := by
  refine ⟨fun pins s σ H v u Q I r hw => ?_⟩
  obtain ⟨a, xs, e1, hq, hi, hle, hz, hw⟩ := hw
  subst e1
  cases r
  obtain ⟨its, rv, hl, _⟩ := I.tuple hq
  have hh := I.ok.hd hc
  have hs : xs.length = its.length := rv.length
  generalize hit : its.toArray = items at hl
  have hsz : items.size = its.length := by rw [← hit]; simp
  have htl : items.toList = its := by rw [← hit]
  rw [assign_Tuple]
  refine wpAny_bind (wpAny_standAt ?_)
  unfold unpack
  rw [hn, hst]
  refine wpAny_bind (wpAny_holding ?_)
  have hlt : a ≠ s.heap.objs.size := by obtain ⟨o, ho, _⟩ := hl; exact Nat.ne_of_lt (Heap.lt_size ho)
  unfold unpackItems
  refine wpAny_bind ?_
  unfold notIterableAtAll
  refine wpAny_bind (wpAny_specialOf hl.typeIs slot_tuple_iter.lookup ?_)
  refine wpAny_pure ?_
  simp only [Bool.false_eq_true, if_false]
  refine wpAny_bind (wpAny_holding (iter_tuple hl ?_))
  refine wpAny_bind (wpAny_holding (draw_tuple hlt i 0 _ _ ⟨_, Heap.get?_push_size _ rfl, rfl, rfl⟩ (hl.push _) (by omega) fun h₁ hit₁ hs₁ => ?_))
  have hl₁ : IsTup h₁ a items := (hl.push _).extBut hs₁.extBut hlt
  rw [Nat.zero_add] at hit₁
  have hit₁' := hit₁
  obtain ⟨oi, hoi, _⟩ := hit₁'
  have hl₁' := hl₁
  obtain ⟨ol, hol, _⟩ := hl₁'
  rw [List.drop_zero]
  have hfl : (items.toList.take i).length = i := by rw [List.length_take, Array.length_toList]; omega
  rw [if_neg (show ¬ ((items.toList.take i).length < i) by rw [hfl]; omega)]
  refine wpAny_bind (wpAny_holding (kun_collect (s := { s with heap := h₁ }) (T := "tuple_iterator") (.inr (.inr (.inr rfl))) (Walks.tuple (A := X.A.in1) hh s.heap.objs.size a hlt items) (fun j u st => st.1.typeIs) (k := i) (by omega) ⟨hit₁, hl₁⟩ (Heap.lt_size hoi) (Heap.lt_size hol) (fun h₂ tk hk => ?_) (by rw [sizeLine_eq]; omega)))
  have hrl : (items.toList.drop i).length = items.size - i := by rw [List.length_drop, Array.length_toList]
  have hmid : (items.toList.drop i).length - (n - 1 - i) = items.size + 1 - n := by rw [hrl]; omega
  show wpAny _ _ (if (items.toList.drop i).length < n - 1 - i then _ else _) _ _ _
  rw [if_neg (by rw [hrl]; omega)]
  show wpAny _ _ (newList ((items.toList.drop i).take ((items.toList.drop i).length - (n - 1 - i))) >>= fun d => pure (items.toList.take i ++ [d] ++ (items.toList.drop i).drop ((items.toList.drop i).length - (n - 1 - i)))) _ _ _
  rw [hmid, htl, hsz, ← hs]
  have he : ∀ b o, s.heap.get? b = some o → h₂.get? b = some o := fun b o e => by
    have hb : b ≠ s.heap.objs.size := Nat.ne_of_lt (Heap.lt_size e)
    exact hk b o hb (hs₁.extBut b o hb (Heap.get?_push_of_some _ e))
  have I1 : Inv X pins σ H { s with heap := h₂, toks := tk } := I.kept (t' := tk) he
  have hf : H h₂.objs.size = none := I1.hok.fresh (Nat.le_refl _)
  have hlen : ((its.drop i).take (xs.length + 1 - n)).length ≤ sizeLine := by rw [List.length_take, List.length_drop, sizeLine_eq]; omega
  refine wpAny_bind (wpAny_newObj_type (wpAny_pure ?_) ?_)
  · have I2 := I1.laid (a := h₂.objs.size) (o := .lst ((xs.drop i).take (xs.length + 1 - n))) (t' := tk) (h' := h₂.push { cls := .type "list", data := .seq ((its.drop i).take (xs.length + 1 - n)).toArray 0 }) (fun b u e => Heap.get?_push_of_some _ e) (Nat.le_refl _) ⟨by rw [List.length_take, List.length_drop, sizeLine_eq]; omega, _, 0, vals_take (vals_drop rv i) _, Heap.get?_push_size _ rfl⟩
    exact h.run pins _ σ _ _ _ Q I2 (((vals_take rv i).append (.cons (show RelV (.ref h₂.objs.size) (Value.ref h₂.objs.size) from rfl) .nil)).append (vals_drop (vals_drop rv i) _)) (hw _ hf)
  · size_fits
theorem pgs_star {X : Cx} {e : Expr} {p : Pos} {es : List Expr} {t : TG} {u : TGs} (h1 : PG X e t) (h2 : PGs X es u)
    (hs : (assignEach (.Starred e p :: es) X.env).map (·.2) = assign e X.env :: (assignEach es X.env).map (·.2) := by rfl) : PGs X (.Starred e p :: es) (gCons t u) := by
  refine ⟨fun pins s σ H vs us Q I r h => ?_⟩
  obtain ⟨v, vr, e1, h⟩ := h
  subst e1
  cases r with
  | cons r rr =>
    rw [hs]
    refine assignInOrder_cons (thn (h1.run pins s σ H _ _ _ I r h) fun _ s1 ⟨σ1, H1, I1, q1⟩ => ?_)
    exact h2.run pins s1 σ1 H1 _ _ Q I1 rr q1
/-- text * a number -/
theorem mul_len {x : Str} {n : Nat} : (Txt.mul x (n : Int)).length = x.length * n := by
  unfold Txt.mul
  by_cases h1 : (n : Int) < 1
  · have : n = 0 := by omega
    subst this
    rw [if_pos h1]
    rfl
  · rw [if_neg h1]
    by_cases h2 : ((n : Int) == 1 || x.length == 0) = true
    · rw [if_pos h2]
      rcases Bool.or_eq_true_iff.mp h2 with e | e
      · have : n = 1 := by have := beq_iff_eq.mp e; omega
        subst this
        rw [Nat.mul_one]
      · have : x.length = 0 := by simpa using e
        rw [this, Nat.zero_mul]
    · rw [if_neg h2]
      have go : ∀ (m : Nat) (acc : Array Nat), ((List.replicate m x.cps).foldl (· ++ ·) acc).size = acc.size + x.length * m := by
        intro m
        induction m with
        | zero => intro acc; simp
        | succ m ih =>
          intro acc
          rw [List.replicate_succ, List.foldl_cons, ih, Array.size_append, Nat.mul_succ]
          show acc.size + x.length + _ = _
          omega
      show ((List.replicate (n : Int).toNat x.cps).foldl (· ++ ·) #[]).size = _
      rw [go]
      simp
def rMulX : V → V → Hp → VK → Prop := fun x y H Q => ∃ (z : Str) (n : Nat), x = .str z ∧ y = .int (n : Int) ∧ n ≤ 1000 ∧ z.length ≤ 10000 ∧ ∀ r : Str, r = Txt.mul z (n : Int) → r.length = z.length * n → Q (.str r) H
theorem op_mulX {X : Cx} : OpR X (binaryOp .Mult) rMulX := by
  intro pins s σ H x y v u Q I rx ry ⟨z, n, ex, ey, hn, hz, q⟩
  subst ex ey
  obtain ⟨t, rfl⟩ := rx
  obtain ⟨t', rfl⟩ := ry
  have hm : z.length * n ≤ 10000 * 1000 := Nat.mul_le_mul hz hn
  refine SB.mul ⟨?_, fun h _ => ?_, fun _ _ => ?_⟩ fun t' k => ⟨.str (Txt.mul z (n : Int)), H, I.tok _, ⟨t', rfl⟩, q _ rfl mul_len⟩
  · rw [decide_eq_false (by omega), decide_eq_false (by omega)]
    rfl
  · have h1 : 1 ≤ (n : Int) := by omega
    have e : (1000000 : Int) ≤ (2 ^ 63 - 1) / (n : Int) := by
      apply Int.le_ediv_of_mul_le (by omega)
      have : (n : Int) ≤ 1000 := by omega
      omega
    omega
  · show decide (_ > sizeLine) = false
    rw [sizeLine_eq]
    apply decide_eq_false
    show ¬ z.length * (n : Int).toNat > 16777216
    rw [Int.toNat_natCast]
    omega
end L2
namespace My
open PySem PySem.Spec PyProof.Rows L2 PySem.GX L2H LamX
abbrev kinds : List Str := ["last", "ends", "windows", "sets"]
def isK (d : PyData) : Bool := kinds.any fun z => isTx z d
/-- an integer in bounds -/
def inb (d : PyData) (lo hi : Int) : Bool := match d with
  | .int i => decide (lo ≤ i) && decide (i ≤ hi)
  | _ => false
def leastN (k : Str) : Int := if k = "last" then 0 else 1
def isI : PyData → Bool
  | .int _ => true
  | .bool _ => true
  | _ => false
def isB : PyData → Bool
  | .bool _ => true
  | _ => false
def isS : PyData → Bool
  | .str _ => true
  | _ => false
theorem sh_kit {K : PySem.W.Frag} {H : Hp} {v : V} {d : PyData} (h : Sh K H v d) : ∃ ty, TyX K H v ty ∧ PySem.W.kitOne K ty (.type "int") = some (isI d) ∧ PySem.W.kitOne K ty (.type "bool") = some (isB d) ∧ PySem.W.kitOne K ty (.type "str") = some (isS d) := by
  cases h with
  | fl f =>
    cases f with
    | non => exact ⟨_, .base .non, kit_ty (show _ = some false by decide +kernel), kit_ty (show _ = some false by decide +kernel), kit_ty (show _ = some false by decide +kernel)⟩
    | bl b => exact ⟨_, .base (.bl b), kit_ty (show _ = some true by decide +kernel), kit_ty (show _ = some true by decide +kernel), kit_ty (show _ = some false by decide +kernel)⟩
    | int i => exact ⟨_, .base (.int i), kit_ty (show _ = some true by decide +kernel), kit_ty (show _ = some false by decide +kernel), kit_ty (show _ = some false by decide +kernel)⟩
    | str x => exact ⟨_, .base (.str x), kit_ty (show _ = some false by decide +kernel), kit_ty (show _ = some false by decide +kernel), kit_ty (show _ = some true by decide +kernel)⟩
  | lst h t =>
    rcases h with (h | ⟨o, h⟩) | ⟨o, its, n, hk, hc, _⟩
    · exact ⟨_, .base (.lst h), kit_ty (show _ = some false by decide +kernel), kit_ty (show _ = some false by decide +kernel), kit_ty (show _ = some false by decide +kernel)⟩
    · exact ⟨_, .base (.frz h), kit_ty (show _ = some false by decide +kernel), kit_ty (show _ = some false by decide +kernel), kit_ty (show _ = some false by decide +kernel)⟩
    · exact ⟨_, .kList hk hc, kit_ty (show _ = some false by decide +kernel), kit_ty (show _ = some false by decide +kernel), kit_ty (show _ = some false by decide +kernel)⟩
  | tup h t =>
    rcases h with (h | ⟨o, h⟩) | ⟨o, its, n, hk, hc, _⟩
    · exact ⟨_, .base (.tup h), kit_ty (show _ = some false by decide +kernel), kit_ty (show _ = some false by decide +kernel), kit_ty (show _ = some false by decide +kernel)⟩
    · exact ⟨_, .fTuple h, kit_ty (show _ = some false by decide +kernel), kit_ty (show _ = some false by decide +kernel), kit_ty (show _ = some false by decide +kernel)⟩
    · exact ⟨_, .kTuple hk hc, kit_ty (show _ = some false by decide +kernel), kit_ty (show _ = some false by decide +kernel), kit_ty (show _ = some false by decide +kernel)⟩
  | dic h a b => exact ⟨_, .base (.dK h), kit_ty (show _ = some false by decide +kernel), kit_ty (show _ = some false by decide +kernel), kit_ty (show _ = some false by decide +kernel)⟩
theorem sh_int {K : PySem.W.Frag} {H : Hp} {v : V} {i : Int} (h : Sh K H v (.int i)) : v = .int i := by
  cases h with
  | fl f => cases f; rfl
theorem sh_str {K : PySem.W.Frag} {H : Hp} {v : V} {x : Str} (h : Sh K H v (.str x)) : v = .str x := by
  cases h with
  | fl f => cases f; rfl
/-- the promise where nothing is raised -/
theorem FnOk.calm_ {P : Program} {w : World} {K : PySem.W.Frag} {mg : Str → Option Value} {base : Heap} {k : Nat} {f : Addr} {fd : FuncData} {ps : List Str} {sp sp0 : Sp} (F : FnOk P w K mg base (L2N.CX P w) k f fd ps sp) (m : ∀ vs H Q E, sp0 vs H Q E → sp vs H Q E0) : FnOk P w K mg base CX0 k f fd ps sp0 :=
  ⟨fun vs H Q E h => F.len vs H Q E0 (m _ _ _ _ h), fun A outer s H args us vs Q E hr e0 hb r h => codeAny_mono (F.run A outer s H args us vs Q E0 hr e0 hb r (m _ _ _ _ h)) fun r s' hq => by
    cases r with
    | error e =>
      obtain ⟨a, B, H', cls, d, _, _, _, _, _, _, _, hE⟩ := hq
      exact hE.elim
    | ok fl => cases fl <;> exact hq⟩
/-- raises C with v as what is given -/
def Rz (C : Addr) (v : V) (H : Hp) (E : XK) : Prop := ∀ da H', Same H H' → H' da = some (exd da [("given", v)]) → E (.ref C) (some da) H'
theorem Rz.same {C : Addr} {v : V} {H H1 : Hp} {E : XK} (h : Rz C v H E) (s : Same H H1) : Rz C v H1 E := fun da H' s' e => h da H' (s.trans s') e
/-- what is known of a class that is raised -/
structure RzC (P : Program) (w : World) (K : PySem.W.Frag) (mg : Str → Option Value) (base : Heap) (x : Str) (C : Addr) : Prop where
  mk1 : Mk1 P w K mg base x C "given"
  b1 : PySem.W.subIn K (.ref C) (.type "BaseException") = some true
  b2 : PySem.W.typeIn K (.ref C) = some (.type "type")
theorem PE_imp {X : Cx} {e : Expr} {t t' : TE} (h : PE X e t) (m : ∀ σ H Q, t' σ H Q → t σ H Q) : PE X e t' := ⟨fun pins s σ H Q I q => h.run pins s σ H Q I (m σ H Q q)⟩
def isKs (ws : List Str) (d : PyData) : Bool := ws.any fun z => isTx z d
theorem isK_is (d : PyData) : isK d = isKs kinds d := rfl
/-- the def x is there, and keeps the promise; it may raise -/
structure HvX (P : Program) (w : World) (K : PySem.W.Frag) (mg : Str → Option Value) (base : Heap) (k : Nat) (x : Str) (ps : List Str) (sp : Sp) : Prop where
  ex : ∃ (f : Addr) (fd : FuncData), FnOk P w K mg base (L2N.CX P w) k f fd ps sp ∧ Binds K fd ps [] ∧ mg x = some (.ref f) ∧ PySem.W.keepIn K (.ref f) = true
theorem pe_clX {X : Cx} {k : Nat} {x : Str} {ps : List Str} {sp : Sp} {p pos : Pos} {e : Expr} {es : List Expr} {t : TA} {E : XK} (h : HvX X.prog X.w X.K X.mg X.base k x ps sp) (hr : Room k X.A) (hg : Gl X x) (hx : Passes (L2N.CX X.prog X.w) X E) (ha : PA X (e :: es) t)
    (hdb : (x == ("__debug__" : Str)) = false := by decide) (he : starEach (e :: es) X.env = (false, eval e X.env) :: starEach es X.env := by rfl) (hpl : (backTo pos (starEach es X.env)).any (·.1) = false := by rfl) :
    PE X (.Call (.Name x p) (e :: es) [] pos) (tCall sp [] E t) := by
  obtain ⟨f, fd, F, b, g, kp⟩ := h.ex
  exact pe_call F hr hg g kp b .nil hx ha hdb he hpl
/-- the same, called without its last parameters, whose values are dvs -/
structure HvD (P : Program) (w : World) (K : PySem.W.Frag) (mg : Str → Option Value) (base : Heap) (k : Nat) (x : Str) (ps : List Str) (dvs : List V) (sp : Sp) : Prop where
  ex : ∃ (f : Addr) (fd : FuncData) (ds : List Value), FnOk P w K mg base (L2N.CX P w) k f fd ps sp ∧ Vals dvs ds ∧ Binds K fd ps ds ∧ mg x = some (.ref f) ∧ PySem.W.keepIn K (.ref f) = true
theorem pe_clD {X : Cx} {k : Nat} {x : Str} {ps : List Str} {dvs : List V} {sp : Sp} {p pos : Pos} {e : Expr} {es : List Expr} {t : TA} {E : XK} (h : HvD X.prog X.w X.K X.mg X.base k x ps dvs sp) (hr : Room k X.A) (hg : Gl X x) (hx : Passes (L2N.CX X.prog X.w) X E) (ha : PA X (e :: es) t)
    (hdb : (x == ("__debug__" : Str)) = false := by decide) (he : starEach (e :: es) X.env = (false, eval e X.env) :: starEach es X.env := by rfl) (hpl : (backTo pos (starEach es X.env)).any (·.1) = false := by rfl) :
    PE X (.Call (.Name x p) (e :: es) [] pos) (tCall sp dvs E t) := by
  obtain ⟨f, fd, ds, F, v, b, g, kp⟩ := h.ex
  exact pe_call F hr hg g kp b v hx ha hdb he hpl
def spIsK (K : PySem.W.Frag) : Sp := fun vs H Q _ => ∃ (v : V) (d : PyData) (t : Addr) (ws : List Str), vs = [v, .ref t] ∧ Sh K H v d ∧ SqT K H t (ws.map V.str) ∧ Q (.bl (isKs ws d)) H
def spCKs (K : PySem.W.Frag) (C2 : Addr) : Sp := fun vs H Q E => ∃ (v : V) (d : PyData) (t : Addr) (ws : List Str), vs = [v, .ref t] ∧ Sh K H v d ∧ SqT K H t (ws.map V.str) ∧ (isKs ws d = true → Q .non H) ∧ (isKs ws d = false → Rz C2 v H E)
theorem isKs_str (ws : List Str) (x : Str) : inV (.str x) (ws.map V.str) = isKs ws (.str x) := by
  rw [in_strs]
  unfold isKs
  rw [Bool.eq_iff_iff, decide_eq_true_eq, List.any_eq_true]
  exact ⟨fun h => ⟨x, h, decide_eq_true rfl⟩, fun ⟨z, h1, h2⟩ => by rw [show x = z from of_decide_eq_true h2]; exact h1⟩
theorem isKs_no {ws : List Str} {d : PyData} (h : ¬ isS d = true) : isKs ws d = false := by
  have : ∀ z, isTx z d = false := fun z => by
    match d, h with
    | .str _, h => exact absurd rfl h
    | .int i, _ => rfl
    | .bool b, _ => rfl
    | .none, _ => rfl
    | .list _, _ => rfl
    | .tuple _, _ => rfl
    | .dict _, _ => rfl
  unfold isKs
  rw [Bool.eq_false_iff]
  intro z
  obtain ⟨y, _, e⟩ := List.any_eq_true.mp z
  rw [this y] at e
  cases e
end My
namespace My
open PySem PySem.Spec PyProof.Rows L2 PySem.GX L2H LamX
/-- a list beside an empty one -/
def rEqNil (K : PySem.W.Frag) (neg : Bool) : R2 := fun x y H Q => ∃ (a b : Addr) (xs : List V), x = .ref a ∧ y = .ref b ∧ SqL K H a xs ∧ SqL K H b [] ∧ Q (.bl (if neg then !xs.isEmpty else xs.isEmpty)) H
theorem op_eqNil {X : Cx} (hu : X.A.units < cLine) : OpR X (compareOp .Eq) (rEqNil X.K false) := by
  intro pins s σ H x y v u Q I rx ry ⟨a, b, xs, ex, ey, ha, hb, q⟩
  subst ex ey
  cases rx
  cases ry
  obtain ⟨its, rv, ⟨o, n, ho, hc, _, hd⟩, _⟩ := I.list ha
  obtain ⟨its2, rv2, ⟨o2, n2, ho2, hc2, _, hd2⟩, _⟩ := I.list hb
  cases rv2
  cases rv with
  | nil => exact SeqAt.RcAt.lists (e := fun _ => true) ⟨o, ho, hc, n, hd⟩ ⟨o2, ho2, hc2, n2, hd2⟩ rfl hu (fun j h1 _ => absurd h1 (Nat.not_lt_zero j)) _ _ _ _ ⟨.bl _, H, I, rfl, q⟩
  | cons r1 r2 => exact SeqAt.RcAt.lists_lengths ⟨o, ho, hc, n, hd⟩ ⟨o2, ho2, hc2, n2, hd2⟩ (by simp) hu _ _ _ _ ⟨.bl _, H, I, rfl, q⟩
theorem op_neNil {X : Cx} (hu : X.A.units < cLine) : OpR X (compareOp .NotEq) (rEqNil X.K true) := by
  intro pins s σ H x y v u Q I rx ry ⟨a, b, xs, ex, ey, ha, hb, q⟩
  subst ex ey
  cases rx
  cases ry
  obtain ⟨its, rv, ⟨o, n, ho, hc, _, hd⟩, _⟩ := I.list ha
  obtain ⟨its2, rv2, ⟨o2, n2, ho2, hc2, _, hd2⟩, _⟩ := I.list hb
  cases rv2
  cases rv with
  | nil => exact SeqAt.RcNeAt.lists (e := fun _ => true) ⟨o, ho, hc, n, hd⟩ ⟨o2, ho2, hc2, n2, hd2⟩ rfl hu (fun j h1 _ => absurd h1 (Nat.not_lt_zero j)) _ _ _ _ ⟨.bl _, H, I, rfl, q⟩
  | cons r1 r2 => exact SeqAt.RcNeAt.lists_lengths ⟨o, ho, hc, n, hd⟩ ⟨o2, ho2, hc2, n2, hd2⟩ (by simp) hu _ _ _ _ ⟨.bl _, H, I, rfl, q⟩
/-- f(k = e, ..), keywords alone -/
def tCallKw (sp : Sp) (gV : List V → List V → List V) (n : Nat) (E : XK) (tk : TA) : TE := fun σ H Q => tk σ H fun zs H2 => zs.length = n ∧ sp (gV [] zs) H2 Q E
theorem pe_callKw {X : Cx} {CX : CXT} {k : Nat} {f : Addr} {fd : FuncData} {x : Str} {ps ks : List Str} {sp : Sp} {p pos : Pos} {kws : List Keyword} {tk : TA} {E : XK} {g : List Value → List Value → List Value} {gV : List V → List V → List V}
    (F : FnOk X.prog X.w X.K X.mg X.base CX k f fd ps sp) (hr : Room k X.A) (hg : Gl X x) (hm : X.mg x = some (.ref f)) (hk : PySem.W.keepIn X.K (.ref f) = true) (hb : KBn X.K fd ps 0 ks g gV) (hx : Passes CX X E) (hkw : PK X kws tk)
    (hdb : (x == ("__debug__" : Str)) = false := by decide) (hall : (backToKw pos (keywordEach kws X.env)).all (·.1.isSome) = true := by rfl) (hks : (backToKw pos (keywordEach kws X.env)).filterMap (·.1) = ks := by rfl)
    (hpl : ((backTo pos (starEach [] X.env)).any (·.1) || (backToKw pos (keywordEach kws X.env)).any (·.1.isNone)) = false := by rfl) :
    PE X (.Call (.Name x p) [] kws pos) (tCallKw sp gV ks.length E tk) := by
  refine ⟨fun pins s σ H Q I want => wpAny_Call_Name_kw (ld_glob I hg hm ?_ hdb)⟩
  refine PySem.W.callWith_KW0 (first := []) (h₀ := X.base) I.ok.mod.kin hk hall (thn (hkw.run pos pins s σ H _ I want) fun ws s2 ⟨zs, H2, I2, rz, lz, q2⟩ => ⟨I2.kIn, ?_⟩) hpl
  rw [hks]
  exact run_fnN (us := []) (vs := []) (n := 0) (ks := ks) F hr hb hx I2 .nil rz rfl lz q2
theorem if_false_of {c : Bool} {A B : Prop} (hc : c = false) (h : B) : if c = true then A else B := by
  rw [hc, if_neg Bool.false_ne_true]
  exact h
theorem PT_imp {X : Cx} {e : Expr} {t t' : L2.St → Hp → (Bool → Hp → Prop) → Prop} (h : PT X e t) (m : ∀ σ H Q, t' σ H Q → t σ H Q) : PT X e t' := ⟨fun pins s σ H Q I q => h.run pins s σ H Q I (m σ H Q q)⟩
theorem Dp.ext {K : PySem.W.Frag} {H H' : Hp} (s : Same H H') {v : V} {d : PyData} (h : Dp K H v d) : Dp K H' v d := by
  have sl : ∀ {a : Addr} {xs : List V}, SqL K H a xs → SqL K H' a xs := fun h => by
    rcases h with (h | ⟨o, h⟩) | h
    · exact .inl (.inl (s _ _ h))
    · exact .inl (.inr ⟨o, s _ _ h⟩)
    · exact .inr h
  have st : ∀ {a : Addr} {xs : List V}, SqT K H a xs → SqT K H' a xs := fun h => by
    rcases h with (h | ⟨o, h⟩) | h
    · exact .inl (.inl (s _ _ h))
    · exact .inl (.inr ⟨o, s _ _ h⟩)
    · exact .inr h
  exact Dp.rec (motive_1 := fun v d _ => Dp K H' v d) (motive_2 := fun vs ds _ => DpAll K H' vs ds) .non .bl .int .str (fun h _ i => .lst (sl h) i) (fun h _ i => .tup (st h) i) .nil (fun _ _ i j => .cons i j) h
theorem pick_strs {ws : List Str} {j : Nat} {y : V} (h : (ws.map V.str)[j]? = some y) : ∃ z ∈ ws, y = .str z := by
  rw [List.getElem?_map] at h
  cases e : ws[j]? with
  | none => rw [e] at h; cases h
  | some z => rw [e] at h; cases h; exact ⟨z, List.mem_of_getElem? e, rfl⟩
theorem op_notInTxK {X : Cx} {K : PySem.W.Frag} (h : X.K = K) (hu : X.A.units + 1 < cLine) : OpR X (compareOp .NotIn) (rNotInTx K) := by subst h; exact op_notInTx hu
theorem others_nil {x z : Str} : (z.cps.toList.filter fun c => !decide (c ∈ x.cps.toList)) = [] ↔ ∀ c ∈ z.cps.toList, c ∈ x.cps.toList := by
  rw [List.filter_eq_nil_iff]
  exact ⟨fun h c hc => by simpa using h c hc, fun h c hc => by simpa using h c hc⟩
theorem fm_sg (p : Nat → Bool) : ∀ cs : List Nat, (cs.filterMap fun c => if p c = true then some (V.str (sg c)) else none) = ((cs.filter p).map sg).map V.str
  | [] => rfl
  | c :: t => by
    by_cases h : p c = true
    · rw [List.filterMap_cons, if_pos h, List.filter_cons_of_pos h, fm_sg p t]
      rfl
    · rw [List.filterMap_cons, if_neg h, List.filter_cons_of_neg h, fm_sg p t]
theorem PS_imp {X : Cx} {st : Stmt} {t t' : TS} (h : PS X st t) (m : ∀ D σ H, t' D σ H → t D σ H) : PS X st t' := ⟨fun pins s σ H D I q => h.run pins s σ H D I (m D σ H q)⟩
end My
namespace My
open PySem PySem.Spec PyProof.Rows L2
/-! what the program says of texts, as plain functions -/
def isWordL (x : Str) : Bool := decide (1 ≤ x.length) && decide (x.length ≤ 8) && madeL x abc
def spWord : Sp := fun vs H Q _ => ∃ x : Str, vs = [.str x] ∧ x.length ≤ 16000000 ∧ ∀ H', Same H H' → Q (.bl (isWordL x)) H'
section
variable {P : Program} {w : World} {K : PySem.W.Frag} {mg : Str → Option Value} {base : Heap}
theorem scWord : FnScope ["text"] ["text"] (defScope sWord) := ⟨rfl, rfl, rfl, by decide +kernel, rfl, by decide +kernel, by decide +kernel⟩
theorem ok_word {f : Addr} {fd : FuncData} {tA tB : Tok} (F : Fun K "is_word" "is_word" sWord f fd) (hO : Hv P w K mg base 1 "made_of" ["text", "letters"] spMade) (hL : mg "len" = none) (gL : mg "LONGEST_WORD" = some (.int 8 tA)) (gA : mg "LETTERS" = some (.str abc tB)) : FnOk P w K mg base CX0 2 f fd ["text"] spWord := by
  refine F.ok scWord (fun vs H Q E h => ?_) (fun cdv A outer s H vs Q E hr h => ?_)
  · obtain ⟨x, rfl, _⟩ := h
    rfl
  · obtain ⟨x, rfl, hx, k⟩ := h
    refine ⟨_, pss_one (ps_ret (pe_and (pe_chain op_le op_le pe_int (pe_callB call_len_str (by rfl) hL PySem.boot_len (pa_cons (pv 0) pa_nil)) (pe_glob (v := .int 8) rfl gL ⟨_, rfl⟩)) (pe_one (pe_cl hO hr rfl pass0 (pa_cons (pv 0) (pa_cons (pe_glob (v := .str abc) rfl gA ⟨_, rfl⟩) pa_nil)))))), ?_⟩
    refine ⟨_, rfl, x, rfl, (by rw [sizeLine_eq]; omega), _, _, rfl, rfl, _, rfl, ?_⟩
    refine ite2 (fun c1 => ?_) (fun c1 => ?_)
    · refine ⟨_, _, rfl, rfl, _, rfl, ite2 (fun c2 => ⟨_, rfl, x, abc, rfl, hx, fun H' s => ?_⟩) (fun c2 => ?_)⟩
      · have e : isWordL x = madeL x abc := by
          have h1 := of_decide_eq_true c1
          have h2 := of_decide_eq_true c2
          unfold isWordL
          rw [decide_eq_true (by omega), decide_eq_true (by omega)]
          simp
        rw [← e]
        exact k _ s
      · have e : isWordL x = false := by
          have h2 := of_decide_eq_false (Bool.eq_false_iff.mpr c2)
          unfold isWordL
          rw [decide_eq_false (by omega : ¬ x.length ≤ 8)]
          simp
        rw [e] at k
        exact k _ (Same.refl _)
    · have e : isWordL x = false := by
        have h2 := of_decide_eq_false (Bool.eq_false_iff.mpr c1)
        unfold isWordL
        rw [decide_eq_false (by omega : ¬ 1 ≤ x.length)]
        simp
      rw [e] at k
      exact ⟨_, rfl, iteF (k _ (Same.refl _))⟩
end
end My
namespace My
open PySem PySem.Spec PyProof.Rows L2 PySem.GX
def areSignsL : List Str → Bool
  | [x] => decide (1 ≤ x.length) && decide (x.length ≤ 3) && madeL x abc && decide (x.cps.toList.Pairwise (· < ·))
  | _ => false
def areMoodsL (ws : List Str) : Bool := decide (1 ≤ ws.length) && decide (ws.length ≤ 300) && ws.all isWordL && decide ws.Nodup
def areGoodL (ws ms : List Str) : Bool := decide (ws = ms.filter fun m => decide (m ∈ ws))
end My
namespace My
open PySem PySem.Spec PyProof.Rows L2 PySem.GX
theorem areS1 (x : Str) : areSignsL [x] = (decide (1 ≤ x.length) && decide (x.length ≤ 3) && madeL x abc && decide (x.cps.toList.Pairwise (· < ·))) := rfl
def spSigns (K : PySem.W.Frag) : Sp := fun vs H Q _ => ∃ (l : Addr) (ws : List Str), vs = [.ref l] ∧ H l = some (.lst (ws.map V.str)) ∧ (∀ x ∈ ws, x.length ≤ 16000000) ∧ ∀ H', Same H H' → Q (.bl (areSignsL ws)) H'
def spMoods (K : PySem.W.Frag) : Sp := fun vs H Q _ => ∃ (l : Addr) (ws : List Str), vs = [.ref l] ∧ H l = some (.lst (ws.map V.str)) ∧ (∀ x ∈ ws, x.length ≤ 16000000) ∧ ∀ H', Same H H' → Q (.bl (areMoodsL ws)) H'
section
variable {P : Program} {w : World} {K : PySem.W.Frag} {mg : Str → Option Value} {base : Heap}
theorem scSigns : FnScope ["words"] ["words"] (defScope sSigns) := ⟨rfl, rfl, rfl, by decide +kernel, rfl, by decide +kernel, by decide +kernel⟩
theorem ok_signs {f : Addr} {fd : FuncData} {tA tB : Tok} (F : Fun K "are_signs" "are_signs" sSigns f fd) (hO : Hv P w K mg base 1 "made_of" ["text", "letters"] spMade) (gA : mg "LETTERS" = some (.str abc tB)) (hL : mg "len" = none) (hS : mg "set" = none) (hT : mg "sorted" = none) (gM : mg "MOST_SIGNS" = some (.int 3 tA)) :
    FnOk P w K mg base CX0 2 f fd ["words"] (spSigns K) := by
  refine F.ok scSigns (fun vs H Q E h => ?_) (fun cdv A outer s H vs Q E hr h => ?_)
  · obtain ⟨l, ws, rfl, _⟩ := h
    rfl
  · obtain ⟨l, ws, rfl, hl, hx, k⟩ := h
    refine ⟨_, pss_cons (ps_if (PW.pt (pw_or (pt_cmpR op_ne (pe_callB call_len_seq (by rfl) hL PySem.boot_len (pa_cons (pv 0) pa_nil)) pe_int (nomark _))
        (pw_or1 (pt_not (pt_chain op_le op_le pe_int (pe_callB call_len_str (by rfl) hL PySem.boot_len (pa_cons (pe_ix ix_list (pv 0) pe_int (fun _ _ => rfl)) pa_nil)) (pe_glob (v := .int 3) rfl gM ⟨_, rfl⟩))))))
        (pss_one (ps_ret pe_bl)) pss_nil)
      (pss_one (ps_ret (pe_and (pe_cl hO hr rfl pass0 (pa_cons (pe_ix ix_list (pv 0) pe_int (fun _ _ => rfl)) (pa_cons (pe_glob (v := .str abc) rfl gA ⟨_, rfl⟩) pa_nil)))
        (pe_one (pe_cmpR op_eq (pe_ix ix_list (pv 0) pe_int (fun _ _ => rfl)) (pe_join pe_str (pe_callB (cr_sortedTx rfl) (by rfl) hT (by decide +kernel) (pa_cons (pe_callTy (cr_setS rfl) (by rfl) hS (by decide +kernel) (pa_cons (pe_ix ix_list (pv 0) pe_int (fun _ _ => rfl)) pa_nil)) pa_nil))) (nomark _)))))), ?_⟩
    refine ⟨_, rfl, l, _, rfl, .inl (SqL.of hl), rfl, _, rfl, ?_⟩
    rw [List.length_map]
    match ws, hl, hx, k with
    | [], hl, hx, k => exact iteT (iteT (k _ (Same.refl _)))
    | _ :: _ :: _, hl, hx, k =>
      refine ite2 (fun c => iteT (k _ (Same.refl _))) (fun c => ?_)
      exfalso
      apply c
      simp
      omega
    | [x], hl, hx, k =>
      refine iteF ?_
      have hz := hx x (by simp)
      refine ⟨_, rfl, l, _, _, _, rfl, rfl, SqL.of hl, atI_nat (j := 0) rfl, x, rfl, (by rw [sizeLine_eq]; omega), _, _, rfl, rfl, _, rfl, ?_⟩
      refine ite2 (fun c1 => ?_) (fun c1 => ?_)
      · refine ⟨_, _, rfl, rfl, _, rfl, ?_⟩
        have h1 := of_decide_eq_true c1
        refine ite2 (fun c2 => ?_) (fun c2 => ?_)
        · have e : areSignsL [x] = false := by
            have h2 : (3 : Int) < (x.length : Int) := by simpa using c2
            rw [areS1]
            rw [decide_eq_false (by omega : ¬ x.length ≤ 3)]
            simp
          rw [e] at k
          exact k _ (Same.refl _)
        · have h2 : (x.length : Int) ≤ 3 := by simpa using c2
          have e : areSignsL [x] = (madeL x abc && decide (x.cps.toList.Pairwise (· < ·))) := by
            rw [areS1, decide_eq_true (show 1 ≤ x.length by omega), decide_eq_true (show x.length ≤ 3 by omega)]
            simp
          rw [e] at k
          refine ⟨_, rfl, l, _, _, _, rfl, rfl, SqL.of hl, atI_nat (j := 0) rfl, x, abc, rfl, hz, fun H1 s1 => ⟨_, rfl, ite2 (fun c3 => ?_) (fun c3 => ?_)⟩⟩
          · have hl1 := s1 _ _ hl
            refine ⟨_, rfl, l, _, _, _, rfl, rfl, SqL.of hl1, atI_nat (j := 0) rfl, ⟨_, rfl⟩, _, rfl, l, _, _, _, rfl, rfl, SqL.of hl1, atI_nat (j := 0) rfl, x, rfl, (by omega), fun p hp => ⟨p, _, rfl, upd_same, fun zs q pz sz hq => ?_⟩⟩
            have hlen : zs.length ≤ 3 := by
              rw [pz.length_eq]
              have := setFold_len _ (signsOf x) rfl
              have e2 : (signsOf x).length = x.length := by unfold signsOf; rw [List.length_map, Array.length_toList]; rfl
              omega
            have hone : ∀ z ∈ zs, z.length = 1 := fun z hz => by
              have := (setFold_all _ (signsOf x) rfl).2.1 z |>.mp (pz.mem_iff.mp hz)
              unfold signsOf at this
              obtain ⟨c, _, rfl⟩ := List.mem_map.mp this
              rfl
            refine ⟨_, q, zs, rfl, rfl, .inl (SqL.of upd_same), ?_, rfl, ?_⟩
            · have : (zs.map (·.length)).sum = zs.length := by
                clear pz sz hq hlen
                induction zs with
                | nil => rfl
                | cons z t ih => 
                  rw [List.map_cons, List.sum_cons, ih (fun y hy => hone y (by simp [hy])), hone z (by simp), List.length_cons]
                  omega
              rw [this]
              have e0 : (Str.ofString "").length = 0 := rfl
              rw [e0]
              omega
            · have := asc_join pz sz
              rw [c3, Bool.true_and] at k
              rw [← this] at k
              exact k _ ((s1.trans (same_new hp)).trans (same_new hq))
          · rw [Bool.eq_false_iff.mpr c3] at k
            exact k _ s1
      · refine ⟨_, rfl, iteT ?_⟩
        have e : areSignsL [x] = false := by
          have h2 := of_decide_eq_false (Bool.eq_false_iff.mpr c1)
          rw [areS1]
          rw [decide_eq_false (by omega : ¬ 1 ≤ x.length)]
          simp
        rw [e] at k
        exact k _ (Same.refl _)
end
end My
namespace My
open PySem PySem.Spec PyProof.Rows L2 PySem.GX
section
variable {P : Program} {w : World} {K : PySem.W.Frag} {mg : Str → Option Value} {base : Heap}
theorem scMoods : FnScope ["words", "word"] ["words"] (defScope sMoods) := ⟨rfl, rfl, rfl, by decide +kernel, rfl, by decide +kernel, by decide +kernel⟩
theorem ok_moods {f : Addr} {fd : FuncData} {tA : Tok} (F : Fun K "are_moods" "are_moods" sMoods f fd) (hW : Hv P w K mg base 2 "is_word" ["text"] spWord) (hL : mg "len" = none) (hS : mg "set" = none) (hA : mg "all" = none) (gM : mg "MOST_MOODS" = some (.int 300 tA)) :
    FnOk P w K mg base CX0 3 f fd ["words"] (spMoods K) := by
  refine F.ok scMoods (fun vs H Q E h => ?_) (fun cdv A outer s H vs Q E hr h => ?_)
  · obtain ⟨l, ws, rfl, _⟩ := h
    rfl
  · obtain ⟨l, ws, rfl, hl, hx, k⟩ := h
    refine ⟨_, pss_cons (ps_if (pt_not (pt_chain op_le op_le pe_int (pe_callB call_len_seq (by rfl) hL PySem.boot_len (pa_cons (pv 0) pa_nil)) (pe_glob (v := .int 300) rfl gM ⟨_, rfl⟩)))
        (pss_one (ps_ret pe_bl)) pss_nil)
      (pss_one (ps_ret (pe_and (pe_callB (cr_all rfl) (by rfl) hA (by decide +kernel) (pa_cons (pe_lc (own := [("word", 1)]) (g := gName 1) (tt := tYes) rfl scMoods.nd (pi_list (pv 0))
          (blkOk_by (N := ["words", "word"]) (sc := defScope sMoods) (by decide +kernel)) (fun _ _ _ _ _ => pg_name (i := 1) scMoods.nd rfl (Or.inl rfl)) (fun _ _ _ _ _ => pts_nil) (fun _ _ _ _ _ => pe_cl hW hr rfl pass0 (pa_cons (pv 1) pa_nil))) pa_nil))
        (pe_one (pe_cmpR op_eq (pe_callB cr_lenSet (by rfl) hL PySem.boot_len (pa_cons (pe_callTy (cr_setL rfl) (by rfl) hS (by decide +kernel) (pa_cons (pv 0) pa_nil)) pa_nil)) (pe_callB call_len_seq (by rfl) hL PySem.boot_len (pa_cons (pv 0) pa_nil)) (nomark _)))))), ?_⟩
    refine ⟨_, rfl, l, _, rfl, .inl (SqL.of hl), _, _, rfl, rfl, _, rfl, ?_⟩
    rw [List.length_map]
    refine ite2 (fun c1 => ?_) (fun c1 => ?_)
    · refine ⟨_, _, rfl, rfl, _, rfl, ?_⟩
      have h1 := of_decide_eq_true c1
      refine ite2 (fun c2 => ?_) (fun c2 => ?_)
      · have e : areMoodsL ws = false := by
          have h2 : (300 : Int) < (ws.length : Int) := by simpa using c2
          unfold areMoodsL
          rw [decide_eq_false (by omega : ¬ ws.length ≤ 300)]
          simp
        rw [e] at k
        exact k _ (Same.refl _)
      · have h2 : (ws.length : Int) ≤ 300 := by simpa using c2
        have e : areMoodsL ws = (ws.all isWordL && decide ws.Nodup) := by
          unfold areMoodsL
          rw [decide_eq_true (show 1 ≤ ws.length by omega), decide_eq_true (show ws.length ≤ 300 by omega)]
          simp
        rw [e] at k
        refine ⟨_, rfl, l, rfl, ⟨_, SqL.of hl⟩, fun D hD => ?_⟩
        refine lcG ws (fun x => some (.bl (isWordL x))) (by have := walk_list (K := K) (a := l) (xs := ws.map V.str); rw [List.length_map] at this; exact this) (by omega) hD (yat_same _) (fun H' s => SqL.of (s _ _ hl)) (fun i x y H' H'' k1 hx' s1 hy k2 => ?_) (fun H1 s1 e1 => ?_)
        · obtain ⟨rfl, hy⟩ := hy
          obtain rfl := map_get hx' hy
          refine ⟨rfl, _, rfl, x, rfl, hx x (List.mem_of_getElem? hx'), fun H4 s4 => k2 _ s4⟩
        · refine ⟨D, ws.map isWordL, rfl, SqL.of ?_, _, rfl, ?_⟩
          · rw [e1, List.filterMap_eq_map', List.map_map]
            rfl
          · have ea : (ws.map isWordL).all id = ws.all isWordL := by rw [List.all_map]; rfl
            rw [ea]
            refine ite2 (fun c3 => ?_) (fun c3 => ?_)
            · have hl1 := s1 _ _ hl
              refine ⟨_, rfl, l, ws, rfl, SqL.of hl1, (by omega), fun p hp => ⟨p, _, rfl, upd_same, _, rfl, l, _, rfl, .inl (SqL.of (keep1 hl1 hp)), rfl, ?_⟩⟩
              rw [c3, Bool.true_and, ← setFold_eqlen] at k
              rw [List.length_map]
              have ed : decide (V.int ((setFold ws).length : Nat) = V.int (ws.length : Nat)) = decide ((setFold ws).length = ws.length) := by
                rw [dec_int]
                by_cases hc : (setFold ws).length = ws.length
                · rw [hc]; simp
                · rw [decide_eq_false hc]
                  simp
                  omega
              rw [ed]
              exact k _ (s1.trans (same_new hp))
            · rw [Bool.eq_false_iff.mpr c3] at k
              exact k _ s1
    · have e : areMoodsL ws = false := by
        have h2 := of_decide_eq_false (Bool.eq_false_iff.mpr c1)
        unfold areMoodsL
        rw [decide_eq_false (by omega : ¬ 1 ≤ ws.length)]
        simp
      rw [e] at k
      exact ⟨_, rfl, iteT (k _ (Same.refl _))⟩
end
end My
namespace My
open PySem PySem.Spec PyProof.Rows L2 PySem.GX
def spGood (K : PySem.W.Frag) : Sp := fun vs H Q _ => ∃ (l m : Addr) (ws ms : List Str), vs = [.ref l, .ref m] ∧ H l = some (.lst (ws.map V.str)) ∧ H m = some (.lst (ms.map V.str)) ∧ ws.length ≤ 16000000 ∧ ms.length ≤ 16000000 ∧
  (∀ x ∈ ws, PyData.strOk x = true) ∧ (∀ x ∈ ms, PyData.strOk x = true) ∧ ∀ H', Same H H' → Q (.bl (areGoodL ws ms)) H'
/-- the dict {x: True for x in ws} -/
abbrev dTrue (ws : List Str) : List (Key × V) := dOf (fun x => (Sum.inr x : Key)) (fun _ => V.bl true) ws
theorem dTrue_val (ws : List Str) (m : Str) : (valV (dTrue ws) (Sum.inr m)).isSome = decide (m ∈ ws) := by
  rw [dOf_val]
  congr 1
  simp
theorem fm_filter (p : Str → Bool) : ∀ ms : List Str, (ms.filterMap fun m => if p m = true then some (V.str m) else none) = (ms.filter p).map V.str
  | [] => rfl
  | m :: t => by
    rw [List.filterMap_cons, List.filter_cons]
    cases h : p m with
    | true => simp [fm_filter p t]
    | false => simp [fm_filter p t]
section
variable {P : Program} {w : World} {K : PySem.W.Frag} {mg : Str → Option Value} {base : Heap}
theorem scGood : FnScope ["words", "moods", "chosen", "word", "mood"] ["words", "moods"] (defScope sGood) := ⟨rfl, rfl, rfl, by decide +kernel, rfl, by decide +kernel, by decide +kernel⟩
theorem ok_good {f : Addr} {fd : FuncData} (F : Fun K "are_good" "are_good" sGood f fd) : FnOk P w K mg base CX0 1 f fd ["words", "moods"] (spGood K) := by
  refine F.ok scGood (fun vs H Q E h => ?_) (fun cdv A outer s H vs Q E hr h => ?_)
  · obtain ⟨l, m, ws, ms, rfl, _⟩ := h
    rfl
  · obtain ⟨l, m, ws, ms, rfl, hl, hm, z1, z2, o1, o2, k⟩ := h
    refine ⟨_, pss_cons (ps_set (i := 2) scGood.nd rfl (Or.inr rfl) (pe_dc (own := [("word", 3)]) (g := gName 3) (tt := tYes) rfl scGood.nd (pi_list (pv 0))
          (blkOk_by (N := ["words", "moods", "chosen", "word", "mood"]) (sc := defScope sGood) (by decide +kernel)) (fun _ _ _ _ _ => pg_name (i := 3) scGood.nd rfl (Or.inl rfl)) (fun _ _ _ _ _ => pts_nil) (fun _ _ _ _ _ => pv 3) (fun _ _ _ _ _ => pe_bl)))
      (pss_one (ps_ret (pe_cmpR (op_eqD hr.units) (pv 0) (pe_lc (own := [("mood", 4)]) (g := gName 4) rfl scGood.nd (pi_list (pv 1))
          (blkOk_by (N := ["words", "moods", "chosen", "word", "mood"]) (sc := defScope sGood) (by decide +kernel)) (fun _ _ _ _ _ => pg_name (i := 4) scGood.nd rfl (Or.inl rfl)) (fun _ _ _ _ _ => pts_one (pt_cmp (pc_din (hu_of hr) (pv 4) (pv 2)))) (fun _ _ _ _ _ => pv 4)) (nomark _)))), ?_⟩
    refine ⟨_, rfl, l, rfl, ⟨_, SqL.of hl⟩, fun D hD => ?_⟩
    refine dcG ws (fun x => (Sum.inr x : Key)) (fun _ => V.bl true) (by have := walk_list (K := K) (a := l) (xs := ws.map V.str); rw [List.length_map] at this; exact this) z1 hD (yat_same _) (fun H' s => SqL.of (s _ _ hl)) (fun i x y H' H'' k1 k0 hx s1 hy k2 => ?_) (fun H1 s1 e1 => ?_)
    · obtain ⟨rfl, hy⟩ := hy
      obtain rfl := map_get hx hy
      exact ⟨rfl, _, rfl, k2 _ (Same.refl _)⟩
    · have hl1 := s1 _ _ hl
      have hm1 := s1 _ _ hm
      refine ⟨_, rfl, _, rfl, m, rfl, ⟨_, SqL.of hm1⟩, fun E' hE => ?_⟩
      refine lcG ms (fun x => if decide (x ∈ ws) = true then some (V.str x) else none) (by have := walk_list (K := K) (a := m) (xs := ms.map V.str); rw [List.length_map] at this; exact this) z2 hE (yat_same _) (fun H' s => SqL.of (s _ _ hm1)) (fun i x y H' H'' k1 hx s2 hy k2 => ?_) (fun H2 s2 e2 => ?_)
      · obtain ⟨rfl, hy⟩ := hy
        obtain rfl := map_get hx hy
        have kk := k2 _ (Same.refl _)
        refine ⟨rfl, _, rfl, _, rfl, D, _, rfl, DGet.k (k := Sum.inr x) (s2 _ _ e1), _, rfl, ?_⟩
        rw [dTrue_val]
        refine ite2 (fun c => ?_) (fun c => ?_)
        · rw [if_pos c] at kk
          exact ⟨_, rfl, kk⟩
        · rw [if_neg c] at kk
          exact kk
      · rw [fm_filter] at e2
        refine ⟨dTx ws, dTx (ms.filter fun x => decide (x ∈ ws)), dp_dTx (s2 _ _ hl1), dp_dTx e2, shaped_dTx o1, shaped_dTx fun x hx => o2 x ((List.mem_filter.mp hx).1), ?_⟩
        rw [eqv_dTx]
        exact k _ (s1.trans s2)
end
end My
namespace My
open PySem PySem.Spec PyProof.Rows L2 PySem.GX
/-- the beginnings of the rows of goals, in their order -/
def pairsL (x : Str) (ms : List Str) : List (List Str) := ms.flatMap fun m => x.cps.toList.map fun c => [m, sg c]
def rowOkL (ms : List Str) (r : List Str) : Bool := decide (r.length = 3) && decide (r.getD 2 Str.empty ∈ ms)
def goalsOkL (x : Str) (ms : List Str) (rs : List (List Str)) : Bool := decide (rs.map (List.take 2) = pairsL x ms) && rs.all (rowOkL ms)
/-- the dict that the rows write -/
def goalsD (rs : List (List Str)) : List (List Key × V) := dOf (fun r => [Sum.inr (r.getD 0 Str.empty), Sum.inr (r.getD 1 Str.empty)]) (fun r => V.str (r.getD 2 Str.empty)) rs
def spGoals : Sp := fun vs H Q _ => ∃ (x : Str) (m l : Addr) (ms : List Str) (as : List Addr) (rs : List (List Str)), vs = [.str x, .ref m, .ref l] ∧ H m = some (.lst (ms.map V.str)) ∧ H l = some (.lst (as.map V.ref)) ∧ Rw H as rs ∧
  x.length ≤ 3 ∧ ms.length ≤ 300 ∧ rs.length ≤ 16000000 ∧ PyData.strOk x = true ∧ (∀ y ∈ ms, PyData.strOk y = true) ∧ (∀ r ∈ rs, ∀ y ∈ r, PyData.strOk y = true) ∧
  (goalsOkL x ms rs = false → ∀ H', Same H H' → Q .non H') ∧ (goalsOkL x ms rs = true → ∀ D H', H D = none → Same H H' → H' D = some (.dT (goalsD rs)) → Q (.ref D) H')
theorem pairs_take {x : Str} {ms : List Str} {i : Nat} {m : Str} (h : ms[i]? = some m) : pairsL x (ms.take (i + 1)) = pairsL x (ms.take i) ++ x.cps.toList.map fun c => [m, sg c] := by
  unfold pairsL
  rw [List.take_add_one, h, List.flatMap_append]
  simp
theorem pairs_len (x : Str) (ms : List Str) : (pairsL x ms).length = ms.length * x.length := by
  unfold pairsL
  induction ms with
  | nil => simp
  | cons m t ih =>
    rw [List.flatMap_cons, List.length_append, ih, List.length_map, Array.length_toList, List.length_cons, Nat.succ_mul]
    show x.length + _ = _
    omega
theorem pairs_ok {x : Str} {ms : List Str} (hx : PyData.strOk x = true) (hm : ∀ y ∈ ms, PyData.strOk y = true) : ∀ r ∈ pairsL x ms, ∀ y ∈ r, PyData.strOk y = true := by
  intro r hr y hy
  unfold pairsL at hr
  obtain ⟨m, h1, h2⟩ := List.mem_flatMap.mp hr
  obtain ⟨c, h3, rfl⟩ := List.mem_map.mp h2
  simp at hy
  rcases hy with rfl | rfl
  · exact hm _ h1
  · unfold PyData.strOk at hx ⊢
    rw [Array.all_eq_true_iff_forall_mem] at hx
    have := hx c (by simpa using h3)
    simpa using this
def rLenK (K : PySem.W.Frag) : List V → Hp → VK → Prop := fun xs H Q => ∃ p ys, xs = [.ref p] ∧ (SqL K H p ys ∨ SqT K H p ys) ∧ Q (.int ys.length) H
section
variable {P : Program} {w : World} {K : PySem.W.Frag} {mg : Str → Option Value} {base : Heap}
abbrev nGoals : List Str := ["signs", "moods", "rows", "known", "mood", "row", "sign", "goal"]
theorem scGoals : FnScope nGoals ["signs", "moods", "rows"] (defScope sGoals) := ⟨rfl, rfl, rfl, by decide +kernel, rfl, by decide +kernel, by decide +kernel⟩
theorem ok_goals {f : Addr} {fd : FuncData} (F : Fun K "read_goals" "read_goals" sGoals f fd) (hL : mg "len" = none) (hA : mg "all" = none) : FnOk P w K mg base CX0 1 f fd ["signs", "moods", "rows"] spGoals := by
  refine F.ok scGoals (fun vs H Q E h => ?_) (fun cdv A outer s H vs Q E hr h => ?_)
  · obtain ⟨x, m, l, ms, as, rs, rfl, _⟩ := h
    rfl
  · obtain ⟨x, m, l, ms, as, rs, rfl, hm, hl, hR, z1, z2, z3, o1, o2, o3, kN, kY⟩ := h
    refine ⟨_, pss_cons (ps_set (i := 3) scGoals.nd rfl (Or.inr rfl) (pe_dc (own := [("mood", 4)]) (g := gName 4) (tt := tYes) rfl scGoals.nd (pi_list (pv 1))
          (blkOk_by (N := nGoals) (sc := defScope sGoals) (by decide +kernel)) (fun _ _ _ _ _ => pg_name (i := 4) scGoals.nd rfl (Or.inl rfl)) (fun _ _ _ _ _ => pts_nil) (fun _ _ _ _ _ => pv 4) (fun _ _ _ _ _ => pe_bl)))
      (pss_cons (ps_if (pt_cmpR (op_neD hr.units) (pe_lc (own := [("row", 5)]) (g := gName 5) (tt := tYes) rfl scGoals.nd (pi_list (pv 2))
            (blkOk_by (N := nGoals) (sc := defScope sGoals) (by decide +kernel)) (fun _ _ _ _ _ => pg_name (i := 5) scGoals.nd rfl (Or.inl rfl)) (fun _ _ _ _ _ => pts_nil) (te := tSl (rSlL K) (tVar 5) tNoPart (tPart (tC (.int 2)))) (fun _ _ _ _ _ => pe_slice sl_list (pv 5) po_none (po_some pe_int)))
          (pe_lc2 (own := [("mood", 4), ("sign", 6)]) (vs1 := [6]) (g := gName 4) (tt := tYes) (g1 := gName 6) (tt1 := tYes) rfl scGoals.nd (pi_list (pv 1)) (blkOk_by (N := nGoals) (sc := defScope sGoals) (by decide +kernel)) (by decide)
            (fun _ _ _ _ _ => pg_name (i := 4) scGoals.nd rfl (Or.inl rfl)) (fun _ _ _ _ _ => pts_nil) (fun _ _ _ _ _ => pi_str (pv 0)) (fun _ _ _ _ _ => pg_name (i := 6) scGoals.nd rfl (Or.inl rfl)) (fun _ _ _ _ _ => pts_nil) (fun _ _ _ _ _ => pe_lst (pa_cons (pv 4) (pa_cons (pv 6) pa_nil)))) (nomark _))
        (pss_one (ps_ret pe_non)) pss_nil)
      (pss_cons (ps_if (pt_not (pt_val (pe_callB (cr_all rfl) (by rfl) hA (by decide +kernel) (pa_cons (pe_lc (own := [("row", 5)]) (g := gName 5) (tt := tYes) rfl scGoals.nd (pi_list (pv 2))
            (blkOk_by (N := nGoals) (sc := defScope sGoals) (by decide +kernel)) (fun _ _ _ _ _ => pg_name (i := 5) scGoals.nd rfl (Or.inl rfl)) (fun _ _ _ _ _ => pts_nil)
            (te := tAndV (tOp rEq (tCB (rLenK K) (tCons (tVar 5) tNil)) (tC (.int 3))) (tDIn (tOp (rIxL K) (tVar 5) (tC (.int 2))) (tVar 3))) (fun _ _ _ _ _ => pe_and (pe_cmpR op_eq (pe_callB call_len_seq (by rfl) hL PySem.boot_len (pa_cons (pv 5) pa_nil)) pe_int (nomark _)) (pe_one (pe_cmp (pc_din (hu_of hr) (pe_ix ix_list (pv 5) pe_int (fun _ _ => rfl)) (pv 3)) rfl)))) pa_nil))))
        (pss_one (ps_ret pe_non)) pss_nil)
      (pss_one (ps_ret (pe_dcT (own := [("mood", 4), ("sign", 6), ("goal", 7)]) (g := gUnl K 3 (gCons (gName 4) (gCons (gName 6) (gCons (gName 7) gNil)))) (tt := tYes) hr.units rfl scGoals.nd (pi_list (pv 2)) (blkOk_by (N := nGoals) (sc := defScope sGoals) (by decide +kernel))
            (fun _ _ _ _ _ => pg_unl (n := 3) rfl (pgs_cons (pg_name (i := 4) scGoals.nd rfl (Or.inl rfl)) (pgs_cons (pg_name (i := 6) scGoals.nd rfl (Or.inl rfl)) (pgs_cons (pg_name (i := 7) scGoals.nd rfl (Or.inl rfl)) pgs_nil))))
            (fun _ _ _ _ _ => pts_nil) (fun _ _ _ _ _ => pe_tup (pa_cons (pv 4) (pa_cons (pv 6) pa_nil))) (fun _ _ _ _ _ => pv 7)))))), ?_⟩
    refine ⟨_, rfl, m, rfl, ⟨_, SqL.of hm⟩, fun D0 hD0 => ?_⟩
    refine dcG ms (fun x => (Sum.inr x : Key)) (fun _ => V.bl true) (walk_listL ms V.str) (by omega) hD0 (yat_same _) (fun H' s => SqL.of (s _ _ hm)) (fun i x y H' H'' k1 k0 hx s1 hy k2 => ?_) (fun H1 s1 e1 => ?_)
    · obtain ⟨rfl, hy⟩ := hy
      obtain rfl := map_get hx hy
      exact ⟨rfl, _, rfl, k2 _ (Same.refl _)⟩
    have hl1 := s1 _ _ hl
    have hR1 := hR.same s1
    -- the beginnings of the rows
    refine ⟨_, rfl, l, rfl, ⟨_, SqL.of hl1⟩, fun D1 hD1 => ?_⟩
    refine lc_it (walk_listL as V.ref) (fun i H' => Pr H1 D1 H' ((rs.map (List.take 2)).take i)) (Pr.zero hD1) (fun i H' _ h => SqL.of (h.keeps _ _ hl1)) (fun i y H' H'' hi h hy => ?_) (fun H2 h2 => ?_)
    · obtain ⟨rfl, hy⟩ := hy
      have ha : as[i]? = some as[i] := List.getElem?_eq_getElem hi
      obtain rfl := map_get ha hy
      have hi' : i < rs.length := by rw [← hR.len]; exact hi
      have hr' : rs[i]? = some rs[i] := List.getElem?_eq_getElem hi'
      have et : (rs.map (List.take 2)).take (i + 1) = (rs.map (List.take 2)).take i ++ [rs[i].take 2] := by
        rw [List.take_add_one, List.getElem?_map, hr']
        rfl
      refine ⟨rfl, _, rfl, 2, rfl, as[i], _, rfl, SqL.of (h.keeps _ _ (hR1.get ha hr')), fun p hp => ?_⟩
      rw [et, show (2 : Int) = ((2 : Nat) : Int) from rfl, cut_to _ 2 (by decide)]
      exact h.push hD1 hp (by rw [List.length_take, List.length_map]; omega)
    have s2 := h2.keeps
    have hm2 := s2 _ _ (s1 _ _ hm)
    -- what they must be
    refine ⟨_, rfl, m, rfl, ⟨_, SqL.of hm2⟩, fun D2 hD2 => ?_⟩
    refine dc_it (walk_listL ms V.str) (nx := fun i H' => Pr H2 D2 H' (pairsL x (ms.take i))) (Pr.zero hD2) (fun i H' _ h => SqL.of (h.keeps _ _ hm2)) (fun i y H' H'' hi h hy => ?_) (fun H3 h3 => ?_)
    · obtain ⟨rfl, hy⟩ := hy
      have ha : ms[i]? = some ms[i] := List.getElem?_eq_getElem hi
      obtain rfl := map_get ha hy
      refine ⟨rfl, _, rfl, x, rfl, ?_⟩
      refine dc_it walk_str (nx := fun j H' => Pr H2 D2 H' (pairsL x (ms.take i) ++ (x.cps.toList.take j).map fun c => [ms[i], sg c])) (by rw [List.take_zero, List.map_nil, List.append_nil]; exact h) (fun _ _ _ _ => trivial) (fun j y H4 H5 hj h4 hy => ?_) (fun H4 h4 => ?_)
      · obtain ⟨rfl, c, hc, rfl⟩ := hy
        have et : (x.cps.toList.take (j + 1)).map (fun c => [ms[i], sg c]) = (x.cps.toList.take j).map (fun c => [ms[i], sg c]) ++ [[ms[i], sg c]] := by
          rw [List.take_add_one, Array.getElem?_toList, hc, List.map_append]
          rfl
        refine ⟨rfl, _, rfl, _, rfl, (by show 2 ≤ sizeLine; decide), fun p hp => ?_⟩
        rw [et, ← List.append_assoc]
        refine h4.push (r := [ms[i], sg c]) hD2 hp ?_
        have a1 : (pairsL x (ms.take i)).length ≤ 900 := by
          rw [pairs_len, List.length_take]
          exact Nat.le_trans (Nat.mul_le_mul (by omega : min i ms.length ≤ 300) z1) (by decide)
        have a2 : ((x.cps.toList.take j).map fun c => [ms[i], sg c]).length ≤ j := by
          rw [List.length_map, List.length_take]
          omega
        have z5 : x.cps.size ≤ 3 := z1
        rw [List.length_append]
        omega
      · show Pr H2 D2 H4 _
        rw [pairs_take ha]
        have : x.cps.toList.take x.cps.size = x.cps.toList := by rw [← Array.length_toList, List.take_length]
        rw [this] at h4
        exact h4
    rw [List.take_length] at h3
    have h2' := h2
    rw [hR.len, ← List.length_map (f := List.take 2), List.take_length] at h2'
    obtain ⟨bs, sb, eb, rb⟩ := (h2'.same h3.keeps).rw_
    obtain ⟨cs, sc, ec, rc⟩ := h3.rw_
    have s3 := (s1.trans s2).trans h3.keeps
    refine ⟨dTab (rs.map (List.take 2)), dTab (pairsL x ms), dp_dTab eb rb, dp_dTab ec rc, shaped_dTab (fun r hr y hy => ?_), shaped_dTab (pairs_ok o1 o2), _, rfl, ?_⟩
    · obtain ⟨r', h1, rfl⟩ := List.mem_map.mp hr
      exact o3 r' h1 y (List.mem_of_mem_take hy)
    rw [eqv_dTab]
    refine ite2 (fun c => ?_) (fun c => ?_)
    · refine kN ?_ _ s3
      unfold goalsOkL
      have : decide (rs.map (List.take 2) = pairsL x ms) = false := by simpa using c
      rw [this]
      rfl
    have ep : rs.map (List.take 2) = pairsL x ms := by simpa using c
    have hl3 := s3 _ _ hl
    have hR3 := hR.same s3
    have e3 := h3.keeps _ _ (s2 _ _ e1)
    refine ⟨_, rfl, l, rfl, ⟨_, SqL.of hl3⟩, fun D3 hD3 => ?_⟩
    refine lcG (as.zip rs) (fun ar => some (.bl (rowOkL ms ar.2))) (by rw [List.length_zip, ← hR.len, Nat.min_self]; exact walk_listL as V.ref) (by rw [List.length_zip]; omega) hD3 (yat_same _) (fun H' s => SqL.of (s _ _ hl3)) (fun i ar y H' H'' k1 hz sz hy k2 => ?_) (fun H4 s4 e4 => ?_)
    · obtain ⟨rfl, hy⟩ := hy
      rw [List.getElem?_zip_eq_some] at hz
      obtain rfl := map_get hz.1 hy
      have hrow := sz _ _ (hR3.get hz.1 hz.2)
      have kk := k2 _ (Same.refl _)
      refine ⟨rfl, _, rfl, ar.1, _, rfl, .inl (SqL.of hrow), rfl, _, rfl, ?_⟩
      rw [List.length_map, dec_int]
      have ed : ((ar.2.length : Int) == 3) = decide (ar.2.length = 3) := by
        by_cases hc : ar.2.length = 3
        · rw [hc]; rfl
        · rw [decide_eq_false hc]
          simp
          omega
      rw [ed]
      unfold rowOkL at kk
      refine ite2 (fun c3 => ?_) (fun c3 => ?_)
      · have h3' := of_decide_eq_true c3
        have hg : ar.2[2]? = some (ar.2.getD 2 Str.empty) := by
          rw [List.getD_eq_getElem?_getD, List.getElem?_eq_getElem (by omega)]
          rfl
        refine ⟨_, rfl, ar.1, _, _, V.str (ar.2.getD 2 Str.empty), rfl, rfl, SqL.of hrow, atI_nat (j := 2) (by rw [List.getElem?_map, hg]; rfl), _, rfl, D0, _, rfl, DGet.k (k := Sum.inr (ar.2.getD 2 Str.empty)) (sz _ _ e3), ?_⟩
        rw [dTrue_val]
        rw [c3, Bool.true_and] at kk
        exact kk
      · rw [Bool.eq_false_iff.mpr c3, Bool.false_and] at kk
        exact kk
    have ez : (as.zip rs).filterMap (fun ar => some (V.bl (rowOkL ms ar.2))) = (rs.map (rowOkL ms)).map V.bl := by
      rw [List.filterMap_eq_map', List.map_map]
      have : (as.zip rs).map Prod.snd = rs := List.map_snd_zip (by rw [hR.len]; exact Nat.le_refl _)
      conv => rhs; rw [← this, List.map_map]
      rfl
    rw [ez] at e4
    refine ⟨D3, _, rfl, SqL.of e4, _, rfl, ?_⟩
    have ea : (rs.map (rowOkL ms)).all id = rs.all (rowOkL ms) := by rw [List.all_map]; rfl
    rw [ea]
    have eg : goalsOkL x ms rs = rs.all (rowOkL ms) := by
      unfold goalsOkL
      rw [decide_eq_true ep, Bool.true_and]
    refine ite2 (fun c4 => ?_) (fun c4 => ?_)
    · refine kN ?_ _ (s3.trans s4)
      rw [eg]
      simpa using c4
    have c5 : rs.all (rowOkL ms) = true := by simpa using c4
    have hl4 := s4 _ _ hl3
    have hR4 := hR3.same s4
    refine ⟨_, rfl, l, rfl, ⟨_, SqL.of hl4⟩, fun D4 hD4 => ?_⟩
    refine dcGT (as.zip rs) (fun ar => [Sum.inr (ar.2.getD 0 Str.empty), Sum.inr (ar.2.getD 1 Str.empty)]) (fun ar => V.str (ar.2.getD 2 Str.empty)) (by rw [List.length_zip, ← hR.len, Nat.min_self]; exact walk_listL as V.ref) (by rw [List.length_zip]; omega) hD4 (yat_same _) (fun H' s => SqL.of (s _ _ hl4)) (fun i ar y H' H'' k1 k0 hz sz hy k2 => ?_) (fun H5 s5 e5 => ?_)
    · obtain ⟨rfl, hy⟩ := hy
      rw [List.getElem?_zip_eq_some] at hz
      obtain rfl := map_get hz.1 hy
      have hrow := sz _ _ (hR4.get hz.1 hz.2)
      have ok := List.all_eq_true.mp c5 ar.2 (List.mem_of_getElem? hz.2)
      unfold rowOkL at ok
      have h3' : ar.2.length = 3 := by simpa using (Bool.and_eq_true_iff.mp ok).1
      obtain ⟨u, v, z, huv⟩ : ∃ u v z, ar.2 = [u, v, z] := by
        match ar.2, h3' with
        | [u, v, z], _ => exact ⟨u, v, z, rfl⟩
      rw [huv] at hrow k2
      refine ⟨ar.1, _, rfl, SqL.of hrow, rfl, _, _, rfl, _, _, rfl, _, _, rfl, rfl, rfl, _, rfl, _, rfl, (by show 2 ≤ sizeLine; decide), fun t ht => ⟨_, rfl, k2 t _ (same_new ht) upd_same⟩⟩
    · refine kY (by rw [eg]; exact c5) D4 H5 ((s3.trans s4).free hD4) ((s3.trans s4).trans s5) ?_
      rw [e5]
      congr 2
      unfold goalsD dOf
      have : (as.zip rs).map Prod.snd = rs := List.map_snd_zip (by rw [hR.len]; exact Nat.le_refl _)
      conv => rhs; rw [← this, List.foldl_map]
end
end My
namespace My
open PySem PySem.Spec PyProof.Rows L2 PySem.GX
theorem join_mem (y : Str) : ∀ (parts : List Str) (p : Str), p ∈ parts → ∀ c ∈ p.cps.toList, c ∈ (Str.join y parts).cps.toList
  | [], _, h, _, _ => by simp at h
  | [x], p, h, c, hc => by
    simp at h; subst h
    exact hc
  | x :: z :: r, p, h, c, hc => by
    show c ∈ (x ++ y ++ Str.join y (z :: r)).cps.toList
    rw [cps_app, cps_app]
    simp only [List.mem_append]
    rcases List.mem_cons.mp h with rfl | h
    · exact .inl (.inl hc)
    · exact .inr (join_mem y (z :: r) p h c hc)
theorem ok_of_mem {x p : Str} (h : ∀ c ∈ p.cps.toList, c ∈ x.cps.toList) (ho : PyData.strOk x = true) : PyData.strOk p = true := by
  unfold PyData.strOk at ho ⊢
  rw [Array.all_eq_true_iff_forall_mem] at ho ⊢
  intro c hc
  exact ho c (by simpa using h c (by simpa using hc))
theorem split_ok {x y p : Str} (h : p ∈ Txt.split x y) (ho : PyData.strOk x = true) : PyData.strOk p = true := by
  refine ok_of_mem (fun c hc => ?_) ho
  have := join_mem y _ p h c hc
  rw [StrLaws.join_split] at this
  exact this
theorem mem_le_sum : ∀ {l : List Nat} {a : Nat}, a ∈ l → a ≤ l.sum
  | b :: t, a, h => by
    rw [List.sum_cons]
    rcases List.mem_cons.mp h with rfl | h
    · omega
    · have := mem_le_sum h
      omega
theorem split_small {x p : Str} {c : Nat} (h : p ∈ Txt.split x (sg c)) : p.length ≤ x.length := by
  have := split_weight x (sg c) (Nat.le_refl 1)
  have h1 := mem_le_sum (List.mem_map.mpr ⟨p, h, rfl⟩ : p.length ∈ (Txt.split x (sg c)).map (·.length))
  have h2 : 0 < (Txt.split x (sg c)).length := List.length_pos_of_mem h
  omega
theorem split_few (x : Str) (c : Nat) : (Txt.split x (sg c)).length ≤ x.length + 1 := by
  have := split_weight x (sg c) (Nat.le_refl 1)
  omega
theorem split_ne (x : Str) (c : Nat) : Txt.split x (sg c) ≠ [] := fun e => by
  have := split_len x c
  rw [e] at this
  simp at this
  have h : ∀ l : List Nat, 0 ≤ cnt c l := by
    intro l
    induction l with
    | nil => exact Int.le_refl 0
    | cons n t ih =>
      rw [cnt_cons]
      split <;> omega
  have := h x.cps.toList
  omega
end My
namespace My
open PySem PySem.Spec PyProof.Rows L2 PySem.GX
abbrev nl : Str := sg 10
abbrev sp : Str := sg 32
def rowsL (t : Str) : List (List Str) := (Txt.split t nl).map fun y => Txt.split y sp
abbrev titles : List Str := ["signs", "moods", "good"]
structure Parts where
  sg : Str
  ms : List Str
  gs : List Str
  rs : List (List Str)
/-- what a text writes, from its rows of words -/
def partsL : List (List Str) → Option Parts
  | (t0 :: s0) :: (t1 :: m0) :: (t2 :: g0) :: rs =>
    if [t0, t1, t2] = titles ∧ areSignsL s0 = true ∧ areMoodsL m0 = true ∧ areGoodL g0 m0 = true ∧ goalsOkL (s0.getD 0 Str.empty) m0 rs = true then some ⟨s0.getD 0 Str.empty, m0, g0, rs⟩ else none
  | _ => none
def parseL (t : Str) : Option Parts := partsL (rowsL t)
/-- the parts stand as the tuple T -/
def PartsAt (H : Hp) (T : Addr) (p : Parts) : Prop := ∃ M G D, H T = some (.tup [.str p.sg, .ref M, .ref G, .ref D]) ∧ H M = some (.tup (p.ms.map V.str)) ∧ H G = some (.tup (p.gs.map V.str)) ∧ H D = some (.dT (goalsD p.rs))
def spRead : Sp := fun vs H Q _ => ∃ t : Str, vs = [.str t] ∧ t.length ≤ 1000000 ∧ PyData.strOk t = true ∧ (parseL t = none → ∀ H', Same H H' → Q .non H') ∧ ∀ p, parseL t = some p → ∀ T H', Same H H' → PartsAt H' T p → Q (.ref T) H'
theorem rows_ne {t : Str} : ∀ r ∈ rowsL t, r ≠ [] := fun r hr => by
  obtain ⟨y, _, rfl⟩ := List.mem_map.mp hr
  exact split_ne y 32
theorem rows_ok {t : Str} (ht : PyData.strOk t = true) : ∀ r ∈ rowsL t, ∀ y ∈ r, PyData.strOk y = true := fun r hr y hy => by
  obtain ⟨z, hz, rfl⟩ := List.mem_map.mp hr
  exact split_ok hy (split_ok hz ht)
theorem rows_small {t : Str} : ∀ r ∈ rowsL t, r.length ≤ t.length + 1 ∧ ∀ y ∈ r, y.length ≤ t.length := fun r hr => by
  obtain ⟨z, hz, rfl⟩ := List.mem_map.mp hr
  have h1 := split_small hz
  have h2 : (Txt.split z sp).length ≤ z.length + 1 := split_few z 32
  exact ⟨by omega, fun y hy => Nat.le_trans (split_small hy) h1⟩
theorem rows_few (t : Str) : (rowsL t).length ≤ t.length + 1 := by
  unfold rowsL
  rw [List.length_map]
  exact split_few t 10
theorem heads_is {rs : List (List Str)} (hne : ∀ r ∈ rs, r ≠ []) (h : (rs.take 3).map (fun r => r.headD Str.empty) = titles) : ∃ s0 m0 g0 rest, rs = (("signs" : Str) :: s0) :: (("moods" : Str) :: m0) :: (("good" : Str) :: g0) :: rest := by
  match rs, hne, h with
  | [], _, h => cases h
  | [_], _, h => simp at h
  | [_, _], _, h => simp at h
  | a :: b :: c :: rest, hne, h =>
    have na := hne a (by simp)
    have nb := hne b (by simp)
    have nc := hne c (by simp)
    obtain ⟨x, xs, rfl⟩ := List.exists_cons_of_ne_nil na
    obtain ⟨y, ys, rfl⟩ := List.exists_cons_of_ne_nil nb
    obtain ⟨z, zs, rfl⟩ := List.exists_cons_of_ne_nil nc
    have h' : [x, y, z] = titles := h
    injection h' with e1 h'
    injection h' with e2 h'
    injection h' with e3 h'
    subst e1 e2 e3
    exact ⟨xs, ys, zs, rest, rfl⟩
theorem parts_none {rs : List (List Str)} (h : ¬ (rs.take 3).map (fun r => r.headD Str.empty) = titles) : partsL rs = none := by
  unfold partsL
  split
  · rename_i t0 s0 t1 m0 t2 g0 rs'
    rw [if_neg]
    intro z
    exact h z.1
  · rfl
theorem parts_is (s0 m0 g0 : List Str) (rest : List (List Str)) : partsL ((("signs" : Str) :: s0) :: (("moods" : Str) :: m0) :: (("good" : Str) :: g0) :: rest) =
    if areSignsL s0 = true ∧ areMoodsL m0 = true ∧ areGoodL g0 m0 = true ∧ goalsOkL (s0.getD 0 Str.empty) m0 rest = true then some ⟨s0.getD 0 Str.empty, m0, g0, rest⟩ else none := by
  unfold partsL
  simp only [true_and]
theorem signs_one {s0 : List Str} (h : areSignsL s0 = true) : ∃ x, s0 = [x] ∧ x.length ≤ 3 := by
  match s0, h with
  | [x], h =>
    rw [areS1] at h
    simp only [Bool.and_eq_true] at h
    exact ⟨x, rfl, of_decide_eq_true h.1.1.2⟩
theorem moods_few {m0 : List Str} (h : areMoodsL m0 = true) : m0.length ≤ 300 := by
  unfold areMoodsL at h
  simp only [Bool.and_eq_true] at h
  exact of_decide_eq_true h.1.1.2
section
variable {P : Program} {w : World} {K : PySem.W.Frag} {mg : Str → Option Value} {base : Heap}
abbrev nRead : List Str := ["text", "rows", "signs", "moods", "good", "goals", "line", "row"]
theorem scRead : FnScope nRead ["text"] (defScope sRead) := ⟨rfl, rfl, rfl, by decide +kernel, rfl, by decide +kernel, by decide +kernel⟩
theorem ok_read {f tT : Addr} {fd : FuncData} (F : Fun K "read_rule" "read_rule" sRead f fd) (h1 : Hv P w K mg base 2 "are_signs" ["words"] (spSigns K)) (h2 : Hv P w K mg base 3 "are_moods" ["words"] (spMoods K)) (h3 : Hv P w K mg base 1 "are_good" ["words", "moods"] (spGood K))
    (h4 : Hv P w K mg base 1 "read_goals" ["signs", "moods", "rows"] spGoals) (gT : mg "TITLES" = some (.ref tT)) (kT : ∀ H, SqT K H tT (titles.map V.str)) (hLi : mg "list" = none) (hTu : mg "tuple" = none) : FnOk P w K mg base CX0 4 f fd ["text"] spRead := by
  refine F.ok scRead (fun vs H Q E h => ?_) (fun cdv A outer s H vs Q E hr h => ?_)
  · obtain ⟨t, rfl, _⟩ := h
    rfl
  · obtain ⟨t, rfl, zt, ot, kN, kY⟩ := h
    refine ⟨_, pss_cons (ps_setLc (i := 1) (own := [("line", 6)]) (g := gName 6) (tt := tYes) rfl scRead.nd rfl rfl (sw_true rfl rfl rfl (by decide +kernel)) (pi_list (pe_split (pv 0) pe_str))
          (blkOk_by (N := nRead) (sc := defScope sRead) (by decide +kernel)) (fun _ _ _ _ _ => pg_name (i := 6) scRead.nd rfl (Or.inl rfl)) (fun _ _ _ _ _ => pts_nil) (fun _ _ _ _ _ => pe_split (pv 6) pe_str))
      (pss_cons (ps_if (pt_cmpR (op_neD hr.units) (pe_lc (own := [("row", 7)]) (g := gName 7) (tt := tYes) rfl scRead.nd (pi_list (pe_slice sl_list (pv 1) po_none (po_some pe_int)))
            (blkOk_by (N := nRead) (sc := defScope sRead) (by decide +kernel)) (fun _ _ _ _ _ => pg_name (i := 7) scRead.nd rfl (Or.inl rfl)) (fun _ _ _ _ _ => pts_nil) (te := tOp (rIxL K) (tVar 7) (tC (.int 0))) (fun _ _ _ _ _ => pe_ix ix_list (pv 7) pe_int (fun _ _ => rfl)))
          (pe_callTy call_list_of (by rfl) hLi (by decide +kernel) (pa_cons (pe_glob (v := .ref tT) rfl gT rfl) pa_nil)) (nomark _))
        (pss_one (ps_ret pe_non)) pss_nil)
      (pss_cons (ps_asg (pe_lc (own := [("row", 7)]) (g := gName 7) (tt := tYes) rfl scRead.nd (pi_list (pe_slice sl_list (pv 1) po_none (po_some pe_int)))
            (blkOk_by (N := nRead) (sc := defScope sRead) (by decide +kernel)) (fun _ _ _ _ _ => pg_name (i := 7) scRead.nd rfl (Or.inl rfl)) (fun _ _ _ _ _ => pts_nil) (te := tSl (rSlL K) (tVar 7) (tPart (tC (.int 1))) tNoPart) (fun _ _ _ _ _ => pe_slice sl_list (pv 7) (po_some pe_int) po_none))
          (pg_unl (n := 3) rfl (pgs_cons (pg_name (i := 2) scRead.nd rfl (Or.inl rfl)) (pgs_cons (pg_name (i := 3) scRead.nd rfl (Or.inl rfl)) (pgs_cons (pg_name (i := 4) scRead.nd rfl (Or.inl rfl)) pgs_nil)))))
      (pss_cons (ps_if (pt_not (PW.pt (pw_and (pt_val (pe_cl h1 (hr.mono (by decide)) rfl pass0 (pa_cons (pv 2) pa_nil))) (pw_and (pt_val (pe_cl h2 hr rfl pass0 (pa_cons (pv 3) pa_nil))) (pw_and1 (pt_val (pe_cl h3 (hr.mono (by decide)) rfl pass0 (pa_cons (pv 4) (pa_cons (pv 3) pa_nil)))))))))
        (pss_one (ps_ret pe_non)) pss_nil)
      (pss_cons (ps_set (i := 5) scRead.nd rfl (Or.inl rfl) (pe_cl h4 (hr.mono (by decide)) rfl pass0 (pa_cons (pe_ix ix_list (pv 2) pe_int (fun _ _ => rfl)) (pa_cons (pv 3) (pa_cons (pe_slice sl_list (pv 1) (po_some pe_int) po_none) pa_nil)))))
      (pss_cons (ps_if (pt_cmpR op_isN (pv 5) pe_non (nomark _)) (pss_one (ps_ret pe_non)) pss_nil)
      (pss_one (ps_ret (pe_tup (pa_cons (pe_ix ix_list (pv 2) pe_int (fun _ _ => rfl)) (pa_cons (pe_callTy call_tuple_of (by rfl) hTu (by decide +kernel) (pa_cons (pv 3) pa_nil)) (pa_cons (pe_callTy call_tuple_of (by rfl) hTu (by decide +kernel) (pa_cons (pv 4) pa_nil)) (pa_cons (pv 5) pa_nil)))))))))))), ?_⟩
    have enl : (Str.ofString "\n") = nl := by decide +kernel
    have esp : (Str.ofString " ") = sp := by decide +kernel
    have z0 : t.length + 2 ≤ sizeLine := by rw [sizeLine_eq]; omega
    refine ⟨_, rfl, ⟨_, rfl⟩, t, _, rfl, rfl, rfl, z0, fun p0 hp0 => ⟨p0, rfl, ⟨_, SqL.of upd_same⟩, fun D0 hD0 => ?_⟩⟩
    rw [enl] at hD0 ⊢
    have hl0 : upd H p0 (.lst ((Txt.split t nl).map V.str)) p0 = some (.lst ((Txt.split t nl).map V.str)) := upd_same
    generalize eH0 : upd H p0 (.lst ((Txt.split t nl).map V.str)) = H0 at hD0 hl0 ⊢
    have s0 : Same H H0 := by rw [← eH0]; exact same_new hp0
    refine lc_it (walk_listL (Txt.split t nl) V.str) (fun i H' => Pr H0 D0 H' ((rowsL t).take i)) (Pr.zero hD0) (fun i H' _ h => SqL.of (h.keeps _ _ hl0)) (fun i y H' H'' hi h hy => ?_) (fun H1 g1 => ?_)
    · obtain ⟨rfl, hy⟩ := hy
      have ha : (Txt.split t nl)[i]? = some (Txt.split t nl)[i] := List.getElem?_eq_getElem hi
      obtain rfl := map_get ha hy
      have et : (rowsL t).take (i + 1) = (rowsL t).take i ++ [Txt.split (Txt.split t nl)[i] sp] := by
        unfold rowsL
        rw [List.take_add_one, List.getElem?_map, ha]
        rfl
      have zl := split_small (List.getElem_mem hi)
      refine ⟨rfl, _, rfl, ⟨_, rfl⟩, _, _, rfl, rfl, rfl, (by rw [sizeLine_eq]; omega), fun p hp => ?_⟩
      rw [et, esp]
      refine h.push hD0 hp ?_
      have := rows_few t
      rw [List.length_take]
      omega
    have g1' : Pr H0 D0 H1 (rowsL t) := by
      have : (rowsL t).take (Txt.split t nl).length = rowsL t := by
        have e : (Txt.split t nl).length = (rowsL t).length := by unfold rowsL; rw [List.length_map]
        rw [e, List.take_length]
      rw [this] at g1
      exact g1
    obtain ⟨as, s1', eD0, rw0⟩ := g1'.rw_
    have s1 := s0.trans s1'
    have nes := rows_ne (t := t)
    have oks := rows_ok (t := t) ot
    have sms := rows_small (t := t)
    have few := rows_few t
    generalize eR : rowsL t = rs at rw0 nes oks sms few
    have ep : parseL t = partsL rs := by rw [← eR]; rfl
    rw [ep] at kN kY
    clear g1 g1' ep eR
    have len := rw0.len
    -- the titles
    have ecut : cutV (as.map V.ref) none (some 3) = (as.take 3).map V.ref := by
      rw [show (3 : Int) = ((3 : Nat) : Int) from rfl, cut_toV _ 3 (by decide), List.map_take]
    refine ⟨_, rfl, 3, rfl, D0, _, rfl, SqL.of eD0, fun p3 hp3 => ⟨p3, rfl, ⟨_, SqL.of upd_same⟩, fun D1 hD1 => ?_⟩⟩
    rw [ecut] at hD1 ⊢
    have hl3 : upd H1 p3 (.lst ((as.take 3).map V.ref)) p3 = some (.lst ((as.take 3).map V.ref)) := upd_same
    generalize eH2 : upd H1 p3 (.lst ((as.take 3).map V.ref)) = H2 at hD1 hl3 ⊢
    have s2' : Same H1 H2 := by rw [← eH2]; exact same_new hp3
    have rw3 := (rw0.take 3).same s2'
    refine lcG ((as.take 3).zip (rs.take 3)) (fun ar => some (.str (ar.2.headD Str.empty))) (by rw [List.length_zip, ← rw3.len, Nat.min_self]; exact walk_listL (as.take 3) V.ref) (by rw [List.length_zip, List.length_take]; omega) hD1 (yat_same _) (fun H' s => SqL.of (s _ _ hl3)) (fun i ar y H' H'' k1 hz sz hy k2 => ?_) (fun H3 s3 e3 => ?_)
    · obtain ⟨rfl, hy⟩ := hy
      rw [List.getElem?_zip_eq_some] at hz
      obtain rfl := map_get hz.1 hy
      have hrow := sz _ _ (rw3.get hz.1 hz.2)
      have nr := nes ar.2 (List.mem_of_mem_take (List.mem_of_getElem? hz.2))
      obtain ⟨u, us, e⟩ := List.exists_cons_of_ne_nil nr
      rw [e] at hrow k2
      exact ⟨rfl, _, rfl, ar.1, _, _, _, rfl, rfl, SqL.of hrow, atI_nat (j := 0) rfl, k2 _ (Same.refl _)⟩
    have ez : ((as.take 3).zip (rs.take 3)).filterMap (fun ar => some (V.str (ar.2.headD Str.empty))) = ((rs.take 3).map (fun r => r.headD Str.empty)).map V.str := by
      rw [List.filterMap_eq_map', List.map_map]
      have : ((as.take 3).zip (rs.take 3)).map Prod.snd = rs.take 3 := List.map_snd_zip (by rw [rw3.len]; exact Nat.le_refl _)
      conv => rhs; rw [← this, List.map_map]
      rfl
    rw [ez] at e3
    refine ⟨tT, _, rfl, .inr (kT _), fun l4 hl4 => ?_⟩
    have s4 := ((s1.trans s2').trans s3).trans (same_new (o := .lst (titles.map V.str)) hl4)
    refine ⟨dTx _, dTx titles, dp_dTx (keep1 e3 hl4), dp_dTx upd_same, shaped_dTx (fun x hx => ?_), (by decide +kernel), _, rfl, ?_⟩
    · obtain ⟨r, h1, rfl⟩ := List.mem_map.mp hx
      have h2 := List.mem_of_mem_take h1
      obtain ⟨u, us, rfl⟩ := List.exists_cons_of_ne_nil (nes r h2)
      exact oks _ h2 u (by simp)
    rw [eqv_dTx]
    refine ite2 (fun c => kN (parts_none (by simpa using c)) _ s4) (fun c => ?_)
    obtain ⟨s0', m0, g0, rest, rfl⟩ := heads_is nes (by simpa using c)
    rw [parts_is] at kN kY
    generalize eH4 : upd H3 l4 (.lst (titles.map V.str)) = H4 at s4 ⊢
    have s14 : Same H1 H4 := by
      rw [← eH4]
      exact (s2'.trans s3).trans (same_new hl4)
    have eD4 := s14 _ _ eD0
    have rw4 := rw0.same s14
    clear e3 rw3 ez hl3 eH2 hD1 hp3 hl4 eH4 s3 s2' c
    -- the three lists
    refine ⟨_, rfl, 3, rfl, D0, _, rfl, SqL.of eD4, fun p5 hp5 => ⟨p5, rfl, ⟨_, SqL.of upd_same⟩, fun D2 hD2 => ?_⟩⟩
    rw [ecut] at hD2 ⊢
    have hl5 : upd H4 p5 (.lst ((as.take 3).map V.ref)) p5 = some (.lst ((as.take 3).map V.ref)) := upd_same
    generalize eH5 : upd H4 p5 (.lst ((as.take 3).map V.ref)) = H5 at hD2 hl5 ⊢
    have s5' : Same H4 H5 := by rw [← eH5]; exact same_new hp5
    have rw5 := (rw4.take 3).same s5'
    refine lc_it (walk_listL (as.take 3) V.ref) (fun i H' => Pr H5 D2 H' ([s0', m0, g0].take i)) (Pr.zero hD2) (fun i H' _ h => SqL.of (h.keeps _ _ hl5)) (fun i y H' H'' hi h hy => ?_) (fun H6 g6 => ?_)
    · obtain ⟨rfl, hy⟩ := hy
      have ha : (as.take 3)[i]? = some (as.take 3)[i] := List.getElem?_eq_getElem hi
      obtain rfl := map_get ha hy
      have hi3 : i < 3 := by rw [List.length_take] at hi; omega
      have row : ∃ u us, [(("signs" : Str) :: s0'), (("moods" : Str) :: m0), (("good" : Str) :: g0)][i]? = some (u :: us) ∧ [s0', m0, g0][i]? = some us := by
        match i, hi3 with
        | 0, _ => exact ⟨_, _, rfl, rfl⟩
        | 1, _ => exact ⟨_, _, rfl, rfl⟩
        | 2, _ => exact ⟨_, _, rfl, rfl⟩
      obtain ⟨u, us, hu, hus⟩ := row
      refine ⟨rfl, _, rfl, 1, rfl, (as.take 3)[i], _, rfl, SqL.of (h.keeps _ _ (rw5.get ha hu)), fun p hp => ?_⟩
      rw [show (1 : Int) = ((1 : Nat) : Int) from rfl, cut_fromV _ 1 (by decide)]
      have et : [s0', m0, g0].take (i + 1) = [s0', m0, g0].take i ++ [us] := by
        rw [List.take_add_one, hus]
        rfl
      rw [et]
      exact h.push (r := us) hD2 hp (by rw [List.length_take]; simp; omega)
    have g6' : Pr H5 D2 H6 [s0', m0, g0] := by
      have : [s0', m0, g0].take (as.take 3).length = [s0', m0, g0] := by
        rw [List.length_take, len]
        simp
      rw [this] at g6
      exact g6
    obtain ⟨bs, s6', eD6, rw6⟩ := g6'.rw_
    have s6 := (s4.trans s5').trans s6'
    have s16 := (s14.trans s5').trans s6'
    have eR6 := s16 _ _ eD0
    have rr6 := rw0.same s16
    clear g6 g6' rw5 hl5 eH5 hD2 s6' s5' rw4 eD4 hp5
    cases rw6 with
    | cons e1 t1 =>
    cases t1 with
    | cons e2 t2 =>
    cases t2 with
    | cons e3 t3 =>
    cases t3
    rename_i a1 a2 a3
    refine ⟨D2, _, rfl, SqL.of eD6, rfl, _, _, rfl, _, _, rfl, _, _, rfl, rfl, ?_⟩
    have m1 := sms (("signs" : Str) :: s0') (by simp)
    have m2 := sms (("moods" : Str) :: m0) (by simp)
    have m3 := sms (("good" : Str) :: g0) (by simp)
    have o1 := oks (("signs" : Str) :: s0') (by simp)
    have o2 := oks (("moods" : Str) :: m0) (by simp)
    have o3 := oks (("good" : Str) :: g0) (by simp)
    simp only [List.length_cons] at m1 m2 m3
    refine ⟨_, rfl, a1, s0', rfl, e1, fun x hx => Nat.le_trans (m1.2 x (by simp [hx])) (by omega), fun H7 s7 => ⟨_, rfl, ite2 (fun c1 => ?_) (fun c1 => ?_)⟩⟩
    rotate_left
    · exact kN (by rw [if_neg (fun z => c1 z.1)]) _ (s6.trans s7)
    refine ⟨_, rfl, a2, m0, rfl, s7 _ _ e2, fun x hx => Nat.le_trans (m2.2 x (by simp [hx])) (by omega), fun H8 s8 => ⟨_, rfl, ite2 (fun c2 => ?_) (fun c2 => ?_)⟩⟩
    rotate_left
    · exact kN (by rw [if_neg (fun z => c2 z.2.1)]) _ ((s6.trans s7).trans s8)
    have s68 := s7.trans s8
    refine ⟨_, rfl, _, rfl, a3, a2, g0, m0, rfl, s68 _ _ e3, s68 _ _ e2, (by omega), (by omega), fun x hx => o3 x (by simp [hx]), fun x hx => o2 x (by simp [hx]), fun H9 s9 => ⟨_, rfl, ite2 (fun c3 => ?_) (fun c3 => ?_)⟩⟩
    · refine kN ?_ _ ((s6.trans s68).trans s9)
      rw [if_neg]
      intro z
      rw [z.2.2.1] at c3
      cases c3
    have c3' : areGoodL g0 m0 = true := by simpa using c3
    have s69 := s68.trans s9
    obtain ⟨x, rfl, zx⟩ := signs_one c1
    have zm := moods_few c2
    have rest9 := (rr6.same s69).drop 3
    refine ⟨_, rfl, a1, _, _, _, rfl, rfl, SqL.of (s69 _ _ e1), atI_nat (j := 0) rfl, _, rfl, _, rfl, 3, rfl, D0, _, rfl, SqL.of (s69 _ _ eR6), fun p7 hp7 => ?_⟩
    rw [show (3 : Int) = ((3 : Nat) : Int) from rfl, cut_fromV _ 3 (by decide), ← List.map_drop]
    have s10 := s69.trans (same_new (o := .lst ((as.drop 3).map V.ref)) hp7)
    refine ⟨x, a2, p7, m0, as.drop 3, rest, rfl, s10 _ _ e2, upd_same, rest9.same (same_new hp7), zx, zm, ?_, o1 x (by simp), fun y hy => o2 y (by simp [hy]), fun r hr y hy => oks r (by simp [hr]) y hy, fun c4 H10 s11 => ?_, fun c4 D H10 hD s11 eD => ?_⟩
    · simp only [List.length_cons] at few
      omega
    · refine ⟨_, rfl, rfl, _, rfl, iteT (kN ?_ _ ((s6.trans s10).trans s11))⟩
      rw [if_neg]
      intro z
      have := z.2.2.2
      simp only [List.getD_cons_zero] at this
      rw [c4] at this
      cases this
    · refine ⟨_, rfl, rfl, _, rfl, iteF ?_⟩
      have q1 := (s10.trans s11) _ _ e1
      have q2 := (s10.trans s11) _ _ e2
      have q3 := (s10.trans s11) _ _ e3
      refine ⟨_, rfl, a1, _, _, _, rfl, rfl, SqL.of q1, atI_nat (j := 0) rfl, _, rfl, a2, _, rfl, .inl ⟨SqL.of q2, fun M hM => ?_⟩⟩
      refine ⟨_, rfl, a3, _, rfl, .inl ⟨SqL.of (keep1 q3 hM), fun G hG => ?_⟩⟩
      refine ⟨_, rfl, (by show 4 ≤ sizeLine; decide), fun T hT => ?_⟩
      refine kY _ (by rw [if_pos ⟨c1, c2, c3', c4⟩]) T _ (((((s6.trans s10).trans s11).trans (same_new hM)).trans (same_new hG)).trans (same_new hT)) ⟨M, G, D, upd_same, keep1 (keep1 upd_same hG) hT, keep1 upd_same hT, keep1 (keep1 (keep1 eD hM) hG) hT⟩
end
end My
namespace My
open PySem PySem.Spec PyProof.Rows L2
abbrev kT (t : Str) (c : Nat) : List Key := [Sum.inr t, Sum.inr (sg c)]
def gf (kvs : List (List Key × V)) (t : Str) (c : Nat) : Str := match valV kvs (kT t c) with
  | some (.str y) => y
  | _ => Str.empty
theorem gf_is {kvs : List (List Key × V)} {t : Str} {c : Nat} {y : Str} (h : valV kvs (kT t c) = some (.str y)) : gf kvs t c = y := by
  unfold gf
  rw [h]
end My
namespace My
open PySem PySem.Spec PyProof.Rows L2
abbrev menuX : List (List Str) := [["a", "b", "z"], ["ab", "by", "az"], ["abc", "bxz", "cde"]]
/-- the goals of these pairs are told, and are words of ws -/
def Cv (kvs : List (List Key × V)) (ws : List Str) (done : List (Str × Nat)) : Prop := kvs.length ≤ done.length ∧ ∀ d ∈ done, ∃ y ∈ ws, valV kvs (kT d.1 d.2) = some (.str y)
theorem Cv.put {kvs : List (List Key × V)} {ws : List Str} {done : List (Str × Nat)} (h : Cv kvs ws done) {t y : Str} {c : Nat} (hy : y ∈ ws) : Cv (putK kvs (kT t c) (.str y)) ws (done ++ [(t, c)]) := by
  refine ⟨?_, fun d hd => ?_⟩
  · have := length_putK kvs (kT t c) (V.str y)
    have := h.1
    rw [List.length_append]
    simp
    omega
  · rw [valV_put]
    by_cases e : kT d.1 d.2 = kT t c
    · rw [if_pos e]
      exact ⟨y, hy, rfl⟩
    · rw [if_neg e]
      rcases List.mem_append.mp hd with m | m
      · exact h.2 d m
      · simp at m
        subst m
        exact absurd rfl e
def doneL (ws : List Str) (x : Str) : List (Str × Nat) := ws.flatMap fun t => x.cps.toList.map fun c => (t, c)
theorem done_take {x : Str} {ws : List Str} {i : Nat} {m : Str} (h : ws[i]? = some m) : doneL (ws.take (i + 1)) x = doneL (ws.take i) x ++ x.cps.toList.map fun c => (m, c) := by
  unfold doneL
  rw [List.take_add_one, h, List.flatMap_append]
  simp
theorem done_len (ws : List Str) (x : Str) : (doneL ws x).length = ws.length * x.length := by
  unfold doneL
  induction ws with
  | nil => simp
  | cons m t ih =>
    rw [List.flatMap_cons, List.length_append, ih, List.length_map, Array.length_toList, List.length_cons, Nat.succ_mul]
    show x.length + _ = _
    omega
def SkAt (H : Hp) (q : Addr) (x : Str) (ws fs : List Str) (kvs : List (List Key × V)) : Prop := ∃ lw lf g, H q = some (.lst [.str x, .ref lw, .ref lf, .ref g]) ∧ H lw = some (.lst (ws.map V.str)) ∧ H lf = some (.lst (fs.map V.str)) ∧ H g = some (.dT kvs)
end My
namespace My
open PySem PySem.Spec PyProof.Rows L2
/-- the goal that the dict tells -/
def lineL (kvs : List (List Key × V)) (t : Str) (c : Nat) : Str := t ++ sp ++ sg c ++ sp ++ gf kvs t c
def headL (x : Str) (ws fs : List Str) : List Str := [("signs " : Str) ++ x, Txt.join sp (("moods" : Str) :: ws), Txt.join sp (("good" : Str) :: fs)]
def bodyL (x : Str) (ws : List Str) (kvs : List (List Key × V)) : List Str := ws.flatMap fun t => x.cps.toList.map fun c => lineL kvs t c
def linesL (x : Str) (ws fs : List Str) (kvs : List (List Key × V)) : List Str := headL x ws fs ++ bodyL x ws kvs
def textL (x : Str) (ws fs : List Str) (kvs : List (List Key × V)) : Str := Txt.join nl (linesL x ws fs kvs)
/-- all words are short -/
structure Short (x : Str) (ws fs : List Str) (kvs : List (List Key × V)) : Prop where
  hx : x.length ≤ 3
  nw : ws.length ≤ 20
  nf : fs.length ≤ 20
  lw : ∀ y ∈ ws, y.length ≤ 8
  lf : ∀ y ∈ fs, y.length ≤ 8
  gl : ∀ t ∈ ws, ∀ c ∈ x.cps.toList, ∃ y : Str, y.length ≤ 8 ∧ valV kvs (kT t c) = some (.str y)
def spText : Sp := fun vs H Q _ => ∃ (q : Addr) (x : Str) (ws fs : List Str) (kvs : List (List Key × V)), vs = [.ref q] ∧ SkAt H q x ws fs kvs ∧ Short x ws fs kvs ∧ ∀ H', Same H H' → Q (.str (textL x ws fs kvs)) H'
theorem sum_le {M : Nat} : ∀ {l : List Str}, (∀ y ∈ l, y.length ≤ M) → (l.map (·.length)).sum ≤ l.length * M
  | [], _ => Nat.zero_le _
  | y :: t, h => by
    have h1 := h y (by simp)
    have h2 := sum_le (l := t) fun z hz => h z (by simp [hz])
    rw [List.map_cons, List.sum_cons, List.length_cons, Nat.succ_mul]
    omega
theorem body_take {x : Str} {ws : List Str} {kvs : List (List Key × V)} {i : Nat} {m : Str} (h : ws[i]? = some m) : bodyL x (ws.take (i + 1)) kvs = bodyL x (ws.take i) kvs ++ x.cps.toList.map fun c => lineL kvs m c := by
  unfold bodyL
  rw [List.take_add_one, h, List.flatMap_append]
  simp
theorem body_len (x : Str) (ws : List Str) (kvs : List (List Key × V)) : (bodyL x ws kvs).length = ws.length * x.length := by
  unfold bodyL
  induction ws with
  | nil => simp
  | cons m t ih =>
    rw [List.flatMap_cons, List.length_append, ih, List.length_map, Array.length_toList, List.length_cons, Nat.succ_mul]
    show x.length + _ = _
    omega
theorem join_len (ps : List Str) : (Txt.join sp ps).length ≤ (ps.map (·.length)).sum + ps.length := by
  rw [TL.join_eq]
  cases ps with
  | nil => exact Nat.zero_le _
  | cons a l =>
    rw [len_join_cons, List.length_cons]
    have : (sp : Str).length = 1 := rfl
    rw [this]
    omega
theorem lines_short {x : Str} {ws fs : List Str} {kvs : List (List Key × V)} (h : Short x ws fs kvs) : (linesL x ws fs kvs).length ≤ 63 ∧ ∀ y ∈ linesL x ws fs kvs, y.length ≤ 200 := by
  have z := h.hx
  have z1 := h.nw
  have z2 := h.nf
  refine ⟨?_, fun y hy => ?_⟩
  · unfold linesL
    rw [List.length_append, body_len]
    have : ws.length * x.length ≤ 20 * 3 := Nat.mul_le_mul z1 z
    show 3 + _ ≤ 63
    omega
  · unfold linesL at hy
    rcases List.mem_append.mp hy with m | m
    · unfold headL at m
      simp only [List.mem_cons, List.not_mem_nil, or_false] at m
      rcases m with rfl | rfl | rfl
      · rw [len_app]
        have : ("signs " : Str).length = 6 := by decide +kernel
        omega
      · have a := join_len (("moods" : Str) :: ws)
        have b := sum_le h.lw
        have c : ("moods" : Str).length = 5 := by decide +kernel
        rw [List.map_cons, List.sum_cons, List.length_cons, c] at a
        omega
      · have a := join_len (("good" : Str) :: fs)
        have b := sum_le h.lf
        have c : ("good" : Str).length = 4 := by decide +kernel
        rw [List.map_cons, List.sum_cons, List.length_cons, c] at a
        omega
    · unfold bodyL at m
      obtain ⟨t, ht, m⟩ := List.mem_flatMap.mp m
      obtain ⟨c, hc, rfl⟩ := List.mem_map.mp m
      obtain ⟨g, lg, eg⟩ := h.gl t ht c hc
      unfold lineL
      rw [gf_is eg, len_app, len_app, len_app, len_app]
      have := h.lw t ht
      have e1 : (sp : Str).length = 1 := rfl
      have e2 : (sg c).length = 1 := rfl
      omega
end My
namespace My
open PySem PySem.Spec PyProof.Rows L2
/-- letters alone -/
def Ltr (y : Str) : Prop := ∀ c ∈ y.cps.toList, 97 ≤ c
theorem ltr_only {y : Str} (h : madeL y abc = true) : Ltr y := fun c hc => by
  unfold madeL at h
  rw [List.all_map, List.all_eq_true] at h
  have := h c hc
  have m : c ∈ abc.cps.toList := by simpa using this
  have all : ∀ d ∈ abc.cps.toList, 97 ≤ d := by decide +kernel
  exact all c m
theorem ltr_word {y : Str} (h : isWordL y = true) : Ltr y := ltr_only (Bool.and_eq_true_iff.mp h).2
theorem ltr_signs {x : Str} (h : areSignsL [x] = true) : Ltr x := by
  rw [areS1] at h
  simp only [Bool.and_eq_true] at h
  exact ltr_only h.1.2
theorem ltr_sg {x : Str} (h : Ltr x) {c : Nat} (hc : c ∈ x.cps.toList) : Ltr (sg c) := fun d hd => by
  have : d = c := by simpa using hd
  rw [this]
  exact h c hc
theorem join_from (y : Str) : ∀ (ps : List Str) (c : Nat), c ∈ (Str.join y ps).cps.toList → c ∈ y.cps.toList ∨ ∃ p ∈ ps, c ∈ p.cps.toList
  | [], _, h => by cases h
  | [x], _, h => .inr ⟨x, by simp, h⟩
  | x :: z :: r, c, h => by
    have h' : c ∈ (x ++ y ++ Str.join y (z :: r)).cps.toList := h
    rw [cps_app, cps_app] at h'
    simp only [List.mem_append] at h'
    rcases h' with (h' | h') | h'
    · exact .inr ⟨x, by simp, h'⟩
    · exact .inl h'
    · rcases join_from y (z :: r) c h' with h' | ⟨p, hp, h'⟩
      · exact .inl h'
      · exact .inr ⟨p, by simp [hp], h'⟩
/-- a line of words, split -/
theorem split_line {ps : List Str} (hne : ps ≠ []) (h : ∀ p ∈ ps, Ltr p) : Txt.split (Txt.join sp ps) sp = ps := by
  refine TL.split_join (s := 32) (S := []) rfl (by decide +kernel) hne fun p hp => ?_
  intro m
  have := h p hp 32 m
  omega
theorem line_no {ps : List Str} (h : ∀ p ∈ ps, Ltr p) : (10 : Nat) ∉ (Txt.join sp ps).cps.toList := fun m => by
  rw [TL.join_eq] at m
  rcases join_from sp ps 10 m with m | ⟨p, hp, m⟩
  · simp at m
  · have := h p hp 10 m
    omega
theorem join2 (a b : Str) : Txt.join sp [a, b] = a ++ sp ++ b := by rw [TL.join_eq]; rfl
theorem str_app_assoc (a b c : Str) : a ++ b ++ c = a ++ (b ++ c) := str_ext (by rw [cps_app, cps_app, cps_app, cps_app, List.append_assoc])
theorem join3 (a b c : Str) : Txt.join sp [a, b, c] = a ++ sp ++ b ++ sp ++ c := by
  rw [TL.join_eq]
  show a ++ sp ++ (b ++ sp ++ c) = _
  rw [str_app_assoc b sp c, str_app_assoc (a ++ sp ++ b) sp c, str_app_assoc (a ++ sp) b (sp ++ c)]
/-- the rows of goals of a drawn rule -/
def rsL (x : Str) (ws : List Str) (kvs : List (List Key × V)) : List (List Str) := ws.flatMap fun t => x.cps.toList.map fun c => [t, sg c, gf kvs t c]
structure Fine (x : Str) (ws fs : List Str) (kvs : List (List Key × V)) : Prop where
  sgs : areSignsL [x] = true
  mds : areMoodsL ws = true
  sub : fs.Sublist ws
  gl : ∀ t ∈ ws, ∀ c ∈ x.cps.toList, ∃ y ∈ ws, valV kvs (kT t c) = some (.str y)
theorem moods_word {ws : List Str} (h : areMoodsL ws = true) : ∀ y ∈ ws, isWordL y = true := by
  unfold areMoodsL at h
  simp only [Bool.and_eq_true] at h
  exact List.all_eq_true.mp h.1.2
theorem moods_nd {ws : List Str} (h : areMoodsL ws = true) : ws.Nodup := by
  unfold areMoodsL at h
  simp only [Bool.and_eq_true] at h
  exact of_decide_eq_true h.2
theorem sub_filter : ∀ {ws fs : List Str}, ws.Nodup → fs.Sublist ws → ws.filter (fun m => decide (m ∈ fs)) = fs
  | [], fs, _, h => by
    have := List.sublist_nil.mp h
    subst this
    rfl
  | y :: t, fs, nd, h => by
    have nd' := List.nodup_cons.mp nd
    cases h with
    | cons _ h =>
      have hy : y ∉ fs := fun m => nd'.1 (h.subset m)
      rw [List.filter_cons, if_neg (by simpa using hy)]
      exact sub_filter nd'.2 h
    | cons_cons _ h =>
      rename_i gs
      rw [List.filter_cons, if_pos (by simp)]
      congr 1
      have e : t.filter (fun m => decide (m ∈ y :: gs)) = t.filter (fun m => decide (m ∈ gs)) := by
        apply List.filter_congr
        intro z hz
        have : z ≠ y := fun e => nd'.1 (e ▸ hz)
        simp [this]
      rw [e]
      exact sub_filter nd'.2 h
theorem fine_rows {x : Str} {ws fs : List Str} {kvs : List (List Key × V)} (h : Fine x ws fs kvs) : rowsL (textL x ws fs kvs) = [(("signs" : Str)), x] :: (("moods" : Str) :: ws) :: (("good" : Str) :: fs) :: rsL x ws kvs := by
  have lx := ltr_signs h.sgs
  have lw : ∀ y ∈ ws, Ltr y := fun y hy => ltr_word (moods_word h.mds y hy)
  have lf : ∀ y ∈ fs, Ltr y := fun y hy => lw y (h.sub.subset hy)
  have lg : ∀ t ∈ ws, ∀ c ∈ x.cps.toList, Ltr (gf kvs t c) := fun t ht c hc => by
    obtain ⟨y, hy, e⟩ := h.gl t ht c hc
    rw [gf_is e]
    exact lw y hy
  have l1 : Ltr ("signs" : Str) := ltr_only (by decide +kernel)
  have l2 : Ltr ("moods" : Str) := ltr_only (by decide +kernel)
  have l3 : Ltr ("good" : Str) := ltr_only (by decide +kernel)
  let pss : List (List Str) := [("signs" : Str), x] :: (("moods" : Str) :: ws) :: (("good" : Str) :: fs) :: rsL x ws kvs
  have e : linesL x ws fs kvs = pss.map (Txt.join sp) := by
    show headL x ws fs ++ bodyL x ws kvs = Txt.join sp [("signs" : Str), x] :: Txt.join sp (("moods" : Str) :: ws) :: Txt.join sp (("good" : Str) :: fs) :: (rsL x ws kvs).map (Txt.join sp)
    have e1 : Txt.join sp [("signs" : Str), x] = ("signs " : Str) ++ x := by
      rw [join2]
      rfl
    have e2 : (rsL x ws kvs).map (Txt.join sp) = bodyL x ws kvs := by
      unfold rsL bodyL
      rw [List.map_flatMap]
      congr 1
      funext t
      rw [List.map_map]
      exact List.map_congr_left fun c _ => join3 t (sg c) (gf kvs t c)
    rw [e1, e2]
    rfl
  have all : ∀ ps ∈ pss, ps ≠ [] ∧ ∀ p ∈ ps, Ltr p := by
    intro ps hps
    have hps' : ps = [("signs" : Str), x] ∨ ps = ("moods" : Str) :: ws ∨ ps = ("good" : Str) :: fs ∨ ps ∈ rsL x ws kvs := by simpa [pss] using hps
    rcases hps' with rfl | rfl | rfl | hm
    · exact ⟨by simp, fun p hp => by
        rcases List.mem_cons.mp hp with rfl | hp
        · exact l1
        · have : p = x := by simpa using hp
          rw [this]; exact lx⟩
    · exact ⟨by simp, fun p hp => by
        rcases List.mem_cons.mp hp with rfl | hp
        · exact l2
        · exact lw p hp⟩
    · exact ⟨by simp, fun p hp => by
        rcases List.mem_cons.mp hp with rfl | hp
        · exact l3
        · exact lf p hp⟩
    · unfold rsL at hm
      obtain ⟨t, ht, hm⟩ := List.mem_flatMap.mp hm
      obtain ⟨c, hc, rfl⟩ := List.mem_map.mp hm
      refine ⟨by simp, fun p hp => ?_⟩
      have : p = t ∨ p = sg c ∨ p = gf kvs t c := by simpa using hp
      rcases this with rfl | rfl | rfl
      · exact lw _ ht
      · exact ltr_sg lx hc
      · exact lg t ht c hc
  unfold rowsL textL
  rw [TL.split_join (s := 10) (S := []) rfl (by decide +kernel) (by rw [e]; simp [pss]) (fun p hp m => by
    rw [e] at hp
    obtain ⟨ps, hps, rfl⟩ := List.mem_map.mp hp
    exact line_no (all ps hps).2 m), e, List.map_map]
  have : pss.map ((fun y => Txt.split y sp) ∘ Txt.join sp) = pss.map id := by
    apply List.map_congr_left
    intro ps hps
    exact split_line (all ps hps).1 (all ps hps).2
  rw [this, List.map_id]
theorem fine_goals {x : Str} {ws fs : List Str} {kvs : List (List Key × V)} (h : Fine x ws fs kvs) : goalsOkL x ws (rsL x ws kvs) = true := by
  unfold goalsOkL
  rw [Bool.and_eq_true_iff]
  refine ⟨decide_eq_true ?_, List.all_eq_true.mpr fun r hr => ?_⟩
  · unfold rsL pairsL
    rw [List.map_flatMap]
    congr 1
    funext t
    rw [List.map_map]
    rfl
  · unfold rsL at hr
    obtain ⟨t, ht, hr⟩ := List.mem_flatMap.mp hr
    obtain ⟨c, hc, rfl⟩ := List.mem_map.mp hr
    obtain ⟨y, hy, e⟩ := h.gl t ht c hc
    unfold rowOkL
    rw [Bool.and_eq_true_iff]
    refine ⟨rfl, decide_eq_true ?_⟩
    show gf kvs t c ∈ ws
    rw [gf_is e]
    exact hy
/-- the text of a drawn rule is read as what it was drawn -/
theorem fine_parse {x : Str} {ws fs : List Str} {kvs : List (List Key × V)} (h : Fine x ws fs kvs) : parseL (textL x ws fs kvs) = some ⟨x, ws, fs, rsL x ws kvs⟩ := by
  unfold parseL
  rw [fine_rows h, parts_is, if_pos]
  · rfl
  · refine ⟨h.sgs, h.mds, ?_, fine_goals h⟩
    unfold areGoodL
    exact decide_eq_true (sub_filter (moods_nd h.mds) h.sub).symm
theorem dOf_const {α κ : Type} [DecidableEq κ] {key : α → κ} {val : α → V} {k : κ} {v : V} : ∀ (xs : List α), (∀ a ∈ xs, key a = k → val a = v) → (∃ a ∈ xs, key a = k) → valV (dOf key val xs) k = some v := by
  suffices h : ∀ (n : Nat) (xs : List α), xs.length = n → (∀ a ∈ xs, key a = k → val a = v) → (∃ a ∈ xs, key a = k) → valV (dOf key val xs) k = some v from fun xs => h _ xs rfl
  intro n
  induction n with
  | zero =>
    intro xs h _ ⟨a, ha, _⟩
    have : xs = [] := List.eq_nil_of_length_eq_zero h
    subst this
    cases ha
  | succ n ih =>
    intro xs h h1 h2
    have hne : xs ≠ [] := by intro z; subst z; cases h
    obtain ⟨ys, a, rfl⟩ : ∃ ys a, xs = ys ++ [a] := ⟨xs.dropLast, xs.getLast hne, (List.dropLast_concat_getLast hne).symm⟩
    have hl : ys.length = n := by rw [List.length_append] at h; simpa using h
    rw [dOf_snoc, valV_put]
    by_cases e : k = key a
    · rw [if_pos e, h1 a (by simp) e.symm]
    · rw [if_neg e]
      refine ih ys hl (fun b hb => h1 b (by simp [hb])) ?_
      obtain ⟨b, hb, eb⟩ := h2
      rcases List.mem_append.mp hb with m | m
      · exact ⟨b, m, eb⟩
      · have : b = a := by simpa using m
        exact absurd (this ▸ eb.symm) e
/-- the goals that are read are those that were drawn -/
theorem fine_val {x : Str} {ws fs : List Str} {kvs : List (List Key × V)} (h : Fine x ws fs kvs) {t : Str} (ht : t ∈ ws) {c : Nat} (hc : c ∈ x.cps.toList) : valV (goalsD (rsL x ws kvs)) (kT t c) = some (.str (gf kvs t c)) := by
  unfold goalsD
  refine dOf_const _ (fun r hr e => ?_) ⟨[t, sg c, gf kvs t c], ?_, rfl⟩
  · unfold rsL at hr
    obtain ⟨t', ht', hr⟩ := List.mem_flatMap.mp hr
    obtain ⟨c', hc', rfl⟩ := List.mem_map.mp hr
    have e' : [(Sum.inr t' : Key), Sum.inr (sg c')] = [Sum.inr t, Sum.inr (sg c)] := e
    injection e' with e1 e2
    injection e2 with e2 _
    have e1' : t' = t := Sum.inr.inj e1
    have e2' : c' = c := sg_inj (Sum.inr.inj e2)
    subst e1' e2'
    rfl
  · unfold rsL
    exact List.mem_flatMap.mpr ⟨t, ht, List.mem_map.mpr ⟨c, hc, rfl⟩⟩
/-- a sketch is fine -/
theorem Fine.short {x : Str} {ws fs : List Str} {kvs : List (List Key × V)} (h : Fine x ws fs kvs) (hn : ws.length ≤ 20) : Short x ws fs kvs := by
  have w8 : ∀ y ∈ ws, y.length ≤ 8 := fun y hy => by
    have := moods_word h.mds y hy
    unfold isWordL at this
    simp only [Bool.and_eq_true] at this
    exact of_decide_eq_true this.1.2
  refine ⟨?_, hn, Nat.le_trans h.sub.length_le hn, w8, fun y hy => w8 y (h.sub.subset hy), fun t ht c hc => ?_⟩
  · have := h.sgs
    rw [areS1] at this
    simp only [Bool.and_eq_true] at this
    exact of_decide_eq_true this.1.1.2
  · obtain ⟨y, hy, e⟩ := h.gl t ht c hc
    exact ⟨y, w8 y hy, e⟩
theorem text_small {x : Str} {ws fs : List Str} {kvs : List (List Key × V)} (h : Short x ws fs kvs) : (textL x ws fs kvs).length ≤ 1000000 := by
  unfold textL
  rw [TL.join_eq]
  have hs := lines_short h
  have b := sum_le hs.2
  have e : (linesL x ws fs kvs).length * 200 ≤ 63 * 200 := Nat.mul_le_mul_right _ hs.1
  cases hl : linesL x ws fs kvs with
  | nil => exact Nat.zero_le _
  | cons a l =>
    rw [hl] at b e hs
    rw [len_join_cons]
    have : (nl : Str).length = 1 := rfl
    rw [this]
    have := hs.1
    rw [List.length_cons] at this
    omega
theorem low_only {y : Str} (h : madeL y abc = true) : ∀ c ∈ y.cps.toList, c < 256 := fun c hc => by
  unfold madeL at h
  rw [List.all_map, List.all_eq_true] at h
  have := h c hc
  have m : c ∈ abc.cps.toList := by simpa using this
  have all : ∀ d ∈ abc.cps.toList, d < 256 := by decide +kernel
  exact all c m
theorem text_low {x : Str} {ws fs : List Str} {kvs : List (List Key × V)} (h : Fine x ws fs kvs) : ∀ c ∈ (textL x ws fs kvs).cps.toList, c < 256 := by
  have wl : ∀ y ∈ ws, ∀ c ∈ y.cps.toList, c < 256 := fun y hy => low_only (Bool.and_eq_true_iff.mp (moods_word h.mds y hy)).2
  have xl : ∀ c ∈ x.cps.toList, c < 256 := by
    have := h.sgs
    rw [areS1] at this
    simp only [Bool.and_eq_true] at this
    exact low_only this.1.2
  intro c hc
  unfold textL at hc
  rw [TL.join_eq] at hc
  rcases join_from nl _ c hc with m | ⟨p, hp, m⟩
  · have : c = 10 := by simpa using m
    omega
  · unfold linesL at hp
    rcases List.mem_append.mp hp with hp | hp
    · unfold headL at hp
      simp only [List.mem_cons, List.not_mem_nil, or_false] at hp
      rcases hp with rfl | rfl | rfl
      · rw [cps_app, List.mem_append] at m
        rcases m with m | m
        · have : ∀ d ∈ ("signs " : Str).cps.toList, d < 256 := by decide +kernel
          exact this c m
        · exact xl c m
      · rw [TL.join_eq] at m
        rcases join_from sp _ c m with m | ⟨p, hp, m⟩
        · have : c = 32 := by simpa using m
          omega
        · rcases List.mem_cons.mp hp with rfl | hp
          · have : ∀ d ∈ ("moods" : Str).cps.toList, d < 256 := by decide +kernel
            exact this c m
          · exact wl p hp c m
      · rw [TL.join_eq] at m
        rcases join_from sp _ c m with m | ⟨p, hp, m⟩
        · have : c = 32 := by simpa using m
          omega
        · rcases List.mem_cons.mp hp with rfl | hp
          · have : ∀ d ∈ ("good" : Str).cps.toList, d < 256 := by decide +kernel
            exact this c m
          · exact wl p (h.sub.subset hp) c m
    · unfold bodyL at hp
      obtain ⟨t, ht, hp⟩ := List.mem_flatMap.mp hp
      obtain ⟨d, hd, rfl⟩ := List.mem_map.mp hp
      obtain ⟨y, hy, e⟩ := h.gl t ht d hd
      unfold lineL at m
      rw [gf_is e, cps_app, cps_app, cps_app, cps_app] at m
      simp only [List.mem_append] at m
      rcases m with (((m | m) | m) | m) | m
      · exact wl t ht c m
      · have : c = 32 := by simpa using m
        omega
      · have : c = d := by simpa using m
        rw [this]; exact xl d hd
      · have : c = 32 := by simpa using m
        omega
      · exact wl y hy c m
theorem text_ok {x : Str} {ws fs : List Str} {kvs : List (List Key × V)} (h : Fine x ws fs kvs) : PyData.strOk (textL x ws fs kvs) = true := ok_low (text_low h)
end My
namespace My
open PySem PySem.Spec PyProof.Rows L2 PySem.GX L2H LamX
def spLetters : Sp := fun vs H Q _ => ∃ (p : Addr) (n : Nat), vs = [.ref p, .int (n : Int)] ∧ Wl H p ∧ 1 ≤ n ∧ n ≤ 3 ∧ ∀ (x : Str) (H' : Hp), areSignsL [x] = true → x.length = n → Sb p H H' → Wl H' p → Q (.str x) H'
/-- places in the alphabet, ascending -/
def Asc (m : Nat) (ns : List Nat) : Prop := ns.Pairwise (· < ·) ∧ ∀ n ∈ ns, n < m
theorem Asc.snoc {m k : Nat} {ns : List Nat} (h : Asc m ns) (h1 : m ≤ k + 1) (h2 : ∀ n ∈ ns, n < k) : Asc (k + 1) (ns ++ [k]) := by
  refine ⟨?_, fun n hn => ?_⟩
  · rw [List.pairwise_append]
    exact ⟨h.1, by simp, fun a ha b hb => by rw [List.mem_singleton.mp hb]; exact h2 a ha⟩
  · rcases List.mem_append.mp hn with m | m
    · have := h2 n m; omega
    · rw [List.mem_singleton.mp m]; omega
theorem abc_at : ∀ n, n < 26 → abc.cps.toList[n]? = some (97 + n) := by decide +kernel
theorem letters_ok {ns : List Nat} (h : Asc 26 ns) (l1 : 1 ≤ ns.length) (l3 : ns.length ≤ 3) : areSignsL [Txt.join Str.empty (ns.map fun n => sg (97 + n))] = true ∧ (Txt.join Str.empty (ns.map fun n => sg (97 + n))).length = ns.length := by
  have e : (Txt.join Str.empty (ns.map fun n => sg (97 + n))).cps.toList = ns.map (97 + ·) := by
    rw [TL.join_eq]
    have := join_signs (ns.map (97 + ·))
    rw [List.map_map] at this
    exact this
  have el : (Txt.join Str.empty (ns.map fun n => sg (97 + n))).length = ns.length := by
    show (Txt.join Str.empty (ns.map fun n => sg (97 + n))).cps.size = _
    rw [← Array.length_toList, e, List.length_map]
  refine ⟨?_, el⟩
  rw [areS1, el, decide_eq_true l1, decide_eq_true l3, Bool.true_and, Bool.true_and, Bool.and_eq_true_iff]
  constructor
  · unfold madeL
    rw [e, List.all_map, List.all_eq_true]
    intro c hc
    obtain ⟨n, hn, rfl⟩ := List.mem_map.mp hc
    exact decide_eq_true (List.mem_of_getElem? (abc_at n (h.2 n hn)))
  · rw [e]
    refine decide_eq_true (List.pairwise_map.mpr (h.1.imp fun hab => ?_))
    omega
section
variable {P : Program} {w : World} {K : PySem.W.Frag} {mg : Str → Option Value} {base : Heap}
abbrev nLet : List Str := ["_law_purse_here", "_law_size", "_law_abc", "_law_found", "_law_k", "_law_low", "_law_at"]
theorem scLet : FnScope nLet ["_law_purse_here", "_law_size"] (defScope sLetters) := ⟨rfl, rfl, rfl, by decide +kernel, rfl, by decide +kernel, by decide +kernel⟩
def natsI (ns : List Nat) : List V := ns.map fun n : Nat => V.int (n : Int)
def tLow : TE := fun σ H Q => ∃ (l : Addr) (ns : List Nat), σ[3]? = some (some (.ref l)) ∧ H l = some (.lst (natsI ns)) ∧ ∀ (n : Nat) (H' : Hp), Same H H' → (ns = [] → n = 0) → (∀ ms a, ns = ms ++ [a] → n = a + 1) → Q (.int (n : Int)) H'
theorem ok_letters {f : Addr} {fd : FuncData} (F : Fun K "_law_letters" "_law_letters" sLetters f fd) (hP : Hv P w K mg base 1 "_law_pick" ["_law_purse_here", "_law_size"] spPk) (hR : mg "range" = none) : FnOk P w K mg base CX0 2 f fd ["_law_purse_here", "_law_size"] spLetters := by
  refine F.ok scLet (fun vs H Q E h => ?_) (fun cdv A outer s H vs Q E hr h => ?_)
  · obtain ⟨p, n, rfl, _⟩ := h
    rfl
  · obtain ⟨p, n, rfl, hW, n1, n3, k⟩ := h
    have hu := hu_of hr
    have hu0 : (A.deeper (envOfC "_law_letters" (defScope sLetters) s.heap.objs.size f cdv)).units < cLine := by omega
    refine ⟨_, pss_cons (ps_asg (pe_tup (pa_cons pe_str (pa_cons (pe_lst pa_nil) pa_nil))) (pg_tup rfl (pgs_cons (pg_name (i := 2) scLet.nd rfl (Or.inr rfl)) (pgs_cons (pg_name (i := 3) scLet.nd rfl (Or.inl rfl)) pgs_nil))))
      (pss_cons (ps_for PassesOwn.never rfl (pi_range1 rfl hR (pa_cons (pv 1) pa_nil)) (pg_name (i := 4) scLet.nd rfl (Or.inl rfl))
        (pss_cons (ps_set (i := 5) scLet.nd rfl (Or.inl rfl) (PE_imp (t' := tLow) (pe_ifExp (pt_cmpR (op_eqNil hu0) (pv 3) (pe_lst pa_nil) (nomark _)) pe_int (pe_op op_add (pe_ix ix_list (pv 3) (pe_un un_neg pe_int) (fun _ _ => rfl)) pe_int)) ?iLow))
        (pss_one (ps_expr (pe_bm PySem.F.plainAttrs_list PySem.F.slot_list_append PySem.F.type_list_append mt_append (pv 3) (pa_cons (pe_op op_add (pv 5) (pe_cl hP hr rfl pass0 (pa_cons (pv 0) (pa_cons (pe_op op_sub (pe_op op_add (pe_op op_sub pe_int (pv 1)) (pv 4)) (pv 5)) pa_nil)))) pa_nil))))))
      (pss_one (ps_ret (pe_join pe_str (pe_lc (own := [("_law_at", 6)]) (g := gName 6) (tt := tYes) rfl scLet.nd (pi_list (pv 3)) (blkOk_by (N := nLet) (sc := defScope sLetters) (by decide +kernel))
        (fun _ _ _ _ _ => pg_name (i := 6) scLet.nd rfl (Or.inl rfl)) (fun _ _ _ _ _ => pts_nil) (fun _ _ _ _ _ => pe_ix ix_str (pv 2) (pv 6) (fun _ _ => rfl))))))), ?_⟩
    case iLow =>
      rintro σ H Q ⟨l, ns, e3, el, q⟩
      refine ⟨_, e3, by show 0 ≤ sizeLine; decide, fun l0 h0 => ⟨l, l0, _, rfl, rfl, SqL.of (keep1 el h0), SqL.of upd_same, _, rfl, ?_⟩⟩
      rcases List.eq_nil_or_concat ns with rfl | ⟨ms, a, rfl⟩
      · exact iteT (q 0 _ (same_new h0) (fun _ => rfl) (fun ms a e => by simp at e))
      · have e1 : natsI (ms ++ [a]) = natsI ms ++ [V.int (a : Int)] := by unfold natsI; rw [List.map_append]; rfl
        have e2 : (natsI (ms.concat a)).isEmpty = false := by
          rw [List.concat_eq_append, e1]
          simp
        show if (natsI (ms.concat a)).isEmpty = true then _ else _
        rw [e2]
        refine iteF ⟨_, e3, 1, rfl, l, _, _, V.int (a : Int), rfl, rfl, SqL.of (keep1 el h0), ?_, _, _, rfl, rfl, ?_⟩
        · rw [List.concat_eq_append, e1]
          exact atI_last _ _
        · have := q (a + 1) _ (same_new (o := .lst []) h0) (fun e => by simp at e) (fun ms' a' e => by
            rw [List.concat_eq_append] at e
            have := List.append_inj_right' e rfl
            simp at this
            omega)
          rw [show (((a + 1 : Nat)) : Int) = (a : Int) + 1 by omega] at this
          exact this
    refine ⟨by show 0 ≤ sizeLine; decide, fun l hl => ⟨by show 2 ≤ sizeLine; decide, fun t ht => ?_⟩⟩
    refine ⟨t, _, rfl, SqT.of upd_same, rfl, _, _, rfl, _, _, rfl, rfl, ?_⟩
    have nl : l ≠ p := hW.new hl
    have s1 : Same H (upd (upd H l (.lst [])) t (.tup [.str abc, .ref l])) := (same_new hl).trans (same_new ht)
    have el : upd (upd H l (.lst [])) t (.tup [.str abc, .ref l]) l = some (.lst (natsI [])) := keep1 upd_same ht
    have hW1 := hW.same s1
    generalize upd (upd H l (.lst [])) t (.tup [.str abc, .ref l]) = H1 at s1 el hW1 ⊢
    refine ⟨_, rfl, (n : Int), rfl, by omega, by omega, for_range (n := n) (fun i σ H' => (∃ v4 v5, σ = [some (.ref p), some (.int (n : Int)), some (.str abc), some (.ref l), v4, v5, none]) ∧ Wl H' p ∧ (∀ b o, b ≠ p → b ≠ l → H1 b = some o → H' b = some o) ∧ ∃ ns : List Nat, ns.length = i ∧ Asc (26 - n + i) ns ∧ H' l = some (.lst (natsI ns)))
      ⟨⟨_, _, rfl⟩, hW1, fun _ _ _ _ e => e, [], rfl, ⟨List.Pairwise.nil, fun m hm => by cases hm⟩, el⟩ (fun i σ H2 hi h => ?_) (fun σ H2 h => ?_)⟩
    · obtain ⟨⟨v4, v5, rfl⟩, hW2, st, ns, ln, asc, e2⟩ := h
      refine ⟨l, ns, rfl, e2, fun lo H3 s3 c1 c2 => ?_⟩
      have hlo : lo ≤ 26 - n + i ∧ ∀ m ∈ ns, m < lo := by
        rcases List.eq_nil_or_concat ns with rfl | ⟨ms, a, rfl⟩
        · rw [c1 rfl]
          exact ⟨Nat.zero_le _, fun m hm => by cases hm⟩
        · rw [List.concat_eq_append] at asc c2 ⊢
          rw [c2 ms a rfl]
          have := asc.2 a (by simp)
          refine ⟨by omega, fun m hm => ?_⟩
          rcases List.mem_append.mp hm with h | h
          · have := (List.pairwise_append.mp asc.1).2.2 m h a (by simp)
            omega
          · rw [List.mem_singleton.mp h]; omega
      refine ⟨_, rfl, .inl ⟨rfl, _, SqL.of (s3 _ _ e2)⟩, _, rfl, _, rfl, _, rfl, _, _, rfl, rfl, _, rfl, _, _, rfl, rfl, _, rfl, _, _, rfl, rfl, p, _, rfl, hW2.same s3, by omega, by omega, fun d H4 d0 d1 sb4 hW4 => ?_⟩
      obtain ⟨m, rfl⟩ := Int.eq_ofNat_of_zero_le d0
      have hm : lo + m < 26 - n + i + 1 := by omega
      refine ⟨_, _, rfl, rfl, l, _, _, rfl, rfl, sb4 _ _ nl (s3 _ _ e2), by unfold natsI; rw [List.length_map, ln, sizeLine_eq]; omega, ?_⟩
      refine ⟨⟨_, _, rfl⟩, hW4.upd_ nl, fun b o n1 n2 e => ?_, ns ++ [lo + m], by rw [List.length_append, ln]; rfl, ?_, ?_⟩
      · rw [upd_ne n2]
        exact sb4 _ _ n1 (s3 _ _ (st b o n1 n2 e))
      · refine ⟨?_, fun z hz => ?_⟩
        · rw [List.pairwise_append]
          exact ⟨asc.1, by simp, fun a ha b hb => by rw [List.mem_singleton.mp hb]; have := hlo.2 a ha; omega⟩
        · rcases List.mem_append.mp hz with h | h
          · have := asc.2 z h; omega
          · rw [List.mem_singleton.mp h]; omega
      · rw [upd_same]
        unfold natsI
        rw [List.map_append]
        show some (HO.lst (_ ++ [V.int ((lo : Int) + (m : Int))])) = some (HO.lst (_ ++ [V.int ((lo + m : Nat) : Int)]))
        rw [show (((lo + m : Nat)) : Int) = (lo : Int) + (m : Int) by omega]
    · obtain ⟨⟨v4, v5, rfl⟩, hW2, st, ns, ln, asc, e2⟩ := h
      have asc' : Asc 26 ns := ⟨asc.1, fun m hm => by have := asc.2 m hm; omega⟩
      refine ⟨⟨_, rfl⟩, _, rfl, l, rfl, ⟨_, SqL.of e2⟩, fun D hD => ?_⟩
      have zs : abc.length ≤ sizeLine := by decide +kernel
      refine lcG ns (fun n => some (V.str (sg (97 + n)))) (walk_listL (K := K) (a := l) ns fun n : Nat => V.int (n : Int)) (by omega) hD (yat_same _) (fun H' s' => SqL.of (s' _ _ e2)) (fun i m y H' H'' k1 hm sj hy k2 => ?_) (fun H6 s6 e6 => ?_)
      · obtain ⟨rfl, hy⟩ := hy
        have ey := map_get hm hy
        subst ey
        exact ⟨rfl, _, rfl, _, rfl, abc, _, 97 + m, rfl, rfl, zs, atI_nat (abc_at m (asc'.2 m (List.mem_of_getElem? hm))), k2 _ (Same.refl _)⟩
      · have e6' : H6 D = some (.lst ((ns.map fun n => sg (97 + n)).map V.str)) := by
          rw [e6, List.filterMap_eq_map', List.map_map]
          rfl
        obtain ⟨g1, g2⟩ := letters_ok asc' (by omega) (by omega)
        refine ⟨_, D, _, rfl, rfl, .inl (SqL.of e6'), ?_, ?_⟩
        · have : ((ns.map fun n => sg (97 + n)).map (·.length)).sum = ns.length := by
            clear e6' e6 g1 g2 asc asc' e2 ln
            induction ns with
            | nil => rfl
            | cons a t ih => rw [List.map_cons, List.map_cons, List.sum_cons, ih, List.length_cons]; show 1 + _ = _; omega
          rw [this, List.length_map]
          have e0 : (Str.ofString "").length = 0 := rfl
          rw [e0]
          omega
        · refine k _ _ g1 (by rw [show Str.ofString "" = Str.empty from rfl]; rw [g2, ln]) (fun b o n1 e => ?_) (hW2.same s6)
          have e1 := s1 _ _ e
          exact s6 _ _ (st b o n1 (ne_of_none e hl) e1)
end
end My
namespace My
open PySem PySem.Spec PyProof.Rows L2 PySem.GX L2H LamX
/-- how many moods a way has -/
def WayOk (way size count : Nat) : Prop := (way = 1 → size = count) ∧ (way = 2 → size = count + 2) ∧ (way = 3 → size = 4) ∧ (way = 4 → count = 2 ∧ size = 5) ∧ 1 ≤ size ∧ size ≤ 5 ∧ 1 ≤ count ∧ count ≤ 3
def spAim : Sp := fun vs H Q _ => ∃ (p : Addr) (way size count spot step : Nat), vs = [.ref p, .int (way : Int), .int (size : Int), .int (count : Int), .int (spot : Int), .int (step : Int)] ∧ Wl H p ∧ WayOk way size count ∧ spot < size ∧ step < count ∧
  ∀ (i : Nat) (H' : Hp), i < size → Sb p H H' → Wl H' p → Q (.int (i : Int)) H'
def tBad : TE := fun σ H Q => ∃ (p : Addr) (spot : Nat), σ[0]? = some (some (.ref p)) ∧ σ[4]? = some (some (.int (spot : Int))) ∧ Wl H p ∧ ∀ (b : Bool) (H' : Hp), Sb p H H' → Wl H' p → Q (.bl b) H'
section
variable {P : Program} {w : World} {K : PySem.W.Frag} {mg : Str → Option Value} {base : Heap}
abbrev nAim : List Str := ["_law_purse_here", "_law_way", "_law_size", "_law_count", "_law_spot", "_law_step", "_law_bad"]
theorem scAim : FnScope nAim ["_law_purse_here", "_law_way", "_law_size", "_law_count", "_law_spot", "_law_step"] (defScope sAim) := ⟨rfl, rfl, rfl, by decide +kernel, rfl, by decide +kernel, by decide +kernel⟩
theorem dec_int {a b : Nat} (h : decide (V.int (a : Int) = V.int (b : Int)) = true) : a = b := by
  have := of_decide_eq_true h
  injection this with e
  omega
theorem ok_aim {f : Addr} {fd : FuncData} (F : Fun K "_law_aim" "_law_aim" sAim f fd) (hP : Hv P w K mg base 1 "_law_pick" ["_law_purse_here", "_law_size"] spPk) (hI : mg "int" = none) : FnOk P w K mg base CX0 2 f fd ["_law_purse_here", "_law_way", "_law_size", "_law_count", "_law_spot", "_law_step"] spAim := by
  refine F.ok scAim (fun vs H Q E h => ?_) (fun cdv A outer s H vs Q E hr h => ?_)
  · obtain ⟨p, way, size, count, spot, step, rfl, _⟩ := h
    rfl
  · obtain ⟨p, way, size, count, spot, step, rfl, hW, ⟨w1, w2, w3, w4, z1, z5, c1, c3⟩, hs, ht, k⟩ := h
    refine ⟨_, pss_cons (ps_if (pt_cmpR op_eq (pv 1) pe_int (nomark _)) (pss_one (ps_ret (pv 5))) pss_nil)
      (pss_cons (ps_if (pt_cmpR op_eq (pv 1) pe_int (nomark _))
        (pss_cons (ps_if (pt_cmpR op_eq (pv 4) (pe_op op_sub (pv 2) pe_int) (nomark _)) (pss_one (ps_ret (pv 4))) pss_nil)
        (pss_cons (ps_set (i := 6) scAim.nd rfl (Or.inl rfl) (PE_imp (t' := tBad) (pe_and (pe_cmpR op_gt (pv 4) pe_int (nomark _)) (pe_one (pe_cmpR op_eq (pe_cl hP hr rfl pass0 (pa_cons (pv 0) (pa_cons pe_int pa_nil))) pe_int (nomark _)))) ?iBad))
        (pss_one (ps_ret (pe_ifExp (pt_val (pv 6)) (pe_op op_sub (pv 2) pe_int) (pe_op op_add pe_int (pv 5))))))) pss_nil)
      (pss_cons (ps_if (pt_cmpR op_eq (pv 1) pe_int (nomark _)) (pss_one (ps_ret (pe_op op_mod (pe_callTy call_int1 (by rfl) hI (by decide +kernel) (pa_cons (pe_op op_add (pe_op op_mul (pv 4) (pv 3)) (pv 5)) pa_nil)) (pv 2)))) pss_nil)
      (pss_cons (ps_if (pt_cmpR op_eq (pv 1) pe_int (nomark _)) (pss_one (ps_ret (pe_ifExp (pt_cmpR op_eq (pv 4) pe_int (nomark _)) (pe_op op_add pe_int (pe_op op_mul pe_int (pv 5))) (pe_op op_add (pe_op op_add pe_int (pe_op op_mul (pe_op op_fdiv (pe_op op_sub (pv 4) pe_int) pe_int) pe_int)) (pv 5))))) pss_nil)
      (pss_one (ps_ret (pe_cl hP hr rfl pass0 (pa_cons (pv 0) (pa_cons (pv 2) pa_nil)))))))), ?_⟩
    case iBad =>
      rintro σ H Q ⟨p, spot, e0, e4, hW, q⟩
      refine ⟨_, e4, _, _, rfl, rfl, _, rfl, ite2 (fun c => ?_) (fun c => ?_)⟩
      · exact ⟨_, e0, p, 3, rfl, hW, by decide, by decide, fun d H' d0 d1 sb hW' => ⟨rfl, q _ _ sb hW'⟩⟩
      · exact q false H (Sb.refl _ _) hW
    have kk : ∀ (z : Int) (i : Nat) (H' : Hp), z = (i : Int) → i < size → Sb p H H' → Wl H' p → Q (.int z) H' := fun z i H' e hi sb hw => by rw [e]; exact k i H' hi sb hw
    refine ⟨_, rfl, rfl, _, rfl, ite2 (fun c => ?_) (fun c => ?_)⟩
    · have e := w1 (dec_int (b := 1) c)
      exact ⟨_, rfl, k step H (by omega) (Sb.refl _ _) hW⟩
    refine ⟨_, rfl, rfl, _, rfl, ite2 (fun c => ?_) (fun c => ?_)⟩
    · have e := w2 (dec_int (b := 2) c)
      refine ⟨_, rfl, _, rfl, _, _, rfl, rfl, rfl, _, rfl, ite2 (fun c => ?_) (fun c => ?_)⟩
      · exact ⟨_, rfl, k spot H hs (Sb.refl _ _) hW⟩
      · refine ⟨p, spot, rfl, rfl, hW, fun b H1 sb1 hW1 => ⟨_, rfl, _, rfl, ite2 (fun _ => ?_) (fun _ => ?_)⟩⟩
        · exact ⟨_, rfl, _, _, rfl, rfl, kk _ (size - 1) H1 (by omega) (by omega) sb1 hW1⟩
        · exact ⟨_, rfl, _, _, rfl, rfl, kk _ (1 + step) H1 (by omega) (by omega) sb1 hW1⟩
    refine ⟨_, rfl, rfl, _, rfl, ite2 (fun c => ?_) (fun c => ?_)⟩
    · have e := w3 (dec_int (b := 3) c)
      refine ⟨_, rfl, _, rfl, _, _, rfl, rfl, .inl ⟨by show -(2 ^ 64 : Int) < (spot : Int); omega, by show (spot : Int) < 2 ^ 64; omega⟩, _, rfl, _, _, rfl, rfl, .inl ⟨_, rfl, _, rfl, _, _, rfl, rfl, (by show (0 : Int) < (size : Int); omega), ?_⟩⟩
      refine kk _ ((spot * count + step) % size) H ?_ (Nat.mod_lt _ (by omega)) (Sb.refl _ _) hW
      rw [Int.natCast_emod, Int.natCast_add, Int.natCast_mul]
    refine ⟨_, rfl, rfl, _, rfl, ite2 (fun c => ?_) (fun c => ?_)⟩
    · obtain ⟨e1, e2⟩ := w4 (dec_int (b := 4) c)
      refine ⟨_, rfl, rfl, _, rfl, ite2 (fun c => ?_) (fun c => ?_)⟩
      · exact ⟨_, rfl, _, _, rfl, rfl, .inl ⟨by decide, by decide⟩, _, _, rfl, rfl, kk _ (1 + 3 * step) H (by omega) (by omega) (Sb.refl _ _) hW⟩
      · have hs0 : spot ≠ 0 := fun z => c (decide_eq_true (by rw [z]; rfl))
        refine ⟨_, rfl, _, _, rfl, rfl, _, _, rfl, rfl, ⟨by decide, by decide⟩, _, _, rfl, rfl, .inr ⟨by decide, by decide⟩, _, _, rfl, rfl, _, rfl, _, _, rfl, rfl, ?_⟩
        refine kk _ (1 + (spot - 1) / 2 * 2 + step) H ?_ (by omega) (Sb.refl _ _) hW
        omega
    exact ⟨_, rfl, _, rfl, p, _, rfl, hW, by omega, by omega, fun d H1 d0 d1 sb hW1 => by
      obtain ⟨m, rfl⟩ := Int.eq_ofNat_of_zero_le d0
      exact k m H1 (by omega) sb hW1⟩
end
end My
namespace My
open PySem PySem.Spec PyProof.Rows L2 PySem.GX L2H LamX
abbrev stock : List Str := ["p", "pq", "q", "good", "maa", "signs", "ppq", "mab", "moods", "qqqqqqqq"]
def tagsL (f st n : Nat) : List Str := (List.range n).map fun k => stock.getD ((f + st * k) % 10) Str.empty
theorem tags_len (f st n : Nat) : (tagsL f st n).length = n := by unfold tagsL; rw [List.length_map, List.length_range]
theorem tags_ok : ∀ f, f < 10 → ∀ st ∈ [1, 3, 7, 9], ∀ n, n < 6 → 1 ≤ n → areMoodsL (tagsL f st n) = true := by decide +kernel
theorem filt_map (z : Str) : ∀ fs : List Str, (fs.filterMap fun t => if t = z then none else some (V.str t)) = (fs.filter fun t => !decide (t = z)).map V.str
  | [] => rfl
  | t :: r => by
    rw [List.filterMap_cons]
    by_cases htz : t = z
    · rw [if_pos htz, List.filter_cons_of_neg (by simp [htz])]
      exact filt_map z r
    · rw [if_neg htz, List.filter_cons_of_pos (by simp [htz]), List.map_cons, ← filt_map z r]
/-- a box stands at q -/
def BxAt (H : Hp) (q : Addr) (x : Str) (ws fs : List Str) (kvs : List (List Key × V)) : Prop := ∃ lw lf g, H q = some (.tup [.str x, .ref lw, .ref lf, .ref g]) ∧ H lw = some (.lst (ws.map V.str)) ∧ H lf = some (.lst (fs.map V.str)) ∧ H g = some (.dT kvs)
def spBox : Sp := fun vs H Q _ => ∃ (p : Addr) (x : Str), vs = [.ref p, .str x] ∧ Wl H p ∧ areSignsL [x] = true ∧ ∀ (q : Addr) (ws fs : List Str) (kvs : List (List Key × V)) (H' : Hp), Fine x ws fs kvs → ws.length ≤ 5 → kvs.length ≤ 15 → Sb p H H' → Wl H' p → BxAt H' q x ws fs kvs → Q (.ref q) H'
section
variable {P : Program} {w : World} {K : PySem.W.Frag} {mg : Str → Option Value} {base : Heap}
abbrev nBox : List Str := ["_law_purse_here", "_law_letters_here", "_law_count", "_law_way", "_law_size", "_law_stock", "_law_first", "_law_step", "_law_tags", "_law_goals", "_law_spot", "_law_at", "_law_fine", "_law_k", "_law_tag"]
theorem scBox : FnScope nBox ["_law_purse_here", "_law_letters_here"] (defScope sBox) := ⟨rfl, rfl, rfl, by decide +kernel, rfl, by decide +kernel, by decide +kernel⟩
def tWay : TS := fun D σ H => ∃ (a0 a1 : Option V) (count way : Nat), σ = [a0, a1, some (.int (count : Int)), some (.int (way : Int)), none, none, none, none, none, none, none, none, none, none, none] ∧ way < 6 ∧
  ∀ w' : Nat, w' < 6 → (w' = 4 → count = 2) → D.nx [a0, a1, some (.int (count : Int)), some (.int (w' : Int)), none, none, none, none, none, none, none, none, none, none, none] H
def tSub : TS := fun D σ H => ∃ (lf lt : Addr) (ws fs : List Str) (way : Nat) (v0 v1 v2 v4 v5 v6 v7 v9 v10 v11 : Option V), σ = [v0, v1, v2, some (.int (way : Int)), v4, v5, v6, v7, some (.ref lt), v9, v10, v11, some (.ref lf), none, none] ∧ H lf = some (.lst (fs.map V.str)) ∧ H lt = some (.lst (ws.map V.str)) ∧ ws ≠ [] ∧ fs.length ≤ 1000 ∧
  ∀ (lf' : Addr) (fs' : List Str) (H' : Hp), fs'.Sublist fs → Same H H' → H' lf' = some (.lst (fs'.map V.str)) → D.nx [v0, v1, v2, some (.int (way : Int)), v4, v5, v6, v7, some (.ref lt), v9, v10, v11, some (.ref lf'), none, none] H'
theorem ok_box {f : Addr} {fd : FuncData} (F : Fun K "_law_box" "_law_box" sBox f fd) (hP : Hv P w K mg base 1 "_law_pick" ["_law_purse_here", "_law_size"] spPk) (hA : Hv P w K mg base 2 "_law_aim" ["_law_purse_here", "_law_way", "_law_size", "_law_count", "_law_spot", "_law_step"] spAim) (hI : mg "int" = none) (hL : mg "len" = none) (hR : mg "range" = none) : FnOk P w K mg base CX0 3 f fd ["_law_purse_here", "_law_letters_here"] spBox := by
  refine F.ok scBox (fun vs H Q E h => ?_) (fun cdv A outer s H vs Q E hr h => ?_)
  · obtain ⟨p, x, rfl, _⟩ := h
    rfl
  · obtain ⟨p, x, rfl, hW, hx, k⟩ := h
    have hu := hu_of hr
    have hr1 : Room 1 (A.deeper (envOfC "_law_box" (defScope sBox) s.heap.objs.size f cdv)) := hr.mono (by decide)
    refine ⟨_, pss_cons (ps_par (i := 2) (j := 3) rfl scBox.nd rfl rfl (by decide) rfl rfl (pa_cons (pe_callB call_len_str (by rfl) hL PySem.boot_len (pa_cons (pv 1) pa_nil)) (pa_cons (pe_cl hP hr1 rfl pass0 (pa_cons (pv 0) (pa_cons pe_int pa_nil))) pa_nil)) rfl)
      (pss_cons (PS_imp (t' := tWay) (ps_if (PW.pt (pw_and (pt_cmpR op_eq (pv 3) pe_int (nomark _)) (pw_and1 (pt_cmpR op_ne (pv 2) pe_int (nomark _))))) (pss_one (ps_set (i := 3) scBox.nd rfl (Or.inl rfl) pe_int)) pss_nil) ?iWay)
      (pss_cons (ps_set (i := 4) scBox.nd rfl (Or.inl rfl) (pe_op op_add pe_int (pe_cl hP hr1 rfl pass0 (pa_cons (pv 0) (pa_cons pe_int pa_nil)))))
      (pss_cons (ps_set (i := 4) scBox.nd rfl (Or.inl rfl) (pe_ix ix_list (pe_lst (pa_cons (pv 4) (pa_cons (pv 2) (pa_cons (pe_op op_add (pv 2) pe_int) (pa_cons pe_int (pa_cons pe_int (pa_cons pe_int pa_nil))))))) (pv 3) (fun _ _ => rfl)))
      (pss_cons (ps_set (i := 5) scBox.nd rfl (Or.inr rfl) (pe_lst (pa_cons pe_str (pa_cons pe_str (pa_cons pe_str (pa_cons pe_str (pa_cons pe_str (pa_cons pe_str (pa_cons pe_str (pa_cons pe_str (pa_cons pe_str (pa_cons pe_str pa_nil))))))))))))
      (pss_cons (ps_asg (pe_tup (pa_cons (pe_cl hP hr1 rfl pass0 (pa_cons (pv 0) (pa_cons pe_int pa_nil))) (pa_cons (pe_ix ix_list (pe_lst (pa_cons pe_int (pa_cons pe_int (pa_cons pe_int (pa_cons pe_int pa_nil))))) (pe_cl hP hr1 rfl pass0 (pa_cons (pv 0) (pa_cons pe_int pa_nil))) (fun _ _ => rfl)) pa_nil)))
          (pg_tup rfl (pgs_cons (pg_name (i := 6) scBox.nd rfl (Or.inr rfl)) (pgs_cons (pg_name (i := 7) scBox.nd rfl (Or.inr rfl)) pgs_nil))))
      (pss_cons (ps_asg (pe_tup (pa_cons (pe_lc (own := [("_law_k", 13)]) (g := gName 13) (tt := tYes) rfl scBox.nd (pi_range1 rfl hR (pa_cons (pv 4) pa_nil)) (blkOk_by (N := nBox) (sc := defScope sBox) (by decide +kernel)) (fun _ _ _ _ _ => pg_name (i := 13) scBox.nd rfl (Or.inl rfl)) (fun _ _ _ _ _ => pts_nil)
            (fun _ _ _ _ _ => pe_ix (ix_listK (K := K) rfl) (pv 5) (pe_op op_mod (pe_callTy call_int1 (by rfl) hI (by decide +kernel) (pa_cons (pe_op op_add (pv 6) (pe_op op_mul (pv 7) (pv 13))) pa_nil)) pe_int) (fun _ _ => rfl))) (pa_cons pe_dnewT pa_nil)))
          (pg_tup rfl (pgs_cons (pg_name (i := 8) scBox.nd rfl (Or.inr rfl)) (pgs_cons (pg_name (i := 9) scBox.nd rfl (Or.inl rfl)) pgs_nil))))
      (pss_cons (ps_for PassesOwn.never rfl (pi_range1 rfl hR (pa_cons (pv 4) pa_nil)) (pg_name (i := 10) scBox.nd rfl (Or.inl rfl)) (pss_one (ps_for PassesOwn.never rfl (pi_range1 rfl hR (pa_cons (pv 2) pa_nil)) (pg_name (i := 11) scBox.nd rfl (Or.inl rfl))
          (pss_one (ps_dput hu (pv 9) (pe_tup (pa_cons (pe_ix ix_list (pv 8) (pv 10) (fun _ _ => rfl)) (pa_cons (pe_ix ix_str (pv 1) (pv 11) (fun _ _ => rfl)) pa_nil))) (pe_ix ix_list (pv 8) (pe_cl hA hr rfl pass0 (pa_cons (pv 0) (pa_cons (pv 3) (pa_cons (pv 4) (pa_cons (pv 2) (pa_cons (pv 10) (pa_cons (pv 11) pa_nil))))))) (fun _ _ => rfl)) rfl)))))
      (pss_cons (ps_setLc (i := 12) (own := [("_law_tag", 14)]) (g := gName 14) (by rfl) scBox.nd rfl rfl (sw_true rfl rfl rfl (by decide +kernel)) (pi_list (pv 8)) (blkOk_by (N := nBox) (sc := defScope sBox) (by decide +kernel)) (fun _ _ _ _ _ => pg_name (i := 14) scBox.nd rfl (Or.inl rfl))
            (fun _ _ _ _ _ => pts_one (pt_cmpR op_eq (pe_cl hP hr1 rfl pass0 (pa_cons (pv 0) (pa_cons pe_int pa_nil))) pe_int (nomark _))) (fun _ _ _ _ _ => pv 14))
      (pss_cons (PS_imp (t' := tSub) (ps_if (pt_cmpR op_eq (pv 3) pe_int (nomark _)) (pss_one (ps_setLc (i := 12) (own := [("_law_tag", 14)]) (g := gName 14) (by rfl) scBox.nd rfl rfl (sw_true rfl rfl rfl (by decide +kernel)) (pi_list (pv 12)) (blkOk_by (N := nBox) (sc := defScope sBox) (by decide +kernel)) (fun _ _ _ _ _ => pg_name (i := 14) scBox.nd rfl (Or.inl rfl))
            (fun _ _ _ _ _ => pts_one (pt_cmpR op_ne (pv 14) (pe_ix (ix_listK (K := K) rfl) (pv 8) (pe_un un_neg pe_int) (fun _ _ => rfl)) (nomark _))) (fun _ _ _ _ _ => pv 14))) pss_nil) ?iSub)
      (pss_one (ps_ret (pe_tup (pa_cons (pv 1) (pa_cons (pv 8) (pa_cons (pv 12) (pa_cons (pv 9) pa_nil)))))))))))))))), ?_⟩
    case iWay =>
      rintro D σ H ⟨a0, a1, count, way, rfl, hw, q⟩
      refine ⟨_, rfl, rfl, _, rfl, ite2 (fun c => ?_) (fun c => iteF (q way hw fun e => absurd (by rw [e]; exact decide_eq_true rfl) c))⟩
      refine ⟨_, rfl, rfl, _, rfl, ite2 (fun c2 => q 0 (by decide) (fun e => absurd e (by decide))) (fun c2 => q way hw fun _ => ?_)⟩
      apply Classical.byContradiction
      intro z
      apply c2
      simp
      omega
    case iSub =>
      rintro D σ H ⟨lf, lt, ws, fs, way, v0, v1, v2, v4, v5, v6, v7, v9, v10, v11, rfl, e1, e2, hne, hl, q⟩
      refine ⟨_, rfl, rfl, _, rfl, ite2 (fun c => ?_) (fun c => q lf fs H (List.Sublist.refl _) (Same.refl _) e1)⟩
      obtain ⟨ms, z, rfl⟩ : ∃ ms z, ws = ms ++ [z] := ⟨ws.dropLast, ws.getLast hne, (List.dropLast_concat_getLast hne).symm⟩
      refine ⟨_, rfl, lf, rfl, ⟨_, SqL.of e1⟩, fun D1 hD1 => ?_⟩
      refine lcG fs (fun t => if t = z then none else some (V.str t)) (walk_listL (K := K) (a := lf) fs V.str) (by omega) hD1 (yat_same _) (fun H' s' => SqL.of (s' _ _ e1)) (fun i t y H' H'' k1 ht sj hy k2 => ?_) (fun H6 s6 e6 => ?_)
      · obtain ⟨rfl, hy⟩ := hy
        have ey := map_get ht hy
        subst ey
        refine ⟨rfl, _, rfl, _, rfl, 1, rfl, lt, _, _, V.str z, rfl, rfl, SqL.of (sj _ _ e2), ?_, rfl, _, rfl, ?_⟩
        · rw [List.map_append]
          exact atI_last _ _
        · have k2 := k2 _ (Same.refl _)
          by_cases htz : t = z
          · rw [if_pos htz] at k2
            exact if_false_of (by rw [htz]; simp) k2
          · rw [if_neg htz] at k2
            refine ite2 (fun _ => ⟨_, rfl, k2⟩) (fun c => absurd ?_ c)
            simp [htz]
      · refine q D1 (fs.filter fun t => !decide (t = z)) H6 List.filter_sublist s6 ?_
        rw [e6]
        exact congrArg (fun z => some (HO.lst z)) (filt_map z fs)
    have hx3 : 1 ≤ x.length ∧ x.length ≤ 3 := by
      rw [areS1] at hx
      simp only [Bool.and_eq_true, decide_eq_true_eq] at hx
      exact ⟨hx.1.1.1, hx.1.1.2⟩
    have zx : x.length ≤ sizeLine := by rw [sizeLine_eq]; omega
    refine ⟨_, rfl, x, rfl, zx, _, rfl, p, 6, rfl, hW, by decide, by decide, fun wy H1 d0 d1 sb1 hW1 => ⟨_, _, rfl, ?_⟩⟩
    obtain ⟨way, rfl⟩ := Int.eq_ofNat_of_zero_le d0
    refine ⟨_, _, x.length, way, rfl, by omega, fun w' hw' hc => ?_⟩
    clear d0 d1
    refine ⟨_, rfl, p, 4, rfl, hW1, by decide, by decide, fun d H2 d0 d1 sb2 hW2 => ⟨_, _, rfl, rfl, ?_⟩⟩
    obtain ⟨m, rfl⟩ := Int.eq_ofNat_of_zero_le d0
    have sbA := sb1.trans sb2
    clear sb1 sb2 hW1 d0
    obtain ⟨size, hsz, hWO⟩ : ∃ size : Nat, ([V.int (1 + (m : Int)), V.int (x.length : Int), V.int ((x.length : Int) + 2), V.int 4, V.int 5, V.int 2] : List V)[w']? = some (V.int (size : Int)) ∧ WayOk w' size x.length := by
      unfold WayOk
      match w', hw', hc with
      | 0, _, _ => exact ⟨1 + m, by rw [show (((1 + m : Nat)) : Int) = 1 + (m : Int) by omega]; rfl, by omega⟩
      | 1, _, _ => exact ⟨x.length, rfl, by omega⟩
      | 2, _, _ => exact ⟨x.length + 2, by rw [show (((x.length + 2 : Nat)) : Int) = (x.length : Int) + 2 by omega]; rfl, by omega⟩
      | 3, _, _ => exact ⟨4, rfl, by omega⟩
      | 4, _, hc => exact ⟨5, rfl, by have := hc rfl; omega⟩
      | 5, _, _ => exact ⟨2, rfl, by omega⟩
    refine ⟨_, rfl, _, rfl, _, rfl, _, _, rfl, rfl, by show 6 ≤ sizeLine; decide, fun l6 h6 => ⟨_, rfl, l6, _, _, V.int (size : Int), rfl, rfl, SqL.of upd_same, atI_nat hsz, ?_⟩⟩
    have sbA := sbA.trans (Sb.of (same_new (o := .lst [V.int (1 + (m : Int)), V.int (x.length : Int), V.int ((x.length : Int) + 2), V.int 4, V.int 5, V.int 2]) h6))
    have hW2 := hW2.same (same_new (o := .lst [V.int (1 + (m : Int)), V.int (x.length : Int), V.int ((x.length : Int) + 2), V.int 4, V.int 5, V.int 2]) h6)
    generalize upd H2 l6 (.lst [V.int (1 + (m : Int)), V.int (x.length : Int), V.int ((x.length : Int) + 2), V.int 4, V.int 5, V.int 2]) = H3 at sbA hW2 ⊢
    clear h6 hsz
    refine ⟨by show 10 ≤ sizeLine; decide, fun ls hls => ?_⟩
    have els : upd H3 ls (.lst (stock.map V.str)) ls = some (.lst (stock.map V.str)) := upd_same
    have nls : ls ≠ p := hW2.new hls
    have sbA := sbA.trans (Sb.of (same_new (o := .lst (stock.map V.str)) hls))
    have hW2 := hW2.same (same_new (o := .lst (stock.map V.str)) hls)
    refine (fun (G : ∀ H4 : Hp, Sb p H H4 → Wl H4 p → H4 ls = some (.lst (stock.map V.str)) → _) => G _ sbA hW2 els) (fun H4 sbB hW4 els => ?_)
    clear sbA hW2 hls
    refine ⟨_, rfl, p, 10, rfl, hW4, by decide, by decide, fun fi H5 f0 f1 sb5 hW5 => ⟨by show 4 ≤ sizeLine; decide, fun l4 h4 => ?_⟩⟩
    obtain ⟨fz, rfl⟩ := Int.eq_ofNat_of_zero_le f0
    have els := sb5 _ _ nls els
    have n4 : l4 ≠ p := hW5.new h4
    have els := keep1 (o := .lst [.int 1, .int 3, .int 7, .int 9]) els h4
    have e4 : upd H5 l4 (.lst [.int 1, .int 3, .int 7, .int 9]) l4 = some (.lst [.int 1, .int 3, .int 7, .int 9]) := upd_same
    have sbC := (sbB.trans sb5).trans (Sb.of (same_new (o := .lst [.int 1, .int 3, .int 7, .int 9]) h4))
    have hW6 := hW5.same (same_new (o := .lst [.int 1, .int 3, .int 7, .int 9]) h4)
    generalize upd H5 l4 (.lst [.int 1, .int 3, .int 7, .int 9]) = H6 at els e4 sbC hW6 ⊢
    clear sbB sb5 hW5 h4 hW4
    refine ⟨_, rfl, p, 4, rfl, hW6, by decide, by decide, fun j H7 j0 j1 sb7 hW7 => ?_⟩
    obtain ⟨jn, rfl⟩ := Int.eq_ofNat_of_zero_le j0
    obtain ⟨st, hst, mst⟩ : ∃ st : Nat, ([V.int 1, V.int 3, V.int 7, V.int 9] : List V)[jn]? = some (V.int (st : Int)) ∧ st ∈ [1, 3, 7, 9] := by
      have : jn < 4 := by omega
      match jn, this with
      | 0, _ => exact ⟨1, rfl, by simp⟩
      | 1, _ => exact ⟨3, rfl, by simp⟩
      | 2, _ => exact ⟨7, rfl, by simp⟩
      | 3, _ => exact ⟨9, rfl, by simp⟩
    have els := sb7 _ _ nls els
    refine ⟨l4, _, _, V.int (st : Int), rfl, rfl, SqL.of (sb7 _ _ n4 e4), atI_nat hst, by show 2 ≤ sizeLine; decide, fun t1 ht1 => ⟨t1, _, rfl, SqT.of upd_same, rfl, _, _, rfl, _, _, rfl, rfl, ?_⟩⟩
    have els := keep1 (o := .tup [.int (fz : Int), .int (st : Int)]) els ht1
    have sbD := (sbC.trans sb7).trans (Sb.of (same_new (o := .tup [.int (fz : Int), .int (st : Int)]) ht1))
    have hW8 := hW7.same (same_new (o := .tup [.int (fz : Int), .int (st : Int)]) ht1)
    generalize upd H7 t1 (.tup [.int (fz : Int), .int (st : Int)]) = H8 at els sbD hW8 ⊢
    clear sbC sb7 hW6 hW7 ht1 e4 hst
    have st9 : st ≤ 9 := by simp at mst; omega
    have hz := hWO
    obtain ⟨_, _, _, _, z1, z5, _, _⟩ := hz
    have hmo := tags_ok fz (by omega) st mst size (by omega) z1
    refine ⟨_, rfl, (size : Int), rfl, by omega, by omega, fun D hD => ?_⟩
    refine lcG (List.range size) (fun k => some (V.str (stock.getD ((fz + st * k) % 10) Str.empty))) (by rw [List.length_range]; exact walk_range) (by rw [List.length_range]; omega) hD (fun i H x H' h => by rw [h.1]; exact Same.refl _) (fun _ _ => trivial) (fun i kk y H' H'' k1 hk sj hy k2 => ?_) (fun H9 s9 e9 => ?_)
    · obtain ⟨rfl, rfl⟩ := hy
      have hi : i < size := by
        have := (List.getElem?_eq_some_iff.mp hk).1
        rw [List.length_range] at this
        exact this
      have ek : kk = i := by
        rw [List.getElem?_range hi] at hk
        exact (Option.some.inj hk).symm
      subst ek
      refine ⟨rfl, _, rfl, _, rfl, _, rfl, _, rfl, _, _, rfl, rfl, .inl ⟨by show -(2 ^ 64 : Int) < (st : Int); omega, by show (st : Int) < 2 ^ 64; omega⟩, _, _, rfl, rfl, .inl ⟨_, rfl, _, _, rfl, rfl, (by show (0 : Int) < 10; decide), ls, _, _, V.str (stock.getD ((fz + st * kk) % 10) Str.empty), rfl, rfl, SqL.of (sj _ _ els), ?_, k2 _ (Same.refl _)⟩⟩
      have e1 : ((fz : Int) + (st : Int) * (0 + (kk : Int))) % 10 = (((fz + st * kk) % 10 : Nat) : Int) := by
        rw [Int.natCast_emod, Int.natCast_add, Int.natCast_mul, Int.zero_add]
        rfl
      show atI _ (((fz : Int) + (st : Int) * (0 + (kk : Int))) % 10) = _
      rw [e1]
      have lt10 : (fz + st * kk) % 10 < 10 := Nat.mod_lt _ (by decide)
      generalize (fz + st * kk) % 10 = r at lt10 ⊢
      refine atI_nat ?_
      have : ∀ r, r < 10 → stock[r]? = some (stock.getD r Str.empty) := by decide +kernel
      rw [List.getElem?_map, this r lt10]
      rfl
    · have ew : H9 D = some (.lst ((tagsL fz st size).map V.str)) := by
        rw [e9, List.filterMap_eq_map']
        unfold tagsL
        rw [List.map_map]
        rfl
      have lw := tags_len fz st size
      generalize tagsL fz st size = ws at ew hmo lw
      refine fun g hg => ⟨by show 2 ≤ sizeLine; decide, fun t2 ht2 => ⟨t2, _, rfl, SqT.of upd_same, rfl, _, _, rfl, _, _, rfl, rfl, ?_⟩⟩
      have nD : D ≠ p := hW8.new hD
      have hW9 := hW8.same s9
      have ng : g ≠ p := hW9.new hg
      have nDg : D ≠ g := ne_of_none ew hg
      have fgH : H g = none := (sbD.trans (Sb.of s9)).free ng hg
      have sm := (same_new (o := .dT []) hg).trans (same_new (o := .tup [.ref D, .ref g]) ht2)
      have eg : upd (upd H9 g (.dT [])) t2 (.tup [.ref D, .ref g]) g = some (.dT []) := keep1 upd_same ht2
      have ew6 := sm _ _ ew
      have s6 := (sbD.trans (Sb.of s9)).trans (Sb.of (p := p) sm)
      have hW6 := hW9.same sm
      generalize upd (upd H9 g (.dT [])) t2 (.tup [.ref D, .ref g]) = H10 at eg ew6 s6 hW6 ⊢
      clear sm ew hW9 ht2 hg e9 s9 sbD hW8 els hD
      refine ⟨_, rfl, (size : Int), rfl, by omega, by omega, for_range (n := size) (fun i σ H' => ∃ v10 v11 kvs, σ = [some (.ref p), some (.str x), some (.int (x.length : Int)), some (.int (w' : Int)), some (.int (size : Int)), some (.ref ls), some (.int (fz : Int)), some (.int (st : Int)), some (.ref D), some (.ref g), v10, v11, none, none, none] ∧ Wl H' p ∧ H' g = some (.dT kvs) ∧ Cv kvs ws (doneL (ws.take i) x) ∧ (∀ b o, b ≠ p → b ≠ g → H10 b = some o → H' b = some o))
        ⟨none, none, [], rfl, hW6, eg, ⟨Nat.zero_le _, fun d hd => by simp [doneL] at hd⟩, fun b o _ _ e => e⟩ (fun i σ H' hi h => ?_) (fun σ H' h => ?_)⟩
      · obtain ⟨v10, v11, kvs, rfl, hW7, eg7, cv, stt⟩ := h
        have hm : ws[i]? = some ws[i] := List.getElem?_eq_getElem (by omega)
        refine ⟨_, rfl, (x.length : Int), rfl, by omega, by omega, for_range (n := x.length) (fun j σ H' => ∃ v11 kvs, σ = [some (.ref p), some (.str x), some (.int (x.length : Int)), some (.int (w' : Int)), some (.int (size : Int)), some (.ref ls), some (.int (fz : Int)), some (.int (st : Int)), some (.ref D), some (.ref g), some (.int (0 + (i : Int))), v11, none, none, none] ∧ Wl H' p ∧ H' g = some (.dT kvs) ∧ Cv kvs ws (doneL (ws.take i) x ++ (x.cps.toList.take j).map fun c => (ws[i], c)) ∧ (∀ b o, b ≠ p → b ≠ g → H10 b = some o → H' b = some o))
          ⟨v11, kvs, rfl, hW7, eg7, by rw [List.take_zero, List.map_nil, List.append_nil]; exact cv, stt⟩ (fun j σ H8 hj h => ?_) (fun σ H8 h => ?_)⟩
        · obtain ⟨v11, kvs, rfl, hW8, eg8, cv, stt⟩ := h
          have hjl : j < x.cps.toList.length := by rw [Array.length_toList]; exact hj
          have hcj : x.cps.toList[j]? = some x.cps.toList[j] := List.getElem?_eq_getElem hjl
          generalize hcc : x.cps.toList[j] = c at hcj
          have et : (x.cps.toList.take (j + 1)).map (fun c => (ws[i], c)) = (x.cps.toList.take j).map (fun c => (ws[i], c)) ++ [(ws[i], c)] := by
            rw [List.take_add_one, hcj, List.map_append]
            rfl
          have ewn := stt _ _ nD nDg ew6
          refine ⟨_, rfl, _, rfl, _, rfl, _, rfl, _, rfl, _, rfl, _, rfl, p, w', size, x.length, i, j, ?_, hW8, hWO, hi, hj, fun u H9 hu' sb9 hW9 => ?_⟩
          · show [V.ref p, V.int (w' : Int), V.int (size : Int), V.int (x.length : Int), V.int (0 + (i : Int)), V.int (0 + (j : Int))] = _
            rw [Int.zero_add, Int.zero_add]
          have hzu : ws[u]? = some ws[u] := List.getElem?_eq_getElem (by omega)
          have mz : ws[u] ∈ ws := List.getElem_mem (by omega)
          generalize ws[u] = z at hzu mz
          refine ⟨D, _, _, V.str z, rfl, rfl, SqL.of (sb9 _ _ nD ewn), atI_nat (by rw [List.getElem?_map, hzu]; rfl), ?_⟩
          have eg9 := sb9 _ _ ng eg8
          have ew9 := sb9 _ _ nD ewn
          have st9 : ∀ b o', b ≠ p → b ≠ g → H10 b = some o' → H9 b = some o' := fun b o' n1 n2 e => sb9 _ _ n1 (stt b o' n1 n2 e)
          refine ⟨_, rfl, _, rfl, _, rfl, D, _, _, V.str ws[i], rfl, rfl, SqL.of ew9, ?_, _, rfl, _, rfl, x, _, c, rfl, rfl, zx, ?_, (by show 2 ≤ sizeLine; decide), fun t ht => ⟨g, _, rfl, .inr ⟨kvs, kT ws[i] c, t, keep1 eg9 ht, rfl, upd_same, ?_, rfl⟩, ?_⟩⟩
          · rw [Int.zero_add]
            exact atI_nat (by rw [List.getElem?_map, hm]; rfl)
          · rw [Int.zero_add]
            exact atI_nat hcj
          · have a1 := cv.1
            rw [List.length_append, done_len, List.length_take, List.length_map, List.length_take] at a1
            have a2 : min i ws.length * x.length ≤ 9 * 3 := Nat.mul_le_mul (by omega) (by omega)
            rw [sizeLine_eq]
            have a3 : min j x.cps.toList.length ≤ j := Nat.min_le_left ..
            omega
          · have nt : g ≠ t := ne_of_none eg9 ht
            refine ⟨_, _, rfl, ((hW9.same (same_new ht)).upd_ ng), upd_same, ?_, fun b o' n1 n2 e => ?_⟩
            · rw [et, ← List.append_assoc]
              exact cv.put mz
            · rw [upd_ne n2, upd_ne (ne_of_none (st9 b o' n1 n2 e) ht)]
              exact st9 b o' n1 n2 e
        · obtain ⟨v11, kvs, rfl, hW8, eg8, cv, stt⟩ := h
          refine ⟨_, _, kvs, rfl, hW8, eg8, ?_, stt⟩
          have : x.cps.toList.take x.length = x.cps.toList := by
            show x.cps.toList.take x.cps.size = _
            rw [← Array.length_toList, List.take_length]
          rw [this] at cv
          rw [done_take hm]
          exact cv
      · obtain ⟨v10, v11, kvs, rfl, hW7, eg7, cv, stt⟩ := h
        have etk : ws.take size = ws := by rw [← lw, List.take_length]
        rw [etk] at cv
        have ew7 := stt _ _ nD nDg ew6
        have s7 : Sb p H H' := fun b o n e => by
          have nb : b ≠ g := fun z => by rw [z, fgH] at e; cases e
          exact stt b o n nb (s6 b o n e)
        refine ⟨_, rfl, D, rfl, ⟨_, SqL.of ew7⟩, fun D3 hD3 => ?_⟩
        have nD3 : D3 ≠ p := hW7.new hD3
        refine lc_it (walk_listL ws V.str) (fun i H'' => Wl H'' p ∧ (∀ b o, b ≠ p → b ≠ D3 → H' b = some o → H'' b = some o) ∧ ∃ fs : List Str, fs.Sublist (ws.take i) ∧ H'' D3 = some (.lst (fs.map V.str)))
          ⟨hW7.upd_ nD3, fun b o n1 n2 e => by rw [upd_ne n2]; exact e, [], by simp, upd_same⟩ (fun i H'' _ h => SqL.of (h.2.1 _ _ nD (ne_of_none ew7 hD3) ew7)) (fun i y H8 H9 hi h hy => ?_) (fun H9 h => ?_)
        · obtain ⟨rfl, hy⟩ := hy
          have hm : ws[i]? = some ws[i] := List.getElem?_eq_getElem hi
          obtain rfl := map_get hm hy
          obtain ⟨hW8, st8, fs, sub, eD⟩ := h
          have etk' : ws.take (i + 1) = ws.take i ++ [ws[i]] := by rw [List.take_add_one, hm]; rfl
          refine ⟨rfl, _, rfl, p, 2, rfl, hW8, (by decide), (by decide), fun d Hx d0 d1 sbx hW9 => ⟨rfl, _, rfl, ite2 (fun c => ?_) (fun c => ?_)⟩⟩
          · refine ⟨_, rfl, _, sbx _ _ nD3 eD, ?_, hW9.upd_ nD3, fun b o' n1 n2 e => ?_, fs ++ [ws[i]], by rw [etk']; exact sub.append (List.Sublist.refl _), ?_⟩
            · have := sub.length_le
              rw [List.length_take] at this
              rw [List.length_map, sizeLine_eq]
              omega
            · rw [upd_ne n2]
              exact sbx _ _ n1 (st8 b o' n1 n2 e)
            · rw [upd_same, List.map_append]
              rfl
          · refine ⟨hW9, fun b o' n1 n2 e => sbx _ _ n1 (st8 b o' n1 n2 e), fs, ?_, sbx _ _ nD3 eD⟩
            rw [etk']
            exact sub.trans (List.sublist_append_left _ _)
        · obtain ⟨hW8, st8, fs, sub, eD⟩ := h
          rw [List.take_length] at sub
          have eg8 := st8 _ _ ng (ne_of_none eg7 hD3) eg7
          have ew8 := st8 _ _ nD (ne_of_none ew7 hD3) ew7
          have hne : ws ≠ [] := fun z => by rw [z] at lw; simp at lw; omega
          have fl : fs.length ≤ 1000 := by have := sub.length_le; omega
          refine ⟨D3, D, ws, fs, w', _, _, _, _, _, _, _, _, _, _, rfl, eD, ew8, hne, fl, fun lf fs' H11 sub' s11 elf => ?_⟩
          refine ⟨_, rfl, _, rfl, _, rfl, _, rfl, (by show 4 ≤ sizeLine; decide), fun q hq => ?_⟩
          have gl : ∀ t ∈ ws, ∀ c ∈ x.cps.toList, ∃ y ∈ ws, valV kvs (kT t c) = some (.str y) := fun t ht c hc => cv.2 (t, c) (List.mem_flatMap.mpr ⟨t, ht, List.mem_map.mpr ⟨c, hc, rfl⟩⟩)
          have lk : kvs.length ≤ 15 := by
            have := cv.1
            rw [done_len] at this
            have : ws.length * x.length ≤ 5 * 3 := Nat.mul_le_mul (by omega) (by omega)
            omega
          refine k q ws fs' kvs _ ⟨hx, hmo, sub'.trans sub, gl⟩ (by omega) lk (fun b o n e => ?_) ((hW8.same s11).same (same_new hq)) ⟨D, lf, g, upd_same, keep1 (s11 _ _ ew8) hq, keep1 elf hq, keep1 (s11 _ _ eg8) hq⟩
          have e7 := s7 b o n e
          exact keep1 (s11 _ _ (st8 b o n (ne_of_none e7 hD3) e7)) hq
end
end My
namespace My
open PySem PySem.Spec PyProof.Rows L2
/-- the fields of a rule -/
abbrev rFs (t : Str) (p : Parts) (M G D : Addr) : List (Str × V) := [("written", .str t), ("letters", .str p.sg), ("words", .ref M), ("chosen", .ref G), ("goals", .ref D)]
/-- a rule stands at a -/
def RuleAt (H : Hp) (C a : Addr) (t : Str) (p : Parts) : Prop := ∃ dx M G D, H a = some (.ins C dx (rFs t p M G D)) ∧ H M = some (.tup (p.ms.map V.str)) ∧ H G = some (.tup (p.gs.map V.str)) ∧ H D = some (.dT (goalsD p.rs))
theorem RuleAt.same {H H' : Hp} {C a : Addr} {t : Str} {p : Parts} (h : RuleAt H C a t p) (s : Same H H') : RuleAt H' C a t p := by
  obtain ⟨dx, M, G, D, e1, e2, e3, e4⟩ := h
  exact ⟨dx, M, G, D, s _ _ e1, s _ _ e2, s _ _ e3, s _ _ e4⟩
def spInit (C : Addr) : Sp := fun vs H Q _ => ∃ (a dx : Addr) (t : Str) (p : Parts), vs = [.ref a, .str t] ∧ H a = some (.ins C dx []) ∧ t.length ≤ 1000000 ∧ PyData.strOk t = true ∧ parseL t = some p ∧
  ∀ H', (∀ b o, b ≠ a → H b = some o → H' b = some o) → RuleAt H' C a t p → Q .non H'
/-- what is fixed of the class -/
structure RuC (K : PySem.W.Frag) (C : Addr) : Prop where
  cl : Cls K C
  f1 : NoAttr K C "written"
  f2 : NoAttr K C "letters"
  f3 : NoAttr K C "words"
  f4 : NoAttr K C "chosen"
  f5 : NoAttr K C "goals"
section
variable {P : Program} {w : World} {K : PySem.W.Frag} {mg : Str → Option Value} {base : Heap}
abbrev sInit : Stmt := inClass sRule 0
abbrev nInit : List Str := ["self", "text", "parts"]
theorem scInit : FnScope nInit ["self", "text"] (defScope sInit) := ⟨rfl, rfl, rfl, by decide +kernel, rfl, by decide +kernel, by decide +kernel⟩
theorem ok_init {f C : Addr} {fd : FuncData} (F : Fun K "__init__" "Rule.__init__" sInit f fd) (T : RuC K C) (hR : Hv P w K mg base 4 "read_rule" ["text"] spRead) (hIs : mg "isinstance" = none) (hSt : mg "str" = none) : FnOk P w K mg base CX0 5 f fd ["self", "text"] (spInit C) := by
  refine F.ok scInit (fun vs H Q E h => ?_) (fun cdv A outer s H vs Q E hr h => ?_)
  · obtain ⟨a, dx, t, p, rfl, _⟩ := h
    rfl
  · obtain ⟨a, dx, t, p, rfl, ha, zt, ot, pt, k⟩ := h
    refine ⟨_, pss_cons (ps_set (i := 2) scInit.nd rfl (Or.inl rfl) (pe_ifExp (pt_val (pe_callB call_isi (by rfl) hIs (by decide +kernel) (pa_cons (pv 1) (pa_cons (pe_bltn (v := .ty "str") (by rfl) hSt (by decide +kernel) rfl) pa_nil)))) (pe_cl hR hr rfl pass0 (pa_cons (pv 1) pa_nil)) pe_non))
      (pss_cons (ps_if (pt_cmpR op_isN (pv 2) pe_non (nomark _)) (pss_one ps_never) pss_nil)
      (pss_cons (ps_fld (pv 0) (pv 1) rfl)
      (pss_one (ps_asg (pv 2) (pg_tup (by rfl) (pgs_cons (pg_fld (pv 0)) (pgs_cons (pg_fld (pv 0)) (pgs_cons (pg_fld (pv 0)) (pgs_cons (pg_fld (pv 0)) pgs_nil))))))))), ?_⟩
    refine ⟨_, rfl, .str t, .ty "str", _, .type "str", true, rfl, .ty _, .base (.str t), kit_ty (by decide +kernel), _, rfl, iteT ?_⟩
    refine ⟨_, rfl, t, rfl, zt, ot, (fun z => by rw [pt] at z; cases z), fun p' hp' T' H1 s1 hT => ?_⟩
    rw [pt] at hp'
    cases hp'
    obtain ⟨M, G, D, e1, e2, e3, e4⟩ := hT
    have ea := s1 _ _ ha
    refine ⟨_, rfl, rfl, _, rfl, iteF ?_⟩
    refine ⟨_, rfl, _, rfl, a, C, dx, _, rfl, ea, T.cl, T.f1, by decide, ?_⟩
    have ne : ∀ {b : Addr} {xs : List V}, H1 b = some (.tup xs) → b ≠ a := fun e => ne_of e ea (by intro z; cases z)
    have nD : D ≠ a := ne_of e4 ea (by intro z; cases z)
    refine ⟨_, rfl, T', _, rfl, SqT.of (by rw [upd_ne (ne e1)]; exact e1), rfl, _, _, rfl, _, rfl, a, C, dx, _, rfl, upd_same, T.cl, T.f2, (by show 1 < 1000; decide), ?_⟩
    rw [upd_upd]
    refine ⟨_, _, rfl, _, rfl, a, C, dx, _, rfl, upd_same, T.cl, T.f3, (by show 2 < 1000; decide), ?_⟩
    rw [upd_upd]
    refine ⟨_, _, rfl, _, rfl, a, C, dx, _, rfl, upd_same, T.cl, T.f4, (by show 3 < 1000; decide), ?_⟩
    rw [upd_upd]
    refine ⟨_, _, rfl, _, rfl, a, C, dx, _, rfl, upd_same, T.cl, T.f5, (by show 4 < 1000; decide), ?_⟩
    rw [upd_upd]
    refine ⟨rfl, k _ (fun b o n e => by rw [upd_ne n]; exact s1 _ _ e) ⟨dx, M, G, D, upd_same, ?_, ?_, ?_⟩⟩
    · rw [upd_ne (ne e2)]; exact e2
    · rw [upd_ne (ne e3)]; exact e3
    · rw [upd_ne nD]; exact e4
end
end My
namespace My
open PySem PySem.Spec PyProof.Rows L2 PySem.GX
def spRow : Sp := fun vs H Q _ => ∃ (r x : Str), vs = [.str r, .str x] ∧ r.length ≤ 16000000 ∧ ∀ H', Same H H' → Q (.bl (isRowL x r)) H'
def spRowX (K : PySem.W.Frag) : Sp := fun vs H Q _ => ∃ (v : V) (x : Str), vs = [v, .str x] ∧ NoRow K H x v ∧ ∀ H', Same H H' → Q (.bl false) H'
section
variable {P : Program} {w : World} {K : PySem.W.Frag} {mg : Str → Option Value} {base : Heap}
theorem pe_neverE {X : Cx} {e : Expr} : PE X e (fun _ _ _ => False) := ⟨fun _ _ _ _ _ _ h => h.elim⟩
theorem FnOk.or_ {CX : CXT} {k : Nat} {f : Addr} {fd : FuncData} {ps : List Str} {s1 s2 : Sp} (a : FnOk P w K mg base CX k f fd ps s1) (b : FnOk P w K mg base CX k f fd ps s2) : FnOk P w K mg base CX k f fd ps (fun vs H Q E => s1 vs H Q E ∨ s2 vs H Q E) :=
  ⟨fun vs H Q E h => h.elim (a.len vs H Q E) (b.len vs H Q E), fun A outer s H args us vs Q E hr e0 hb r h => h.elim (a.run A outer s H args us vs Q E hr e0 hb r) (b.run A outer s H args us vs Q E hr e0 hb r)⟩
theorem FnOk.imp_ {CX : CXT} {k : Nat} {f : Addr} {fd : FuncData} {ps : List Str} {s1 s2 : Sp} (a : FnOk P w K mg base CX k f fd ps s1) (m : ∀ vs H Q E, s2 vs H Q E → s1 vs H Q E) : FnOk P w K mg base CX k f fd ps s2 :=
  ⟨fun vs H Q E h => a.len vs H Q E (m _ _ _ _ h), fun A outer s H args us vs Q E hr e0 hb r h => a.run A outer s H args us vs Q E hr e0 hb r (m _ _ _ _ h)⟩
theorem scRow : FnScope ["value", "letters"] ["value", "letters"] (defScope sRowOf) := ⟨rfl, rfl, rfl, by decide +kernel, rfl, by decide +kernel, by decide +kernel⟩
theorem made_all (x r : Str) : madeL r x = r.cps.toList.all fun c => decide (c ∈ x.cps.toList) := by
  unfold madeL
  rw [List.all_map]
  rfl
theorem ok_row {f : Addr} {fd : FuncData} {tA : Tok} (F : Fun K "is_row_of" "is_row_of" sRowOf f fd) (hO : Hv P w K mg base 1 "made_of" ["text", "letters"] spMade) (hIs : mg "isinstance" = none) (hSt : mg "str" = none) (hL : mg "len" = none) (gM : mg "MOST_ROW" = some (.int 1000 tA)) : FnOk P w K mg base CX0 2 f fd ["value", "letters"] spRow := by
  refine F.ok scRow (fun vs H Q E h => ?_) (fun cdv A outer s H vs Q E hr h => ?_)
  · obtain ⟨r, x, rfl, _⟩ := h
    rfl
  · obtain ⟨r, x, rfl, zr, k⟩ := h
    refine ⟨_, pss_one (ps_ret (pe_and (pe_callB call_isi (by rfl) hIs (by decide +kernel) (pa_cons (pv 0) (pa_cons (pe_bltn (v := .ty "str") (by rfl) hSt (by decide +kernel) rfl) pa_nil)))
        (pe_and (pe_cmpR op_le (pe_callB call_len_str (by rfl) hL PySem.boot_len (pa_cons (pv 0) pa_nil)) (pe_glob (v := .int 1000) rfl gM ⟨_, rfl⟩) (nomark _)) (pe_one (pe_cl hO hr rfl pass0 (pa_cons (pv 0) (pa_cons (pv 1) pa_nil))))))), ?_⟩
    refine ⟨_, rfl, .str r, .ty "str", _, .type "str", true, rfl, .ty _, .base (.str r), kit_ty (by decide +kernel), _, rfl, iteT ?_⟩
    refine ⟨_, rfl, r, rfl, (by rw [sizeLine_eq]; omega), _, _, rfl, rfl, _, rfl, ite2 (fun c => ?_) (fun c => ?_)⟩
    · have h1 : (r.length : Int) ≤ 1000 := of_decide_eq_true c
      refine ⟨_, rfl, _, rfl, r, x, rfl, zr, fun H' s' => ?_⟩
      have e : madeL r x = isRowL x r := by
        unfold isRowL
        rw [decide_eq_true (by omega : r.length ≤ 1000), Bool.true_and, made_all]
      rw [e]
      exact k _ s'
    · have h1 : ¬ (r.length : Int) ≤ 1000 := by simpa using c
      have e : isRowL x r = false := by
        unfold isRowL
        rw [decide_eq_false (by omega : ¬ r.length ≤ 1000)]
        rfl
      rw [e] at k
      exact k _ (Same.refl _)
def spRowT (K : PySem.W.Frag) : Sp := fun vs H Q _ => ∃ (v : V) (x : Str) (ty : Value), vs = [v, .str x] ∧ TyX K H v ty ∧ PySem.W.kitOne K ty (.type "str") = some false ∧ Q (.bl false) H
theorem ok_rowT {f : Addr} {fd : FuncData} (F : Fun K "is_row_of" "is_row_of" sRowOf f fd) (hIs : mg "isinstance" = none) (hSt : mg "str" = none) : FnOk P w K mg base CX0 2 f fd ["value", "letters"] (spRowT K) := by
  refine F.ok scRow (fun vs H Q E h => ?_) (fun cdv A outer s H vs Q E hr h => ?_)
  · obtain ⟨v, x, ty, rfl, _⟩ := h
    rfl
  · obtain ⟨v, x, ty, rfl, hty, hk, k⟩ := h
    refine ⟨_, pss_one (ps_ret (pe_and (pe_callB call_isi (by rfl) hIs (by decide +kernel) (pa_cons (pv 0) (pa_cons (pe_bltn (v := .ty "str") (by rfl) hSt (by decide +kernel) rfl) pa_nil))) pe_neverE)), ?_⟩
    exact ⟨_, rfl, v, .ty "str", ty, .type "str", false, rfl, .ty _, hty, hk, _, rfl, iteF k⟩
theorem ok_rowX {f : Addr} {fd : FuncData} {tA : Tok} (F : Fun K "is_row_of" "is_row_of" sRowOf f fd) (hO : Hv P w K mg base 1 "made_of" ["text", "letters"] spMade) (hIs : mg "isinstance" = none) (hSt : mg "str" = none) (hL : mg "len" = none) (gM : mg "MOST_ROW" = some (.int 1000 tA)) : FnOk P w K mg base CX0 2 f fd ["value", "letters"] (spRowX K) := by
  refine FnOk.imp_ (FnOk.or_ (ok_row F hO hIs hSt hL gM) (ok_rowT F hIs hSt)) fun vs H Q E ⟨v, x, e, nr, k⟩ => ?_
  rcases nr with ⟨r, rfl, zr, ir⟩ | ⟨ty, hty, hk⟩
  · exact .inl ⟨r, x, e, zr, by rw [ir]; exact k⟩
  · exact .inr ⟨v, x, ty, e, hty, hk, k _ (Same.refl _)⟩
end
end My
namespace My
open PySem PySem.Spec PyProof.Rows L2
abbrev sMood : Stmt := inClass sRule 8
abbrev sHas : Stmt := inClass sRule 9
/-- the method x of C is there, and keeps the promise -/
structure HvM (P : Program) (w : World) (K : PySem.W.Frag) (mg : Str → Option Value) (base : Heap) (k : Nat) (C : Addr) (x : Str) (ps : List Str) (sp : Sp) : Prop where
  ex : ∃ (f : Addr) (fd : FuncData), FnOk P w K mg base CX0 k f fd ps sp ∧ Binds K fd ps [] ∧ Meth K C x f
theorem pe_mt {X : Cx} {k : Nat} {C : Addr} {x : Str} {ps : List Str} {sp : Sp} {apos pos : Pos} {o e : Expr} {es : List Expr} {ta : TE} {t : TA} {E : XK} {pl : Sem Bool} (h : HvM X.prog X.w X.K X.mg X.base k C x ps sp) (ho : PE X o ta) (c : Cls X.K C) (hr : Room k X.A) (hx : Passes CX0 X E) (ha : PA X (e :: es) t)
    (hst : starEach (e :: es) X.env = (false, eval e X.env) :: starEach es X.env := by rfl) (hpl : (backTo pos (starEach es X.env)).any (·.1) = false := by rfl)
    (ht : eval (.Call (.Attribute o x apos) (e :: es) [] pos) X.env = (do
      let ov ← eval o X.env
      standAt apos.atName
      let (f, first) ← holding [ov] (getMethod ov x pl)
      callWith pos f first (backTo pos (starEach (e :: es) X.env)) (backToKw pos (keywordEach [] X.env))) := by rfl) :
    PE X (.Call (.Attribute o x apos) (e :: es) [] pos) (tMeth C x sp [] E ta t) := by
  obtain ⟨f, fd, F, b, m⟩ := h.ex
  exact pe_meth ho c m F hr b .nil hx ha hst hpl ht
theorem pe_fldK {X : Cx} {K : PySem.W.Frag} {e : Expr} {f : Str} {ta : TE} {pos : Pos} (h : X.K = K) (he : PE X e ta) (hb : attributeBase e f X.env (eval e X.env) = eval e X.env) : PE X (.Attribute e f pos) (tFld K ta f) := by subst h; exact pe_fld he hb
/-- what a text that is one writes -/
structure PartsOk (p : Parts) : Prop where
  sgs : areSignsL [p.sg] = true
  mds : areMoodsL p.ms = true
  gds : areGoodL p.gs p.ms = true
  gls : goalsOkL p.sg p.ms p.rs = true
theorem parts_ok {t : Str} {p : Parts} (h : parseL t = some p) : PartsOk p := by
  unfold parseL partsL at h
  split at h
  · rename_i t0 s0 t1 m0 t2 g0 rs heq
    split at h
    · rename_i hc
      cases h
      obtain ⟨x, e, _⟩ := signs_one hc.2.1
      subst e
      exact ⟨hc.2.1, hc.2.2.1, hc.2.2.2.1, hc.2.2.2.2⟩
    · cases h
  · cases h
theorem dOf_some {α κ : Type} [DecidableEq κ] {key : α → κ} {val : α → V} {k : κ} : ∀ (xs : List α), (∃ a ∈ xs, key a = k) → ∃ a ∈ xs, key a = k ∧ valV (dOf key val xs) k = some (val a) := by
  suffices h : ∀ (n : Nat) (xs : List α), xs.length = n → (∃ a ∈ xs, key a = k) → ∃ a ∈ xs, key a = k ∧ valV (dOf key val xs) k = some (val a) from fun xs => h _ xs rfl
  intro n
  induction n with
  | zero =>
    intro xs h ⟨a, ha, _⟩
    have : xs = [] := List.eq_nil_of_length_eq_zero h
    subst this
    cases ha
  | succ n ih =>
    intro xs h h2
    have hne : xs ≠ [] := by intro z; subst z; cases h
    obtain ⟨ys, a, rfl⟩ : ∃ ys a, xs = ys ++ [a] := ⟨xs.dropLast, xs.getLast hne, (List.dropLast_concat_getLast hne).symm⟩
    have hl : ys.length = n := by rw [List.length_append] at h; simpa using h
    rw [dOf_snoc, valV_put]
    by_cases e : k = key a
    · exact ⟨a, by simp, e.symm, by rw [if_pos e]⟩
    · rw [if_neg e]
      obtain ⟨b, hb, eb⟩ := h2
      rcases List.mem_append.mp hb with m | m
      · obtain ⟨d, hd, ed, hv⟩ := ih ys hl ⟨b, m, eb⟩
        exact ⟨d, by simp [hd], ed, hv⟩
      · have : b = a := by simpa using m
        exact absurd (this ▸ eb.symm) e
/-- where the sign c leads from the mood t -/
def ledL (p : Parts) (t : Str) (c : Nat) : Str := gf (goalsD p.rs) t c
theorem PartsOk.goal {p : Parts} (h : PartsOk p) {t : Str} (ht : t ∈ p.ms) {c : Nat} (hc : c ∈ p.sg.cps.toList) : ledL p t c ∈ p.ms ∧ valV (goalsD p.rs) (kT t c) = some (.str (ledL p t c)) := by
  have hg := h.gls
  unfold goalsOkL at hg
  rw [Bool.and_eq_true_iff] at hg
  have ep : p.rs.map (List.take 2) = pairsL p.sg p.ms := of_decide_eq_true hg.1
  have hm : [t, sg c] ∈ p.rs.map (List.take 2) := by
    rw [ep]
    unfold pairsL
    exact List.mem_flatMap.mpr ⟨t, ht, List.mem_map.mpr ⟨c, hc, rfl⟩⟩
  obtain ⟨r, hr, er⟩ := List.mem_map.mp hm
  have key : ∀ q : List Str, q.take 2 = [t, sg c] → [(Sum.inr (q.getD 0 Str.empty) : Key), Sum.inr (q.getD 1 Str.empty)] = kT t c := fun q hq => by
    match q, hq with
    | [], hq => cases hq
    | [_], hq => simp at hq
    | a :: b :: _, hq =>
      have : [a, b] = [t, sg c] := hq
      injection this with e1 this
      injection this with e2 _
      subst e1 e2
      rfl
  obtain ⟨q, hq, eq, hv⟩ := dOf_some (key := fun r : List Str => [(Sum.inr (r.getD 0 Str.empty) : Key), Sum.inr (r.getD 1 Str.empty)]) (val := fun r => V.str (r.getD 2 Str.empty)) (k := kT t c) p.rs ⟨r, hr, key r er⟩
  have ok := List.all_eq_true.mp hg.2 q hq
  unfold rowOkL at ok
  rw [Bool.and_eq_true_iff] at ok
  have e : ledL p t c = q.getD 2 Str.empty := gf_is hv
  rw [e]
  exact ⟨of_decide_eq_true ok.2, hv⟩
/-- a row leads from t -/
def walkL (p : Parts) (t : Str) (cs : List Nat) : Str := cs.foldl (ledL p) t
def firstL (p : Parts) : Str := p.ms.headD Str.empty
def moodL (p : Parts) (r : Str) : Str := walkL p (firstL p) r.cps.toList
theorem walk_mem {p : Parts} (h : PartsOk p) : ∀ (cs : List Nat) (t : Str), t ∈ p.ms → (∀ c ∈ cs, c ∈ p.sg.cps.toList) → walkL p t cs ∈ p.ms
  | [], _, ht, _ => ht
  | c :: cs, t, ht, hc => walk_mem h cs _ (h.goal ht (hc c (by simp))).1 fun d hd => hc d (by simp [hd])
theorem PartsOk.first {p : Parts} (h : PartsOk p) : ∃ ms, p.ms = firstL p :: ms := by
  have := h.mds
  unfold areMoodsL at this
  simp only [Bool.and_eq_true] at this
  have l1 : 1 ≤ p.ms.length := of_decide_eq_true this.1.1.1
  unfold firstL
  match hm : p.ms, l1 with
  | a :: t, _ => exact ⟨t, rfl⟩
def spMood (C : Addr) : Sp := fun vs H Q _ => ∃ (a : Addr) (r t : Str) (p : Parts), vs = [.ref a, .str r] ∧ RuleAt H C a t p ∧ PartsOk p ∧ isRowL p.sg r = true ∧ ∀ H', Same H H' → Q (.str (moodL p r)) H'
def spHas (C : Addr) : Sp := fun vs H Q _ => ∃ (a : Addr) (r t : Str) (p : Parts), vs = [.ref a, .str r] ∧ RuleAt H C a t p ∧ PartsOk p ∧ isRowL p.sg r = true ∧ ∀ H', Same H H' → Q (.bl (decide (moodL p r ∈ p.gs))) H'
section
variable {P : Program} {w : World} {K : PySem.W.Frag} {mg : Str → Option Value} {base : Heap}
theorem scMood : FnScope ["self", "row", "reached", "sign"] ["self", "row"] (defScope sMood) := ⟨rfl, rfl, rfl, by decide +kernel, rfl, by decide +kernel, by decide +kernel⟩
theorem ok_mood {f C : Addr} {fd : FuncData} (F : Fun K "mood" "Rule.mood" sMood f fd) (T : RuC K C) (hR : Hv P w K mg base 2 "is_row_of" ["value", "letters"] spRow) : FnOk P w K mg base CX0 3 f fd ["self", "row"] (spMood C) := by
  refine F.ok scMood (fun vs H Q E h => ?_) (fun cdv A outer s H vs Q E hr h => ?_)
  · obtain ⟨a, r, t, p, rfl, _⟩ := h
    rfl
  · obtain ⟨a, r, t, p, rfl, hA, ok, ir, k⟩ := h
    refine ⟨_, pss_cons (ps_if (pt_not (pt_val (pe_cl hR hr rfl pass0 (pa_cons (pv 1) (pa_cons (pe_fld (pv 0) rfl) pa_nil))))) (pss_one ps_never) pss_nil)
      (pss_cons (ps_set (i := 2) scMood.nd rfl (Or.inl rfl) (pe_ix ix_tup (pe_fld (pv 0) rfl) pe_int (fun _ _ => rfl)))
      (pss_cons (ps_for PassesOwn.never rfl (pi_str (pv 1)) (pg_name (i := 3) scMood.nd rfl (Or.inl rfl)) (pss_one (ps_set (i := 2) scMood.nd rfl (Or.inl rfl) (pe_dget (hu_of hr) (pe_fld (pv 0) rfl) (pe_tup (pa_cons (pv 2) (pa_cons (pv 3) pa_nil))) (fun _ _ => rfl)))))
      (pss_one (ps_ret (pv 2))))), ?_⟩
    obtain ⟨dx, M, G, D, e1, e2, e3, e4⟩ := id hA
    have hl : r.length ≤ 1000 := by
      unfold isRowL at ir
      exact of_decide_eq_true (Bool.and_eq_true_iff.mp ir).1
    have hin : ∀ c ∈ r.cps.toList, c ∈ p.sg.cps.toList := fun c hc => by
      unfold isRowL at ir
      exact of_decide_eq_true (List.all_eq_true.mp (Bool.and_eq_true_iff.mp ir).2 c hc)
    refine ⟨_, rfl, _, rfl, a, C, dx, _, .str p.sg, rfl, e1, T.cl, T.f2, rfl, r, p.sg, rfl, by omega, fun H1 s1 => ⟨_, rfl, ?_⟩⟩
    rw [ir]
    refine iteF ?_
    obtain ⟨ms, em⟩ := ok.first
    have ef : (p.ms.map V.str)[0]? = some (.str (firstL p)) := by rw [em]; rfl
    refine ⟨_, rfl, a, C, dx, _, .ref M, rfl, s1 _ _ e1, T.cl, T.f3, rfl, M, _, _, _, rfl, rfl, SqT.of (s1 _ _ e2), atI_nat (j := 0) ef, ?_⟩
    refine ⟨_, rfl, r, rfl, ?_⟩
    refine for_it walk_str (fun i σ H' => ∃ v3, σ = [some (.ref a), some (.str r), some (.str (walkL p (firstL p) (r.cps.toList.take i))), v3] ∧ Same H1 H') ⟨none, rfl, Same.refl _⟩ (fun _ _ _ _ _ => trivial) (fun i y σ H2 H3 hi h hy => ?_) (fun σ H2 h => ?_)
    · obtain ⟨rfl, c, hc, rfl⟩ := hy
      obtain ⟨v3, rfl, s2⟩ := h
      have hc' : r.cps.toList[i]? = some c := by rw [Array.getElem?_toList]; exact hc
      have hm := walk_mem ok (r.cps.toList.take i) (firstL p) (by rw [em]; simp) fun d hd => hin d (List.mem_of_mem_take hd)
      have hg := ok.goal hm (hin c (List.mem_of_getElem? hc'))
      have s3 := s1.trans s2
      refine ⟨_, rfl, a, C, dx, _, .ref D, rfl, s3 _ _ e1, T.cl, T.f5, rfl, _, rfl, _, rfl, (by show 2 ≤ sizeLine; decide), fun t' ht => ⟨D, .str (ledL p (walkL p (firstL p) (r.cps.toList.take i)) c), rfl, ?_, ?_⟩⟩
      · have := DGet.t (k := kT (walkL p (firstL p) (r.cps.toList.take i)) c) (keep1 (s3 _ _ e4) ht) (upd_same (o := .tup ((kT (walkL p (firstL p) (r.cps.toList.take i)) c).map kV)))
        rw [hg.2] at this
        exact this
      · refine ⟨some (.str (sg c)), ?_, s2.trans (same_new ht)⟩
        rw [List.take_add_one, hc']
        show _ = [_, _, some (V.str (walkL p (firstL p) (r.cps.toList.take i ++ [c]))), _]
        unfold walkL
        rw [List.foldl_append]
        rfl
    · obtain ⟨v3, rfl, s2⟩ := h
      refine ⟨_, rfl, ?_⟩
      have : r.cps.toList.take r.cps.size = r.cps.toList := by rw [← Array.length_toList, List.take_length]
      rw [this]
      exact k _ (s1.trans s2)
theorem scHas : FnScope ["self", "row"] ["self", "row"] (defScope sHas) := ⟨rfl, rfl, rfl, by decide +kernel, rfl, by decide +kernel, by decide +kernel⟩
theorem ok_has {f C : Addr} {fd : FuncData} (F : Fun K "has" "Rule.has" sHas f fd) (T : RuC K C) (hM : HvM P w K mg base 3 C "mood" ["self", "row"] (spMood C)) : FnOk P w K mg base CX0 4 f fd ["self", "row"] (spHas C) := by
  refine F.ok scHas (fun vs H Q E h => ?_) (fun cdv A outer s H vs Q E hr h => ?_)
  · obtain ⟨a, r, t, p, rfl, _⟩ := h
    rfl
  · obtain ⟨a, r, t, p, rfl, hA, ok, ir, k⟩ := h
    refine ⟨_, pss_one (ps_ret (pe_cmpR op_in_seq (pe_mt hM (pv 0) T.cl hr pass0 (pa_cons (pv 1) pa_nil)) (pe_fld (pv 0) rfl) (by rfl))), ?_⟩
    obtain ⟨dx, M, G, D, e1, e2, e3, e4⟩ := id hA
    refine ⟨_, rfl, a, dx, _, rfl, e1, rfl, _, rfl, a, r, t, p, rfl, hA, ok, ir, fun H1 s1 => ?_⟩
    refine ⟨_, rfl, a, C, dx, _, .ref G, rfl, s1 _ _ e1, T.cl, T.f4, rfl, G, _, rfl, .inr (SqT.of (s1 _ _ e3)), rfl, flat_strs _, ?_⟩
    show Q (.bl (inV (.str (moodL p r)) (p.gs.map V.str))) H1
    rw [in_strs]
    exact k _ s1
end
end My
namespace My
open PySem PySem.Spec PyProof.Rows L2 PySem.GX L2H LamX
def spTextB : Sp := fun vs H Q _ => ∃ (q : Addr) (x : Str) (ws fs : List Str) (kvs : List (List Key × V)), vs = [.ref q] ∧ BxAt H q x ws fs kvs ∧ Short x ws fs kvs ∧ ∀ H', Same H H' → Q (.str (textL x ws fs kvs)) H'
/-- a box that tells the goals of p, whose moods begin otherwise -/
def BxF (H : Hp) (q : Addr) (p : Parts) (ws : List Str) : Prop := ∃ lw lf g kvs, H q = some (.tup [.str p.sg, .ref lw, .ref lf, .ref g]) ∧ H lw = some (.lst (ws.map V.str)) ∧ H lf = some (.lst (p.gs.map V.str)) ∧ H g = some (.dT kvs) ∧
  ∀ t ∈ p.ms, ∀ c ∈ p.sg.cps.toList, valV kvs (kT t c) = some (.str (ledL p t c))
theorem BxF.same {H H' : Hp} {q : Addr} {p : Parts} {ws : List Str} (h : BxF H q p ws) (s : Same H H') : BxF H' q p ws := by
  obtain ⟨lw, lf, g, kvs, a, b, c, d, e⟩ := h
  exact ⟨lw, lf, g, kvs, s _ _ a, s _ _ b, s _ _ c, s _ _ d, e⟩
theorem strs_ne3 (ws : List Str) (a b c : Int) : HO.lst (ws.map V.str) ≠ .lst [.int a, .int b, .int c] := fun z => by
  injection z with z
  cases ws with
  | nil => cases z
  | cons w t => injection z with z _; cases z
theorem BxF.sb {H H' : Hp} {q p0 : Addr} {p : Parts} {ws : List Str} (h : BxF H q p ws) (w : Wl H p0) (s : Sb p0 H H') : BxF H' q p ws := by
  obtain ⟨lw, lf, g, kvs, a, b, c, d, e⟩ := h
  refine ⟨lw, lf, g, kvs, s _ _ (w.ne a fun _ _ _ z => by cases z) a, s _ _ (w.ne b (strs_ne3 _)) b, s _ _ (w.ne c (strs_ne3 _)) c, s _ _ (w.ne d fun _ _ _ z => by cases z) d, e⟩
abbrev partsF (x : Str) (ws fs : List Str) (kvs : List (List Key × V)) : Parts := ⟨x, ws, fs, rsL x ws kvs⟩
theorem led_is {x : Str} {ws fs : List Str} {kvs : List (List Key × V)} (h : Fine x ws fs kvs) {t : Str} (ht : t ∈ ws) {c : Nat} (hc : c ∈ x.cps.toList) : valV kvs (kT t c) = some (.str (ledL (partsF x ws fs kvs) t c)) := by
  have e1 : ledL (partsF x ws fs kvs) t c = gf kvs t c := gf_is (fine_val h ht hc)
  obtain ⟨y, _, e2⟩ := h.gl t ht c hc
  rw [e1, e2, gf_is e2]
theorem bxF_of {H : Hp} {q : Addr} {x : Str} {ws fs : List Str} {kvs : List (List Key × V)} (h : Fine x ws fs kvs) (a : BxAt H q x ws fs kvs) : BxF H q (partsF x ws fs kvs) ws := by
  obtain ⟨lw, lf, g, a, b, c, d⟩ := a
  exact ⟨lw, lf, g, kvs, a, b, c, d, fun t ht c hc => led_is h ht hc⟩
theorem pok_of {x : Str} {ws fs : List Str} {kvs : List (List Key × V)} (h : Fine x ws fs kvs) : PartsOk (partsF x ws fs kvs) := parts_ok (fine_parse h)
def InS (p : Parts) (r : Str) : Prop := ∀ c ∈ r.cps.toList, c ∈ p.sg.cps.toList
def spEndB : Sp := fun vs H Q _ => ∃ (q : Addr) (p : Parts) (ws : List Str) (t r : Str), vs = [.ref q, .str t, .str r] ∧ BxF H q p ws ∧ PartsOk p ∧ t ∈ p.ms ∧ InS p r ∧ ∀ H', Same H H' → Q (.str (walkL p t r.cps.toList)) H'
section
variable {P : Program} {w : World} {K : PySem.W.Frag} {mg : Str → Option Value} {base : Heap}
abbrev nTextB : List Str := ["_law_box_here", "_law_lines", "_law_here", "_law_letter"]
theorem scTextB : FnScope nTextB ["_law_box_here"] (defScope sText) := ⟨rfl, rfl, rfl, by decide +kernel, rfl, by decide +kernel, by decide +kernel⟩
theorem ok_textB {f : Addr} {fd : FuncData} (F : Fun K "_law_text" "_law_text" sText f fd) : FnOk P w K mg base CX0 1 f fd ["_law_box_here"] spTextB := by
  refine F.ok scTextB (fun vs H Q E h => ?_) (fun cdv A outer s H vs Q E hr h => ?_)
  · obtain ⟨q, x, ws, fs, kvs, rfl, _⟩ := h
    rfl
  · obtain ⟨q, x, ws, fs, kvs, rfl, ⟨lw, lf, g, eq, ew, ef, eg⟩, sh, k⟩ := h
    refine ⟨_, pss_cons (ps_set (i := 1) scTextB.nd rfl (Or.inl rfl) (pe_lst (pa_cons (pe_op op_add_str pe_str (pe_ix ix_tup (pv 0) pe_int (fun _ _ => rfl))) (pa_cons (pe_join pe_str (pe_op op_cat (pe_lst (pa_cons pe_str pa_nil)) (pe_ix ix_tup (pv 0) pe_int (fun _ _ => rfl)))) (pa_cons (pe_join pe_str (pe_op op_cat (pe_lst (pa_cons pe_str pa_nil)) (pe_ix ix_tup (pv 0) pe_int (fun _ _ => rfl)))) pa_nil)))))
      (pss_cons (ps_for PassesOwn.never rfl (pi_list (pe_ix ix_tup (pv 0) pe_int (fun _ _ => rfl))) (pg_name (i := 2) scTextB.nd rfl (Or.inl rfl)) (pss_one (ps_for PassesOwn.never rfl (pi_str (pe_ix ix_tup (pv 0) pe_int (fun _ _ => rfl))) (pg_name (i := 3) scTextB.nd rfl (Or.inl rfl))
          (pss_one (ps_expr (pe_bm PySem.F.plainAttrs_list PySem.F.slot_list_append PySem.F.type_list_append mt_append (pv 1) (pa_cons (pe_op op_add_str (pe_op op_add_str (pe_op op_add_str (pe_op op_add_str (pv 2) pe_str) (pv 3)) pe_str) (pe_dget (hu_of hr) (pe_ix ix_tup (pv 0) pe_int (fun _ _ => rfl)) (pe_tup (pa_cons (pv 2) (pa_cons (pv 3) pa_nil))) (fun _ _ => rfl))) pa_nil)))))))
      (pss_one (ps_ret (pe_join pe_str (pv 1))))), ?_⟩
    have esp : (Str.ofString " ") = sp := by decide +kernel
    have enl : (Str.ofString "\n") = nl := by decide +kernel
    have hs := lines_short sh
    have z := sh.hx
    have z1 := sh.nw
    have z2 := sh.nf
    refine ⟨_, rfl, q, _, _, V.str x, rfl, rfl, SqT.of eq, atI_nat (j := 0) rfl, _, _, rfl, rfl, ?_, ?_⟩
    · have : ("signs " : Str).length = 6 := by decide +kernel
      rw [sizeLine_eq]
      omega
    refine ⟨⟨_, rfl⟩, (by show 1 ≤ sizeLine; decide), fun a1 h1 => ⟨_, rfl, q, _, _, V.ref lw, rfl, rfl, SqT.of (keep1 eq h1), atI_nat (j := 1) rfl, a1, lw, _, _, rfl, rfl, upd_same, keep1 ew h1, ?_, fun a2 h2 => ?_⟩⟩
    · rw [List.length_map, sizeLine_eq]
      simp
      omega
    have s2 := (same_new (o := .lst [V.str ("moods" : Str)]) h1).trans (same_new (o := .lst ([V.str ("moods" : Str)] ++ ws.map V.str)) h2)
    refine ⟨_, a2, ("moods" : Str) :: ws, rfl, rfl, .inl (SqL.of upd_same), ?_, ?_⟩
    · have b := sum_le sh.lw
      have c : ("moods" : Str).length = 5 := by decide +kernel
      have d : (Str.ofString " ").length = 1 := by decide +kernel
      rw [List.map_cons, List.sum_cons, List.length_cons, c, d]
      omega
    generalize upd (upd H a1 (.lst [V.str ("moods" : Str)])) a2 (.lst ([V.str ("moods" : Str)] ++ ws.map V.str)) = H2 at s2 ⊢
    refine ⟨⟨_, rfl⟩, (by show 1 ≤ sizeLine; decide), fun a3 h3 => ⟨_, rfl, q, _, _, V.ref lf, rfl, rfl, SqT.of (keep1 (s2 _ _ eq) h3), atI_nat (j := 2) rfl, a3, lf, _, _, rfl, rfl, upd_same, keep1 (s2 _ _ ef) h3, ?_, fun a4 h4 => ?_⟩⟩
    · rw [List.length_map, sizeLine_eq]
      simp
      omega
    have s4 := (s2.trans (same_new (o := .lst [V.str ("good" : Str)]) h3)).trans (same_new (o := .lst ([V.str ("good" : Str)] ++ fs.map V.str)) h4)
    refine ⟨_, a4, ("good" : Str) :: fs, rfl, rfl, .inl (SqL.of upd_same), ?_, ?_⟩
    · have b := sum_le sh.lf
      have c : ("good" : Str).length = 4 := by decide +kernel
      have d : (Str.ofString " ").length = 1 := by decide +kernel
      rw [List.map_cons, List.sum_cons, List.length_cons, c, d]
      omega
    generalize upd (upd H2 a3 (.lst [V.str ("good" : Str)])) a4 (.lst ([V.str ("good" : Str)] ++ fs.map V.str)) = H4 at s4 ⊢
    refine ⟨(by show 3 ≤ sizeLine; decide), fun l0 h0 => ?_⟩
    rw [esp]
    have s5 := s4.trans (same_new (o := .lst ((headL x ws fs).map V.str)) h0)
    have e5 : upd H4 l0 (.lst ((headL x ws fs).map V.str)) l0 = some (.lst ((headL x ws fs).map V.str)) := upd_same
    have eq5 := s5 _ _ eq
    have ew5 := s5 _ _ ew
    have eg5 := s5 _ _ eg
    have nq : q ≠ l0 := ne_of_none (s4 _ _ eq) h0
    have nw : lw ≠ l0 := ne_of_none (s4 _ _ ew) h0
    have ng : g ≠ l0 := ne_of_none (s4 _ _ eg) h0
    have fl : ∀ b o, H b = some o → b ≠ l0 := fun b o e => ne_of_none (s4 _ _ e) h0
    show ∃ a, _
    generalize eH5 : upd H4 l0 (.lst ((headL x ws fs).map V.str)) = H5 at s5 e5 eq5 ew5 eg5
    have eH5' : upd H4 l0 (.lst [V.str (("signs " : Str) ++ x), V.str (Txt.join sp (("moods" : Str) :: ws)), V.str (Txt.join sp (("good" : Str) :: fs))]) = H5 := eH5
    rw [eH5']
    refine ⟨_, rfl, q, _, _, V.ref lw, rfl, rfl, SqT.of eq5, atI_nat (j := 1) rfl, lw, rfl, ⟨_, SqL.of ew5⟩, ?_⟩
    refine for_it (walk_listL ws V.str) (fun i σ H' => ∃ (v2 v3 : Option V), σ = [some (.ref q), some (.ref l0), v2, v3] ∧ Sb l0 H5 H' ∧ H' l0 = some (.lst ((headL x ws fs ++ bodyL x (ws.take i) kvs).map V.str)))
      ⟨none, none, rfl, Sb.refl _ _, by rw [List.take_zero]; exact e5⟩ (fun i σ H' _ h => ?_) (fun i y σ H' H'' hi h hy => ?_) (fun σ H' h => ?_)
    · obtain ⟨v2, v3, rfl, st, _⟩ := h
      exact SqL.of (st _ _ nw ew5)
    · obtain ⟨rfl, hy⟩ := hy
      have hm : ws[i]? = some ws[i] := List.getElem?_eq_getElem hi
      obtain rfl := map_get hm hy
      obtain ⟨v2, v3, rfl, st, el⟩ := h
      refine ⟨_, rfl, q, _, _, V.str x, rfl, rfl, SqT.of (st _ _ nq eq5), atI_nat (j := 0) rfl, x, rfl, ?_⟩
      refine for_it walk_str (fun j σ H' => ∃ (v3 : Option V), σ = [some (.ref q), some (.ref l0), some (.str ws[i]), v3] ∧ Sb l0 H5 H' ∧ H' l0 = some (.lst ((headL x ws fs ++ bodyL x (ws.take i) kvs ++ (x.cps.toList.take j).map fun c => lineL kvs ws[i] c).map V.str)))
        ⟨v3, rfl, st, by rw [List.take_zero, List.map_nil, List.append_nil]; exact el⟩ (fun _ _ _ _ _ => trivial) (fun j y σ H7 H8 hj h hy => ?_) (fun σ H7 h => ?_)
      · obtain ⟨rfl, c, hc, rfl⟩ := hy
        obtain ⟨v3, rfl, st7, el7⟩ := h
        rw [← Array.getElem?_toList] at hc
        have hmw : ws[i] ∈ ws := List.getElem_mem hi
        have hcx : c ∈ x.cps.toList := List.mem_of_getElem? hc
        obtain ⟨gy, lg, egy⟩ := sh.gl ws[i] hmw c hcx
        have lt := sh.lw ws[i] hmw
        have d : (sp : Str).length = 1 := rfl
        have d2 : ({ cps := #[c] } : Str).length = 1 := rfl
        refine ⟨_, rfl, .inl ⟨rfl, _, SqL.of el7⟩, _, rfl, _, _, rfl, rfl, (by rw [sizeLine_eq]; omega), _, rfl, _, _, rfl, rfl, (by rw [sizeLine_eq, len_app]; omega), _, _, rfl, rfl, (by rw [sizeLine_eq, len_app, len_app]; omega), _, rfl, q, _, _, V.ref g, rfl, rfl, SqT.of (st7 _ _ nq eq5), atI_nat (j := 3) rfl, _, rfl, _, rfl, (by show 2 ≤ sizeLine; decide), fun t ht => ?_⟩
        refine ⟨g, V.str gy, rfl, ?_, _, _, rfl, rfl, ?_, l0, _, _, rfl, rfl, keep1 el7 ht, ?_, ?_⟩
        · have := DGet.t (k := kT ws[i] c) (keep1 (st7 _ _ ng eg5) ht) (upd_same (o := .tup ((kT ws[i] c).map kV)))
          rw [egy] at this
          exact this
        · rw [sizeLine_eq, len_app, len_app, len_app]
          omega
        · have a1 : (headL x ws fs ++ bodyL x (ws.take i) kvs).length ≤ 63 := by
            rw [List.length_append, body_len, List.length_take]
            have : min i ws.length * x.length ≤ 20 * 3 := Nat.mul_le_mul (by omega) z
            show 3 + _ ≤ 63
            omega
          have a2 : ((x.cps.toList.take j).map fun c => lineL kvs ws[i] c).length ≤ 3 := by
            rw [List.length_map, List.length_take, Array.length_toList]
            exact Nat.le_trans (Nat.min_le_right ..) z
          rw [List.length_map, List.length_append, sizeLine_eq]
          omega
        · refine ⟨_, rfl, fun b o n e => ?_, ?_⟩
          · rw [upd_ne n]
            exact keep1 (st7 _ _ n e) ht
          · rw [upd_same, List.take_add_one, hc]
            show some (HO.lst (_ ++ [V.str _])) = _
            rw [List.map_append (f := fun c => lineL kvs ws[i] c), ← List.append_assoc, List.map_append (f := V.str) (l₂ := List.map (fun c => lineL kvs ws[i] c) (some c).toList)]
            have e9 : V.str (ws[i] ++ sp ++ { cps := #[c] } ++ sp ++ gy) = V.str (lineL kvs ws[i] c) := by
              unfold lineL
              rw [gf_is egy]
            exact congrArg (fun z => some (HO.lst (_ ++ [z]))) e9
      · obtain ⟨v3, rfl, st7, el7⟩ := h
        refine ⟨_, _, rfl, st7, ?_⟩
        have : x.cps.toList.take x.cps.size = x.cps.toList := by rw [← Array.length_toList, List.take_length]
        rw [this] at el7
        rw [body_take hm, ← List.append_assoc]
        exact el7
    · obtain ⟨v2, v3, rfl, st, el⟩ := h
      rw [List.take_length] at el
      refine ⟨⟨_, rfl⟩, _, rfl, _, l0, linesL x ws fs kvs, rfl, rfl, .inl (SqL.of el), ?_, ?_⟩
      · have b := sum_le hs.2
        have c := hs.1
        have d : (Str.ofString "\n").length = 1 := by decide +kernel
        have e : (linesL x ws fs kvs).length * 200 ≤ 63 * 200 := Nat.mul_le_mul_right _ c
        rw [d]
        omega
      · rw [enl]
        exact k _ fun b o e => st _ _ (fl b o e) (s5 _ _ e)
end
end My
namespace My
open PySem PySem.Spec PyProof.Rows L2 PySem.GX L2H LamX
theorem nodup_len {α : Type} [DecidableEq α] : ∀ {l m : List α}, l.Nodup → (∀ x ∈ l, x ∈ m) → l.length ≤ m.length
  | [], _, _, _ => Nat.zero_le _
  | a :: t, m, nd, h => by
    have ha := h a (by simp)
    have nd' := List.nodup_cons.mp nd
    have i := nodup_len (m := m.erase a) nd'.2 (fun x hx => (List.mem_erase_of_ne (by rintro rfl; exact nd'.1 hx)).mpr (h x (by simp [hx])))
    rw [List.length_erase_of_mem ha] at i
    have : 0 < m.length := List.length_pos_of_mem ha
    rw [List.length_cons]
    omega
theorem prod_len {α β : Type} (as : List α) (bs : List β) : (as.flatMap fun a => bs.map fun b => (a, b)).length = as.length * bs.length := by
  induction as with
  | nil => simp
  | cons m t ih =>
    rw [List.flatMap_cons, List.length_append, ih, List.length_map, List.length_cons, Nat.succ_mul]
    omega
theorem pairs_bound {as bs : List Str} {ps : List (Str × Str)} (nd : ps.Nodup) (h : ∀ p ∈ ps, p.1 ∈ as ∧ p.2 ∈ bs) : ps.length ≤ as.length * bs.length := by
  rw [← prod_len]
  exact nodup_len nd fun p hp => List.mem_flatMap.mpr ⟨p.1, (h p hp).1, List.mem_map.mpr ⟨p.2, (h p hp).2, rfl⟩⟩
abbrev k2 (a b : Str) : List Key := [Sum.inr a, Sum.inr b]
def seenL (ps : List (Str × Str)) : List (List Key × V) := ps.map fun ab => (k2 ab.1 ab.2, V.bl true)
theorem seen_val (a b : Str) : ∀ ps : List (Str × Str), (valV (seenL ps) (k2 a b)).isSome = decide ((a, b) ∈ ps)
  | [] => rfl
  | (c, d) :: t => by
    have ih := seen_val a b t
    by_cases e : (a, b) = (c, d)
    · cases e
      rw [show seenL ((a, b) :: t) = (k2 a b, V.bl true) :: seenL t from rfl, valV_pos rfl]
      simp
    · rw [show seenL ((c, d) :: t) = (k2 c d, V.bl true) :: seenL t from rfl, valV_neg (fun z => e ?_), ih]
      · by_cases m : (a, b) ∈ t
        · rw [decide_eq_true m, decide_eq_true (List.mem_cons_of_mem _ m)]
        · rw [decide_eq_false m, decide_eq_false (fun z => (List.mem_cons.mp z).elim e m)]
      · injection z with z1 z2
        injection z2 with z2 _
        injection z1 with z1
        injection z2 with z2
        rw [z1, z2]
theorem seen_snoc {ps : List (Str × Str)} {a b : Str} (h : (a, b) ∉ ps) : putK (seenL ps) (k2 a b) (.bl true) = seenL (ps ++ [(a, b)]) := by
  have := seen_val a b ps
  rw [decide_eq_false h] at this
  rw [putK_new _ (Option.isNone_iff_eq_none.mp (by simpa using this))]
  unfold seenL
  rw [List.map_append]
  rfl
/-- all but two stays -/
def Ks (l d : Addr) (H H' : Hp) : Prop := ∀ b o, b ≠ l → b ≠ d → H b = some o → H' b = some o
def LnA (H : Hp) (p1 p2 : Parts) (as : List Addr) : Prop := ∀ (i : Nat) (a : Addr), as[i]? = some a → ∃ r u v, H a = some (.tup [.str r, .str u, .str v]) ∧ InS p1 r ∧ r.length ≤ i ∧ u ∈ p1.ms ∧ v ∈ p2.ms
structure Fst (H1 H : Hp) (l d : Addr) (p1 p2 : Parts) (as : List Addr) (ps : List (Str × Str)) : Prop where
  ks : Ks l d H1 H
  el : H l = some (.lst (as.map V.ref))
  ed : H d = some (.dT (seenL ps))
  ln : as.length = ps.length + 1
  nd : ps.Nodup
  inn : ∀ ab ∈ ps, ab.1 ∈ p1.ms ∧ ab.2 ∈ p2.ms
  at_ : LnA H p1 p2 as
section
variable {H1 H : Hp} {l d : Addr} {p1 p2 : Parts} {as : List Addr} {ps : List (Str × Str)}
theorem Fst.new (h : Fst H1 H l d p1 p2 as ps) {H' : Hp} (s : Same H H') : Fst H1 H' l d p1 p2 as ps :=
  ⟨fun b o n1 n2 e => s _ _ (h.ks b o n1 n2 e), s _ _ h.el, s _ _ h.ed, h.ln, h.nd, h.inn, fun i a e => let ⟨r, u, v, e1, e2⟩ := h.at_ i a e; ⟨r, u, v, s _ _ e1, e2⟩⟩
theorem Fst.few (h : Fst H1 H l d p1 p2 as ps) (z1 : p1.ms.length ≤ 10) (z2 : p2.ms.length ≤ 10) : as.length ≤ 101 := by
  have := pairs_bound h.nd h.inn
  have m : p1.ms.length * p2.ms.length ≤ 10 * 10 := Nat.mul_le_mul z1 z2
  have := h.ln
  omega
theorem Fst.put (h : Fst H1 H l d p1 p2 as ps) {a b : Str} (hn : (a, b) ∉ ps) (ha : a ∈ p1.ms) (hb : b ∈ p2.ms) {H2 : Hp} {n : Addr} {r : Str} (s : Ks l d (upd H d (.dT (seenL (ps ++ [(a, b)])))) H2) (el : H2 l = some (.lst ((as ++ [n]).map V.ref))) (ed : H2 d = some (.dT (seenL (ps ++ [(a, b)]))))
    (en : H2 n = some (.tup [.str r, .str a, .str b])) (hr : InS p1 r) (lr : r.length ≤ as.length) : Fst H1 H2 l d p1 p2 (as ++ [n]) (ps ++ [(a, b)]) := by
  refine ⟨fun b o n1 n2 e => s _ _ n1 n2 (by rw [upd_ne n2]; exact h.ks b o n1 n2 e), el, ed, by rw [List.length_append, List.length_append, h.ln]; rfl, ?_, fun ab m => ?_, fun i c e => ?_⟩
  · rw [List.nodup_append]
    refine ⟨h.nd, by simp, fun x hx y hy e => ?_⟩
    rw [List.mem_singleton] at hy
    exact hn (hy ▸ e ▸ hx)
  · rcases List.mem_append.mp m with m | m
    · exact h.inn ab m
    · rw [List.mem_singleton] at m
      subst m
      exact ⟨ha, hb⟩
  · rw [List.getElem?_append] at e
    split at e
    · obtain ⟨r', u, v, e1, e2⟩ := h.at_ i c e
      have n1 : c ≠ l := ne_of e1 h.el (by intro z; cases z)
      have n2 : c ≠ d := ne_of e1 h.ed (by intro z; cases z)
      exact ⟨r', u, v, s _ _ n1 n2 (by rw [upd_ne n2]; exact e1), e2⟩
    · rename_i hi
      have : c = n ∧ i = as.length := by
        cases hz : i - as.length with
        | zero => rw [hz] at e; exact ⟨(Option.some.inj e).symm, by omega⟩
        | succ m => rw [hz] at e; cases e
      obtain ⟨rfl, rfl⟩ := this
      exact ⟨r, a, b, en, hr, lr, ha, hb⟩
end
end My
namespace My
open PySem PySem.Spec PyProof.Rows L2 PySem.GX L2H LamX
theorem ix_tupK {X : Cx} {K : PySem.W.Frag} (h : X.K = K) : IxR X (rIxT K) := by subst h; exact ix_tup
theorem call_isiK {X : Cx} {K : PySem.W.Frag} (h : X.K = K) : CallR X (.builtin "isinstance") (rIsi K) := by subst h; exact call_isi
def rJoinK (K : PySem.W.Frag) : V → List V → Hp → VK → Prop := fun x xs H Q => ∃ a p, ∃ ys : List Str, x = .str a ∧ xs = [.ref p] ∧ (SqL K H p (ys.map V.str) ∨ SqT K H p (ys.map V.str)) ∧ (ys.map (·.length)).sum + ys.length * a.length ≤ 16777216 ∧ Q (.str (Txt.join a ys)) H
theorem pe_joinK {X : Cx} {K : PySem.W.Frag} {o e : Expr} {to te : TE} {apos pos : Pos} (h : X.K = K) (ho : PE X o to) (he : PE X e te) (hs : starEach [e] X.env = [(false, eval e X.env)] := by rfl) (hbase : attributeBase o "join" X.env (eval o X.env) = eval o X.env := by rfl) (hline : (apos.endLine == pos.line) = true := by rfl) :
    PE X (.Call (.Attribute o "join" apos) [e] [] pos) (tM1 (rJoinK K) to te) := by
  subst h
  exact pe_join ho he hs hbase hline
theorem pi_listK {X : Cx} {K : PySem.W.Frag} {tg l : Expr} {tl : TE} (h : X.K = K) (hl : PE X l tl) : PI X tg l (iList K tl) := by
  subst h
  exact pi_list hl
theorem op_in_seqK {X : Cx} {K : PySem.W.Frag} (h : X.K = K) : OpR X (compareOp .In) (rIn K false) := by subst h; exact op_in_seq
end My
namespace My
open PySem PySem.Spec PyProof.Rows L2 PySem.GX L2H LamX
def walksL (p : Parts) (t : Str) (rs : List Str) : Str := rs.foldl (fun m r => walkL p m r.cps.toList) t
theorem walks_one (p : Parts) (t r : Str) : walksL p t [r] = walkL p t r.cps.toList := rfl
theorem walks_mem {p : Parts} (ok : PartsOk p) : ∀ (rs : List Str) (t : Str), t ∈ p.ms → (∀ r ∈ rs, InS p r) → walksL p t rs ∈ p.ms
  | [], _, ht, _ => ht
  | r :: rs, t, ht, h => walks_mem ok rs _ (walk_mem ok r.cps.toList t ht (h r (by simp))) fun z hz => h z (by simp [hz])
theorem walks_snoc (p : Parts) (t r : Str) (rs : List Str) : walksL p t (rs ++ [r]) = walkL p (walksL p t rs) r.cps.toList := by
  unfold walksL
  rw [List.foldl_append]
  rfl
def spRuleOf (C : Addr) : Sp := fun vs H Q _ => ∃ (t : Str) (p : Parts), vs = [.str t] ∧ t.length ≤ 1000000 ∧ PyData.strOk t = true ∧ parseL t = some p ∧ ∀ (a : Addr) (H' : Hp), Same H H' → RuleAt H' C a t p → Q (.ref a) H'
def spWalked (C : Addr) : Sp := fun vs H Q _ => ∃ (a l : Addr) (tx t : Str) (p : Parts) (rs : List Str), vs = [.ref a, .str t, .ref l] ∧ RuleAt H C a tx p ∧ PartsOk p ∧ t ∈ p.ms ∧ H l = some (.lst (rs.map V.str)) ∧ (∀ r ∈ rs, InS p r) ∧ ∀ H', Same H H' → Q (.str (walksL p t rs)) H'
def spEndsG (C : Addr) : Sp := fun vs H Q _ => ∃ (a l : Addr) (tx t : Str) (p : Parts) (rs : List Str), vs = [.ref a, .str t, .ref l] ∧ RuleAt H C a tx p ∧ PartsOk p ∧ t ∈ p.ms ∧ H l = some (.lst (rs.map V.str)) ∧ (∀ r ∈ rs, InS p r) ∧ ∀ H', Same H H' → Q (.bl (decide (walksL p t rs ∈ p.gs))) H'
/-- the property x of the class tells the field y -/
def PrF (P : Program) (w : World) (K : PySem.W.Frag) (mg : Str → Option Value) (base : Heap) (C : Addr) (x y : Str) : Prop := ∃ (p g : Addr) (fd : FuncData), PropOf K C x p g ∧ FnOk P w K mg base CX0 1 g fd ["self"] (getSp C y) ∧ Binds K fd ["self"] []
section
variable {P : Program} {w : World} {K : PySem.W.Frag} {mg : Str → Option Value} {base : Heap}
theorem scRuleOf : FnScope ["text"] ["text"] (defScope sRuleOf) := ⟨rfl, rfl, rfl, by decide +kernel, rfl, by decide +kernel, by decide +kernel⟩
theorem ok_ruleOf {f C C0 fI : Addr} {fd fdI : FuncData} (F : Fun K "rule_of" "rule_of" sRuleOf f fd) (MI : Mk K C fI) (GI : FnOk P w K mg base CX0 5 fI fdI ["self", "text"] (spInit C)) (bI : Binds K fdI ["self", "text"] []) (gI : mg "Rule" = some (.ref C)) (gT : mg "InvalidText" = some (.ref C0)) :
    FnOk P w K mg base CX0 7 f fd ["text"] (spRuleOf C) := by
  refine F.ok scRuleOf (fun vs H Q E h => ?_) (fun cdv A outer s H vs Q E hr h => ?_)
  · obtain ⟨t, p, rfl, _⟩ := h
    rfl
  · obtain ⟨t, p, rfl, zt, ot, pt, k⟩ := h
    refine ⟨_, pss_one (ps_try_only (c := .ref C0) rfl rfl ⟨rfl, by decide, .inl gT⟩ LamX.takes0 (fun W pn xe tk _ => pss_one (ps_ret (pe_make MI GI hr rfl gI bI .nil pass0 (pa_cons (pv 0) pa_nil)))) (fun a oe cls d pn _ _ => pss_one (ps_ret pe_non))), ?_⟩
    refine ⟨_, rfl, fun y dy ny ndy ne => ?_⟩
    have sm : Same H (upd (upd H dy (.own y)) y (.ins C dy [])) := (same_new ndy).trans (same_new (by rw [upd_ne ne.symm]; exact ny))
    exact ⟨y, dy, t, p, rfl, upd_same, zt, ot, pt, fun H6 keep rA => ⟨rfl, k y H6 (fun b o e => keep b o (ne_of_none e ny) (sm b o e)) rA⟩⟩
abbrev nWalked : List Str := ["rule", "mood", "rows", "row", "sign"]
theorem scWalked : FnScope nWalked ["rule", "mood", "rows"] (defScope sWalked) := ⟨rfl, rfl, rfl, by decide +kernel, rfl, by decide +kernel, by decide +kernel⟩
theorem ok_walked {f C : Addr} {fd : FuncData} (F : Fun K "walked" "walked" sWalked f fd) (T : RuC K C) : FnOk P w K mg base CX0 1 f fd ["rule", "mood", "rows"] (spWalked C) := by
  refine F.ok scWalked (fun vs H Q E h => ?_) (fun cdv A outer s H vs Q E hr h => ?_)
  · obtain ⟨a, l, tx, t, p, rs, rfl, _⟩ := h
    rfl
  · obtain ⟨a, l, tx, t, p, rs, rfl, ⟨dx, M, G, D, e1, e2, e3, e4⟩, ok, ht, el, hin, k⟩ := h
    refine ⟨_, pss_cons (ps_for PassesOwn.never rfl (pi_list (pv 2)) (pg_name (i := 3) scWalked.nd rfl (Or.inl rfl)) (pss_one (ps_for PassesOwn.never rfl (pi_str (pv 3)) (pg_name (i := 4) scWalked.nd rfl (Or.inl rfl))
        (pss_one (ps_set (i := 1) scWalked.nd rfl (Or.inl rfl) (pe_dget (hu_of hr) (pe_fld (pv 0) rfl) (pe_tup (pa_cons (pv 1) (pa_cons (pv 4) pa_nil))) (fun _ _ => rfl)))))))
      (pss_one (ps_ret (pv 1))), ?_⟩
    refine ⟨_, rfl, l, rfl, ⟨_, SqL.of el⟩, ?_⟩
    refine for_it (walk_listL rs V.str) (fun i σ H' => ∃ v3 v4, σ = [some (.ref a), some (.str (walksL p t (rs.take i))), some (.ref l), v3, v4] ∧ Same H H') ⟨none, none, rfl, Same.refl _⟩ (fun i σ H' _ h => ?_) (fun i y σ H' H'' hi h hy => ?_) (fun σ H' h => ?_)
    · obtain ⟨_, _, _, st⟩ := h
      exact SqL.of (st _ _ el)
    · obtain ⟨rfl, hy⟩ := hy
      have hm : rs[i]? = some rs[i] := List.getElem?_eq_getElem hi
      obtain rfl := map_get hm hy
      obtain ⟨v3, v4, rfl, st⟩ := h
      have hrm : rs[i] ∈ rs := List.getElem_mem hi
      have hmt := walks_mem ok (rs.take i) t ht fun r hr => hin r (List.mem_of_mem_take hr)
      have esn : walksL p t (rs.take (i + 1)) = walkL p (walksL p t (rs.take i)) rs[i].cps.toList := by
        rw [List.take_add_one, hm]
        exact walks_snoc _ _ _ _
      rw [esn]
      generalize walksL p t (rs.take i) = t1 at hmt
      have hir := hin _ hrm
      generalize rs[i] = r at hir
      refine ⟨_, rfl, r, rfl, ?_⟩
      refine for_it walk_str (fun j σ H' => ∃ v4, σ = [some (.ref a), some (.str (walkL p t1 (r.cps.toList.take j))), some (.ref l), some (.str r), v4] ∧ Same H H') ⟨v4, rfl, st⟩ (fun _ _ _ _ _ => trivial) (fun j y σ H2 H3 hj h hy => ?_) (fun σ H2 h => ?_)
      · obtain ⟨rfl, c, hc, rfl⟩ := hy
        obtain ⟨v4, rfl, s2⟩ := h
        have hc' : r.cps.toList[j]? = some c := by rw [Array.getElem?_toList]; exact hc
        have hm := walk_mem ok (r.cps.toList.take j) t1 hmt fun d hd => hir d (List.mem_of_mem_take hd)
        have hg := ok.goal hm (hir c (List.mem_of_getElem? hc'))
        refine ⟨_, rfl, a, C, dx, _, .ref D, rfl, s2 _ _ e1, T.cl, T.f5, rfl, _, rfl, _, rfl, (by show 2 ≤ sizeLine; decide), fun t' ht' => ⟨D, .str (ledL p (walkL p t1 (r.cps.toList.take j)) c), rfl, ?_, ?_⟩⟩
        · have := DGet.t (k := kT (walkL p t1 (r.cps.toList.take j)) c) (keep1 (s2 _ _ e4) ht') (upd_same (o := .tup ((kT (walkL p t1 (r.cps.toList.take j)) c).map kV)))
          rw [hg.2] at this
          exact this
        · refine ⟨some (.str (sg c)), ?_, s2.trans (same_new ht')⟩
          rw [List.take_add_one, hc']
          show _ = [_, some (V.str (walkL p t1 (r.cps.toList.take j ++ [c]))), _, _, _]
          unfold walkL
          rw [List.foldl_append]
          rfl
      · obtain ⟨v4, rfl, s2⟩ := h
        have : r.cps.toList.take r.cps.size = r.cps.toList := by rw [← Array.length_toList, List.take_length]
        rw [this]
        exact ⟨_, _, rfl, s2⟩
    · obtain ⟨v3, v4, rfl, st⟩ := h
      rw [List.take_length]
      exact ⟨_, rfl, k _ st⟩
theorem scEndsG : FnScope ["rule", "mood", "rows"] ["rule", "mood", "rows"] (defScope sEndsG) := ⟨rfl, rfl, rfl, by decide +kernel, rfl, by decide +kernel, by decide +kernel⟩
theorem ok_endsG {f C : Addr} {fd : FuncData} (F : Fun K "ends_good" "ends_good" sEndsG f fd) (T : RuC K C) (hW : Hv P w K mg base 1 "walked" ["rule", "mood", "rows"] (spWalked C)) (pG : PrF P w K mg base C "good" "chosen") : FnOk P w K mg base CX0 3 f fd ["rule", "mood", "rows"] (spEndsG C) := by
  obtain ⟨pp, gp, fdp, PP, GP, bP⟩ := pG
  refine F.ok scEndsG (fun vs H Q E h => ?_) (fun cdv A outer s H vs Q E hr h => ?_)
  · obtain ⟨a, l, tx, t, p, rs, rfl, _⟩ := h
    rfl
  · obtain ⟨a, l, tx, t, p, rs, rfl, hA, ok, ht, el, hin, k⟩ := h
    refine ⟨_, pss_one (ps_ret (pe_cmpR op_in_seq (pe_cl hW (hr.mono (by decide)) rfl pass0 (pa_cons (pv 0) (pa_cons (pv 1) (pa_cons (pv 2) pa_nil)))) (pe_prop (pv 0) T.cl PP GP hr bP .nil pass0 (by rfl)) (by rfl))), ?_⟩
    refine ⟨_, rfl, _, rfl, _, rfl, a, l, tx, t, p, rs, rfl, hA, ok, ht, el, hin, fun H1 s1 => ?_⟩
    obtain ⟨dx, M, G, D, e1, e2, e3, e4⟩ := hA.same s1
    refine ⟨_, rfl, a, dx, _, rfl, e1, a, dx, _, .ref G, rfl, e1, rfl, G, _, rfl, .inr (SqT.of e3), rfl, flat_strs _, ?_⟩
    show Q (.bl (inV (.str (walksL p t rs)) (p.gs.map V.str))) H1
    rw [in_strs]
    exact k _ s1
end
end My
namespace My
open PySem PySem.Spec PyProof.Rows L2 PySem.GX L2H LamX
/-- a part of an item: a text, or another thing -/
inductive PtAt (H : Hp) : V → Option Str → Prop
  | tx (s : Str) : PtAt H (.str s) (some s)
  | non : PtAt H .non none
  | int (i : Int) : PtAt H (.int i) none
  | lst {a : Addr} (e : H a = some (.lst [])) : PtAt H (.ref a) none
  | dic {a : Addr} (e : H a = some (.dK [])) : PtAt H (.ref a) none
/-- all but dicts of pairs stays -/
def KsT (H H' : Hp) : Prop := ∀ b o, (∀ kvs, o ≠ .dT kvs) → H b = some o → H' b = some o
theorem KsT.of {H H' : Hp} (s : Same H H') : KsT H H' := fun b o _ e => s b o e
theorem PtAt.keep {H H' : Hp} (s : KsT H H') {v : V} {o : Option Str} (h : PtAt H v o) : PtAt H' v o := by
  cases h with
  | tx r => exact .tx r
  | non => exact .non
  | int i => exact .int i
  | lst e => exact .lst (s _ _ (fun _ z => by cases z) e)
  | dic e => exact .dic (s _ _ (fun _ z => by cases z) e)
theorem PtAt.same {H H' : Hp} (s : Same H H') {v : V} {o : Option Str} (h : PtAt H v o) : PtAt H' v o := h.keep (.of s)
theorem PtAt.sh {K : PySem.W.Frag} {H : Hp} {v : V} {o : Option Str} (h : PtAt H v o) : ∃ d, Sh K H v d ∧ ∀ z, isTx z d = decide (o = some z) := by
  cases h with
  | tx r => exact ⟨.str r, .fl (.str r), fun z => by
      show decide (r = z) = decide (some r = some z)
      rw [Bool.eq_iff_iff, decide_eq_true_eq, decide_eq_true_eq]
      exact ⟨fun h => by rw [h], fun h => Option.some.inj h⟩⟩
  | non => exact ⟨_, .fl .non, fun z => rfl⟩
  | int i => exact ⟨_, .fl (.int i), fun z => rfl⟩
  | lst e => exact ⟨_, .lst (SqL.of e) .nil, fun z => rfl⟩
  | dic e => exact ⟨.dict [], .dic e .nil .nil, fun z => rfl⟩
theorem PtAt.kit {K : PySem.W.Frag} {H : Hp} {v : V} {o : Option Str} (h : PtAt H v o) : ∃ ty, TyX K H v ty ∧ PySem.W.kitOne K ty (.type "str") = some o.isSome := by
  cases h with
  | tx r => exact ⟨_, .base (.str r), kit_ty (show _ = some true by decide +kernel)⟩
  | non => exact ⟨_, .base .non, kit_ty (show _ = some false by decide +kernel)⟩
  | int i => exact ⟨_, .base (.int i), kit_ty (show _ = some false by decide +kernel)⟩
  | lst e => exact ⟨_, .base (.lst e), kit_ty (show _ = some false by decide +kernel)⟩
  | dic e => exact ⟨_, .base (.dK e), kit_ty (show _ = some false by decide +kernel)⟩
theorem PtAt.tx_of {H : Hp} {v : V} {s : Str} (h : PtAt H v (some s)) : v = .str s := by
  cases h
  rfl
inductive Itm
  | two (a b : Option Str)
  | no
/-- an item of a paper -/
inductive ItAt (H : Hp) : V → Itm → Prop
  | two {t : Addr} {x1 x2 : V} {o1 o2 : Option Str} (e : H t = some (.tup [x1, x2])) (h1 : PtAt H x1 o1) (h2 : PtAt H x2 o2) : ItAt H (.ref t) (.two o1 o2)
  | tup {t : Addr} {xs : List V} (e : H t = some (.tup xs)) (n : xs.length ≠ 2) : ItAt H (.ref t) .no
  | lst {t : Addr} {xs : List V} (e : H t = some (.lst xs)) (n : xs.length ≠ 3) : ItAt H (.ref t) .no
  | non : ItAt H .non .no
  | str (s : Str) : ItAt H (.str s) .no
theorem ItAt.keep {H H' : Hp} (s : KsT H H') {v : V} {o : Itm} (h : ItAt H v o) : ItAt H' v o := by
  cases h with
  | two e h1 h2 => exact .two (s _ _ (fun _ z => by cases z) e) (h1.keep s) (h2.keep s)
  | tup e n => exact .tup (s _ _ (fun _ z => by cases z) e) n
  | lst e n => exact .lst (s _ _ (fun _ z => by cases z) e) n
  | non => exact .non
  | str r => exact .str r
theorem ItAt.same {H H' : Hp} (s : Same H H') {v : V} {o : Itm} (h : ItAt H v o) : ItAt H' v o := h.keep (.of s)
theorem ItAt.kit {K : PySem.W.Frag} {H : Hp} {v : V} {o : Itm} (h : ItAt H v o) : ∃ ty b, TyX K H v ty ∧ PySem.W.kitOne K ty (.type "tuple") = some b ∧ (b = false → o = .no) ∧ (b = true → ∃ t xs, v = .ref t ∧ H t = some (.tup xs) ∧ (xs.length ≠ 2 → o = .no)) := by
  cases h with
  | two e h1 h2 => exact ⟨_, true, .base (.tup e), kit_ty (show _ = some true by decide +kernel), (fun z => by cases z), fun _ => ⟨_, _, rfl, e, fun n => absurd rfl n⟩⟩
  | tup e n => exact ⟨_, true, .base (.tup e), kit_ty (show _ = some true by decide +kernel), (fun z => by cases z), fun _ => ⟨_, _, rfl, e, fun _ => rfl⟩⟩
  | lst e n => exact ⟨_, false, .base (.lst e), kit_ty (show _ = some false by decide +kernel), (fun _ => rfl), fun z => by cases z⟩
  | non => exact ⟨_, false, .base .non, kit_ty (show _ = some false by decide +kernel), (fun _ => rfl), fun z => by cases z⟩
  | str r => exact ⟨_, false, .base (.str r), kit_ty (show _ = some false by decide +kernel), (fun _ => rfl), fun z => by cases z⟩
theorem ItAt.pair {H : Hp} {t : Addr} {xs : List V} {o : Itm} (h : ItAt H (.ref t) o) (e : H t = some (.tup xs)) (n : xs.length = 2) : ∃ x1 x2 o1 o2, xs = [x1, x2] ∧ o = .two o1 o2 ∧ PtAt H x1 o1 ∧ PtAt H x2 o2 := by
  cases h with
  | two e' h1 h2 =>
    rw [e'] at e
    injection e with e
    injection e with e
    subst e
    exact ⟨_, _, _, _, rfl, rfl, h1, h2⟩
  | tup e' n' =>
    rw [e'] at e
    injection e with e
    injection e with e
    subst e
    exact absurd n n'
  | lst e' n' =>
    rw [e'] at e
    injection e with e
    cases e
abbrev twP (p : Str × Str) : Itm := .two (some p.1) (some p.2)
/-- a paper: a tuple of items, or another thing -/
def Pap (H : Hp) (v : V) (o : Option (List Itm)) : Prop :=
  (∃ (c : Addr) (vs : List V) (its : List Itm), v = .ref c ∧ o = some its ∧ H c = some (.tup vs) ∧ vs.length = its.length ∧ vs.length ≤ 1000 ∧ ∀ (i : Nat) (x : V) (it : Itm), vs[i]? = some x → its[i]? = some it → ItAt H x it) ∨
  (o = none ∧ (v = .non ∨ (∃ s, v = .str s) ∨ ∃ a xs, v = .ref a ∧ H a = some (.lst xs)))
theorem Pap.same {H H' : Hp} (s : Same H H') {v : V} {o : Option (List Itm)} (h : Pap H v o) : Pap H' v o := by
  rcases h with ⟨c, vs, its, e1, e2, e3, e4, e5, e6⟩ | ⟨e1, e2⟩
  · exact .inl ⟨c, vs, its, e1, e2, s _ _ e3, e4, e5, fun i x it a b => (e6 i x it a b).same s⟩
  · refine .inr ⟨e1, ?_⟩
    rcases e2 with e | e | ⟨a, xs, e3, e4⟩
    · exact .inl e
    · exact .inr (.inl e)
    · exact .inr (.inr ⟨a, xs, e3, s _ _ e4⟩)
theorem Pap.kit {K : PySem.W.Frag} {H : Hp} {v : V} {o : Option (List Itm)} (h : Pap H v o) : ∃ ty, TyX K H v ty ∧ PySem.W.kitOne K ty (.type "tuple") = some o.isSome := by
  rcases h with ⟨c, vs, its, rfl, rfl, e, _⟩ | ⟨rfl, rfl | ⟨s, rfl⟩ | ⟨a, xs, rfl, e⟩⟩
  · exact ⟨_, .base (.tup e), kit_ty (show _ = some true by decide +kernel)⟩
  · exact ⟨_, .base .non, kit_ty (show _ = some false by decide +kernel)⟩
  · exact ⟨_, .base (.str s), kit_ty (show _ = some false by decide +kernel)⟩
  · exact ⟨_, .base (.lst e), kit_ty (show _ = some false by decide +kernel)⟩
/-- the pairs that a paper tells -/
structure GoodP (p1 p2 : Parts) (ps : List (Str × Str)) : Prop where
  nd : ps.Nodup
  inn : ∀ ab ∈ ps, ab.1 ∈ p1.ms ∧ ab.2 ∈ p2.ms
/-- the paper holds -/
def Holds (p1 p2 : Parts) (o : Option (List Itm)) : Prop := p1.sg = p2.sg ∧ ∃ ps : List (Str × Str), o = some (ps.map twP) ∧ GoodP p1 p2 ps ∧ (∀ ab ∈ ps, ab.1 ∈ p1.gs → ab.2 ∈ p2.gs) ∧ (∀ ab ∈ ps, ∀ c ∈ p1.sg.cps.toList, (ledL p1 ab.1 c, ledL p2 ab.2 c) ∈ ps) ∧ (firstL p1, firstL p2) ∈ ps
theorem map_tw {ps qs : List (Str × Str)} (h : ps.map twP = qs.map twP) : ps = qs := by
  induction ps generalizing qs with
  | nil => cases qs with
    | nil => rfl
    | cons b t => cases h
  | cons a t ih => cases qs with
    | nil => cases h
    | cons b u =>
      injection h with h1 h2
      injection h1 with h3 h4
      rw [ih h2]
      have e : a = b := Prod.ext (Option.some.inj h3) (Option.some.inj h4)
      rw [e]
/-- what was read of a paper so far -/
def SoFar (p1 p2 : Parts) (its : List Itm) (i : Nat) (ps : List (Str × Str)) : Prop := its.take i = ps.map twP ∧ GoodP p1 p2 ps
theorem SoFar.snoc {p1 p2 : Parts} {its : List Itm} {i : Nat} {ps : List (Str × Str)} (h : SoFar p1 p2 its i ps) {a b : Str} (e : its[i]? = some (.two (some a) (some b))) (ha : a ∈ p1.ms) (hb : b ∈ p2.ms) (n : (a, b) ∉ ps) : SoFar p1 p2 its (i + 1) (ps ++ [(a, b)]) := by
  refine ⟨by rw [List.take_add_one, e, h.1, List.map_append]; rfl, ?_, fun ab m => ?_⟩
  · rw [List.nodup_append]
    refine ⟨h.2.nd, by simp, fun x hx y hy z => ?_⟩
    rw [List.mem_singleton] at hy
    exact n (hy ▸ z ▸ hx)
  · rcases List.mem_append.mp m with m | m
    · exact h.2.inn ab m
    · rw [List.mem_singleton] at m
      subst m
      exact ⟨ha, hb⟩
theorem SoFar.bad {p1 p2 : Parts} {its : List Itm} {i : Nat} {ps : List (Str × Str)} (h : SoFar p1 p2 its i ps) {it : Itm} (e : its[i]? = some it) (n : ∀ a b, it = .two (some a) (some b) → a ∈ p1.ms → b ∈ p2.ms → (a, b) ∉ ps → False) : ¬ ∃ qs, some its = some (qs.map twP) ∧ GoodP p1 p2 qs := by
  rintro ⟨qs, eq, g⟩
  obtain rfl := Option.some.inj eq
  rw [List.getElem?_map] at e
  cases hq : qs[i]? with
  | none => rw [hq] at e; cases e
  | some ab =>
    rw [hq] at e
    have e := (Option.some.inj e).symm
    have ht : qs.take i = ps := map_tw (by rw [← h.1, List.map_take])
    have hm := g.inn ab (List.mem_of_getElem? hq)
    refine n ab.1 ab.2 e hm.1 hm.2 fun z => ?_
    have e2 : qs = qs.take i ++ ab :: qs.drop (i + 1) := by
      have hi := (List.getElem?_eq_some_iff.mp hq)
      obtain ⟨h1, h2⟩ := hi
      rw [← h2, ← List.drop_eq_getElem_cons h1, List.take_append_drop]
    have nd := g.nd
    rw [e2, List.nodup_append] at nd
    exact nd.2.2 (ab.1, ab.2) (by rw [ht]; exact z) ab (by simp) rfl
theorem holds_iff {p1 p2 : Parts} {o : Option (List Itm)} {qs : List (Str × Str)} (hs : p1.sg = p2.sg) (e : o = some (qs.map twP)) (g : GoodP p1 p2 qs) : Holds p1 p2 o ↔ (∀ ab ∈ qs, ab.1 ∈ p1.gs → ab.2 ∈ p2.gs) ∧ (∀ ab ∈ qs, ∀ c ∈ p1.sg.cps.toList, (ledL p1 ab.1 c, ledL p2 ab.2 c) ∈ qs) ∧ (firstL p1, firstL p2) ∈ qs := by
  constructor
  · rintro ⟨_, ps, e2, _, h1, h2, h3⟩
    rw [e] at e2
    obtain rfl := map_tw (Option.some.inj e2)
    exact ⟨h1, h2, h3⟩
  · rintro ⟨h1, h2, h3⟩
    exact ⟨hs, qs, e, g, h1, h2, h3⟩
theorem seen_len (qs : List (Str × Str)) : (seenL qs).length = qs.length := by
  unfold seenL
  rw [List.length_map]
theorem seen_get {qs : List (Str × Str)} {i : Nat} {k : List Key} {v : V} {ab : Str × Str} (h : (seenL qs)[i]? = some (k, v)) (e : qs[i]? = some ab) : k = k2 ab.1 ab.2 := by
  unfold seenL at h
  rw [List.getElem?_map, e] at h
  injection h with h
  injection h with h _
  exact h.symm
theorem unlock {H H7 : Hp} {d : Addr} {od : Obj} {u : HO} (e : H d = some u) (s : Same (upd H d (.frz od u)) H7) : Same H (upd H7 d u) := fun b o eb => by
  by_cases n : b = d
  · subst n
    rw [upd_same]
    rw [e] at eb
    exact eb
  · rw [upd_ne n]
    exact s b o (by rw [upd_ne n]; exact eb)
theorem no_holds {p1 p2 : Parts} {o : Option (List Itm)} (n : ¬ ∃ qs, o = some (qs.map twP) ∧ GoodP p1 p2 qs) : ¬ Holds p1 p2 o := fun ⟨_, qs, e, g, _⟩ => n ⟨qs, e, g⟩
end My
namespace My
open PySem PySem.Spec PyProof.Rows L2 PySem.GX L2H LamX
def setD (ws : List Str) : List (Key × V) := dOf (fun x => (Sum.inr x : Key)) (fun _ => V.bl true) ws
theorem setD_val (ws : List Str) (t : Str) : (valV (setD ws) (Sum.inr t)).isSome = decide (t ∈ ws) := dTrue_val ws t
def spAsSet : Sp := fun vs H Q _ => ∃ (l : Addr) (ws : List Str), vs = [.ref l] ∧ H l = some (.tup (ws.map V.str)) ∧ ws.length ≤ 16000000 ∧ ∀ (D : Addr) (H' : Hp), Same H H' → H' D = some (.dK (setD ws)) → Q (.ref D) H'
def spReadP (C : Addr) : Sp := fun vs H Q _ => ∃ (a1 a2 : Addr) (t1 t2 : Str) (p1 p2 : Parts) (v : V) (o : Option (List Itm)), vs = [.ref a1, .ref a2, v] ∧ RuleAt H C a1 t1 p1 ∧ RuleAt H C a2 t2 p2 ∧ PartsOk p1 ∧ PartsOk p2 ∧ Pap H v o ∧
  ((¬ ∃ qs, o = some (qs.map twP) ∧ GoodP p1 p2 qs) → ∀ H', Same H H' → Q .non H') ∧
  (∀ qs, o = some (qs.map twP) → GoodP p1 p2 qs → qs.length ≤ 1000 → ∀ (D : Addr) (H' : Hp), H D = none → Same H H' → H' D = some (.dT (seenL qs)) → Q (.ref D) H')
section
variable {P : Program} {w : World} {K : PySem.W.Frag} {mg : Str → Option Value} {base : Heap}
theorem scAsSet : FnScope ["words", "word"] ["words"] (defScope sAsSet) := ⟨rfl, rfl, rfl, by decide +kernel, rfl, by decide +kernel, by decide +kernel⟩
theorem ok_asSet {f : Addr} {fd : FuncData} (F : Fun K "as_set" "as_set" sAsSet f fd) : FnOk P w K mg base CX0 1 f fd ["words"] spAsSet := by
  refine F.ok scAsSet (fun vs H Q E h => ?_) (fun cdv A outer s H vs Q E hr h => ?_)
  · obtain ⟨l, ws, rfl, _⟩ := h
    rfl
  · obtain ⟨l, ws, rfl, hl, z1, k⟩ := h
    refine ⟨_, pss_one (ps_ret (pe_dc (own := [("word", 1)]) (g := gName 1) (tt := tYes) rfl scAsSet.nd (pi_tup (pv 0))
          (blkOk_by (N := ["words", "word"]) (sc := defScope sAsSet) (by decide +kernel)) (fun _ _ _ _ _ => pg_name (i := 1) scAsSet.nd rfl (Or.inl rfl)) (fun _ _ _ _ _ => pts_nil) (fun _ _ _ _ _ => pv 1) (fun _ _ _ _ _ => pe_bl))), ?_⟩
    refine ⟨_, rfl, l, rfl, ⟨_, SqT.of hl⟩, fun D hD => ?_⟩
    refine dcG ws (fun x => (Sum.inr x : Key)) (fun _ => V.bl true) (by have := walk_tup (K := K) (a := l) (xs := ws.map V.str); rw [List.length_map] at this; exact this) z1 hD (fun i H x H' h => by rw [h.1]; exact Same.refl _) (fun H' s => SqT.of (s _ _ hl)) (fun i x y H' H'' k1 k0 hx s1 hy k2 => ?_) (fun H1 s1 e1 => ?_)
    · obtain ⟨rfl, hy⟩ := hy
      obtain rfl := map_get hx hy
      exact ⟨rfl, _, rfl, k2 _ (Same.refl _)⟩
    · exact k D H1 s1 e1
abbrev nRdP : List Str := ["one", "other", "paper", "words", "others", "pairs", "pair", "word"]
theorem scRdP : FnScope nRdP ["one", "other", "paper"] (defScope sRdPairs) := ⟨rfl, rfl, rfl, by decide +kernel, rfl, by decide +kernel, by decide +kernel⟩
theorem ok_readP {f C : Addr} {fd : FuncData} (F : Fun K "read_pairs" "read_pairs" sRdPairs f fd) (T : RuC K C) (hAs : Hv P w K mg base 1 "as_set" ["words"] spAsSet) (pM : PrF P w K mg base C "moods" "words") (hIs : mg "isinstance" = none) (hSt : mg "str" = none) (hTu : mg "tuple" = none) (hL : mg "len" = none) (hA : mg "all" = none) :
    FnOk P w K mg base CX0 3 f fd ["one", "other", "paper"] (spReadP C) := by
  obtain ⟨pp, gp, fdp, PP, GP, bP⟩ := pM
  refine F.ok scRdP (fun vs H Q E h => ?_) (fun cdv A outer s H vs Q E hr h => ?_)
  · obtain ⟨a1, a2, t1, t2, p1, p2, v, o, rfl, _⟩ := h
    rfl
  · obtain ⟨a1, a2, t1, t2, p1, p2, v, o, rfl, hA1, hA2, ok1, ok2, hP, kN, kY⟩ := h
    have hu := hu_of hr
    have hr1 : Room 1 (A.deeper (envOfC "read_pairs" (defScope sRdPairs) s.heap.objs.size f cdv)) := hr.mono (by decide)
    have hr2 : Room 2 (A.deeper (envOfC "read_pairs" (defScope sRdPairs) s.heap.objs.size f cdv)) := hr.mono (by decide)
    refine ⟨_, pss_cons (ps_par (i := 3) (j := 4) rfl scRdP.nd rfl rfl (by decide) rfl rfl (pa_cons (pe_cl hAs hr1 rfl pass0 (pa_cons (pe_prop (pv 0) T.cl PP GP hr2 bP .nil pass0 (by rfl)) pa_nil)) (pa_cons (pe_cl hAs hr1 rfl pass0 (pa_cons (pe_prop (pv 1) T.cl PP GP hr2 bP .nil pass0 (by rfl)) pa_nil)) pa_nil)) rfl)
      (pss_cons (ps_if (pt_not (pt_val (pe_callB call_isi (by rfl) hIs (by decide +kernel) (pa_cons (pv 2) (pa_cons (pe_bltn (v := .ty "tuple") (by rfl) hTu (by decide +kernel) rfl) pa_nil))))) (pss_one (ps_ret pe_non)) pss_nil)
      (pss_cons (ps_set (i := 5) scRdP.nd rfl (Or.inl rfl) pe_dnewT)
      (pss_cons (ps_for PassesOwn.never rfl (pi_tup (pv 2)) (pg_name (i := 6) scRdP.nd rfl (Or.inl rfl))
        (pss_cons (ps_if (pt_not (PW.pt (pw_and (pt_val (pe_callB call_isi (by rfl) hIs (by decide +kernel) (pa_cons (pv 6) (pa_cons (pe_bltn (v := .ty "tuple") (by rfl) hTu (by decide +kernel) rfl) pa_nil)))) (pw_and (pt_cmpR op_eq (pe_callB call_len_seq (by rfl) hL PySem.boot_len (pa_cons (pv 6) pa_nil)) pe_int (nomark _)) (pw_and1 (pt_val (pe_callB (cr_all rfl) (by rfl) hA (by decide +kernel) (pa_cons (pe_lc (own := [("word", 7)]) (g := gName 7) (tt := tYes) rfl scRdP.nd (pi_tup (pv 6)) (blkOk_by (N := nRdP) (sc := defScope sRdPairs) (by decide +kernel)) (fun _ _ _ _ _ => pg_name (i := 7) scRdP.nd rfl (Or.inl rfl)) (fun _ _ _ _ _ => pts_nil) (fun _ _ _ _ _ => pe_callB (call_isiK (K := K) rfl) (by rfl) hIs (by decide +kernel) (pa_cons (pv 7) (pa_cons (pe_bltn (v := .ty "str") (by rfl) hSt (by decide +kernel) rfl) pa_nil)))) pa_nil))))))))
          (pss_one (ps_ret pe_non)) pss_nil)
        (pss_cons (ps_if (PW.pt (pw_or (pt_cmp (pc_dnotin hu (pe_ix ix_tup (pv 6) pe_int (fun _ _ => rfl)) (pv 3))) (pw_or (pt_cmp (pc_dnotin hu (pe_ix ix_tup (pv 6) pe_int (fun _ _ => rfl)) (pv 4))) (pw_or1 (pt_cmp (pc_din hu (pv 6) (pv 5))))))) (pss_one (ps_ret pe_non)) pss_nil)
        (pss_one (ps_dput hu (pv 5) (pv 6) pe_bl rfl)))))
      (pss_one (ps_ret (pv 5)))))), ?_⟩
    obtain ⟨dx1, M1, G1, D1, e1, em1, _⟩ := id hA1
    obtain ⟨dx2, M2, G2, D2, e2, em2, _⟩ := id hA2
    have zm : ∀ p : Parts, PartsOk p → p.ms.length ≤ 16000000 := fun p ok => by
      have := ok.mds
      unfold areMoodsL at this
      simp only [Bool.and_eq_true, decide_eq_true_eq] at this
      omega
    refine ⟨_, rfl, a1, dx1, _, rfl, e1, a1, dx1, _, .ref M1, rfl, e1, rfl, M1, p1.ms, rfl, em1, zm _ ok1, fun W1 H1 s1 w1 => ?_⟩
    refine ⟨_, rfl, a2, dx2, _, rfl, s1 _ _ e2, a2, dx2, _, .ref M2, rfl, s1 _ _ e2, rfl, M2, p2.ms, rfl, s1 _ _ em2, zm _ ok2, fun W2 H2 s2 w2 => ⟨_, _, rfl, ?_⟩⟩
    have w1 := s2 _ _ w1
    have sA := s1.trans s2
    have hP := hP.same sA
    clear s1 s2
    obtain ⟨ty, hty, kty⟩ := hP.kit (K := K)
    refine ⟨_, rfl, v, .ty "tuple", ty, .type "tuple", o.isSome, rfl, .ty _, hty, kty, _, rfl, ?_⟩
    rcases hP with ⟨c, vs, its, rfl, rfl, ec, el, e1000, hit⟩ | ⟨rfl, _⟩
    rotate_left
    · exact iteT (kN (fun ⟨qs, z, _⟩ => by cases z) _ sA)
    refine iteF ?_
    refine fun d hd => ?_
    have sB := sA.trans (same_new (o := .dT []) hd)
    have ec := keep1 (o := .dT []) ec hd
    have w1 := keep1 (o := .dT []) w1 hd
    have w2 := keep1 (o := .dT []) w2 hd
    have hit : ∀ (i : Nat) (x : V) (it : Itm), vs[i]? = some x → its[i]? = some it → ItAt (upd H2 d (.dT [])) x it := fun i x it a b => (hit i x it a b).same (same_new hd)
    have ed := upd_same (a := d) (H := H2) (o := .dT [])
    have hd0 : H d = none := by
      cases h0 : H d with
      | none => rfl
      | some o => have := sA _ _ h0; rw [hd] at this; cases this
    have fd' : ∀ b o, H b = some o → b ≠ d := fun b o e => ne_of_none (sA _ _ e) hd
    generalize upd H2 d (.dT []) = H3 at sB ec w1 w2 hit ed ⊢
    have hd3 := ed
    clear sA hd hty kty
    refine ⟨_, rfl, c, rfl, ⟨_, SqT.of ec⟩, ?_⟩
    refine for_it (walk_tup (K := K) (a := c) (xs := vs)) (fun i σ H' => ∃ (v6 v7 : Option V) (ps : List (Str × Str)), σ = [some (.ref a1), some (.ref a2), some (.ref c), some (.ref W1), some (.ref W2), some (.ref d), v6, v7] ∧ (∀ b o, b ≠ d → H3 b = some o → H' b = some o) ∧ H' d = some (.dT (seenL ps)) ∧ SoFar p1 p2 its i ps)
      ⟨none, none, [], rfl, fun _ _ _ e => e, ed, ⟨rfl, .nil, fun _ m => by cases m⟩⟩ (fun i σ H' _ h => ?_) (fun i y σ H' H'' hi h hy => ?_) (fun σ H5 h => ?_)
    · obtain ⟨_, _, _, _, st, _⟩ := h
      exact SqT.of (st _ _ (ne_of ec ed (by intro z; cases z)) ec)
    · obtain ⟨rfl, hy⟩ := hy
      obtain ⟨v6, v7, ps, rfl, st, ed, sf⟩ := h
      have kt : KsT H3 H'' := fun b o n e => st b o (fun z => by rw [z, hd3] at e; exact n _ (Option.some.inj e).symm) e
      have fin : Same H H'' := fun b o e => st b o (fd' b o e) (sB b o e)
      have hli : i < its.length := by rw [← el]; exact hi
      have hti : its[i]? = some its[i] := List.getElem?_eq_getElem hli
      have hI := (hit i y _ hy hti).keep kt
      generalize its[i] = it at hI hti
      have w1 := kt _ _ (by intro _ z; cases z) w1
      have w2 := kt _ _ (by intro _ z; cases z) w2
      obtain ⟨ty, b, hty, kty, kf, ktr⟩ := hI.kit (K := K)
      refine ⟨_, rfl, y, .ty "tuple", ty, .type "tuple", b, rfl, .ty _, hty, kty, _, rfl, ?_⟩
      cases b with
      | false => exact iteF (iteT (kN (sf.bad hti fun a b e => by rw [kf rfl] at e; cases e) _ fin))
      | true =>
        refine iteT ?_
        obtain ⟨t, xs, rfl, et, kno⟩ := ktr rfl
        refine ⟨_, rfl, t, _, rfl, .inr (SqT.of et), rfl, _, rfl, ite2 (fun c2 => ?_) (fun c2 => ?_)⟩
        rotate_left
        · have n2 : xs.length ≠ 2 := fun z => c2 (by rw [z]; rfl)
          exact iteT (kN (sf.bad hti fun a b e => by rw [kno n2] at e; cases e) _ fin)
        have n2 : xs.length = 2 := by
          have := of_decide_eq_true c2
          injection this with this
          omega
        obtain ⟨x1, x2, o1, o2, rfl, rfl, q1, q2⟩ := hI.pair et n2
        refine ⟨_, rfl, t, rfl, ⟨_, SqT.of et⟩, fun D hD => ?_⟩
        have rl : ∀ m ∈ [(x1, o1), (x2, o2)], PtAt H'' m.1 m.2 := fun m hm => by
          simp only [List.mem_cons, List.not_mem_nil, or_false] at hm
          rcases hm with rfl | rfl
          · exact q1
          · exact q2
        refine lcG [(x1, o1), (x2, o2)] (fun m : V × Option Str => some (V.bl m.2.isSome)) (by exact walk_tup (xs := [(x1, o1), (x2, o2)].map fun m : V × Option Str => m.1)) (by show 2 ≤ 16000000; decide) hD (fun i H x H' h => by rw [h.1]; exact Same.refl _) (fun H' s' => SqT.of (s' _ _ et)) (fun i m z H4 H5 k1 hm sj hz k2 => ?_) (fun H7 s7 e7 => ?_)
        · obtain ⟨rfl, hz⟩ := hz
          have ez := map_get hm hz
          subst ez
          obtain ⟨ty, hty, kty⟩ := ((rl m (List.mem_of_getElem? hm)).same sj).kit (K := K)
          exact ⟨rfl, _, rfl, m.1, .ty "str", ty, .type "str", m.2.isSome, rfl, .ty _, hty, kty, k2 _ (Same.refl _)⟩
        have e7 : H7 D = some (.lst ([o1.isSome, o2.isSome].map V.bl)) := e7
        have fin := fin.trans s7
        have ed := s7 _ _ ed
        have et := s7 _ _ et
        have w1 := s7 _ _ w1
        have w2 := s7 _ _ w2
        have st' : ∀ b o, b ≠ d → H3 b = some o → H7 b = some o := fun b o n e => s7 _ _ (st b o n e)
        refine ⟨D, [o1.isSome, o2.isSome], rfl, SqL.of e7, _, rfl, ?_⟩
        cases o1 with
        | none => exact iteT (kN (sf.bad hti fun a b e => by injection e with e _; cases e) _ fin)
        | some a =>
        cases o2 with
        | none => exact iteT (kN (sf.bad hti fun a b e => by injection e with _ e; cases e) _ fin)
        | some b =>
        obtain rfl := q1.tx_of
        obtain rfl := q2.tx_of
        refine iteF ?_
        refine ⟨_, rfl, t, _, _, V.str a, rfl, rfl, SqT.of et, atI_nat (j := 0) rfl, _, rfl, W1, _, rfl, DGet.k (k := Sum.inr a) w1, _, rfl, ?_⟩
        rw [setD_val]
        by_cases ma : a ∈ p1.ms
        rotate_left
        · rw [decide_eq_false ma]
          exact iteT (kN (sf.bad hti fun a' b' e h1 _ _ => by injection e with e _; injection e with e; exact ma (e ▸ h1)) _ fin)
        rw [decide_eq_true ma]
        refine iteF ?_
        refine ⟨_, rfl, t, _, _, V.str b, rfl, rfl, SqT.of et, atI_nat (j := 1) rfl, _, rfl, W2, _, rfl, DGet.k (k := Sum.inr b) w2, _, rfl, ?_⟩
        rw [setD_val]
        by_cases mb : b ∈ p2.ms
        rotate_left
        · rw [decide_eq_false mb]
          exact iteT (kN (sf.bad hti fun a' b' e _ h2 _ => by injection e with _ e; injection e with e; exact mb (e ▸ h2)) _ fin)
        rw [decide_eq_true mb]
        refine iteF ?_
        refine ⟨_, rfl, _, rfl, d, _, rfl, DGet.t (k := k2 a b) ed et, _, rfl, ?_⟩
        rw [seen_val]
        by_cases mp : (a, b) ∈ ps
        · rw [decide_eq_true mp]
          exact iteT (kN (sf.bad hti fun a' b' e _ _ n => by injection e with e1 e2; injection e1 with e1; injection e2 with e2; exact n (e1 ▸ e2 ▸ mp)) _ fin)
        rw [decide_eq_false mp]
        refine iteF ?_
        have few : ps.length ≤ 1000 := by
          have := congrArg List.length sf.1
          rw [List.length_take, List.length_map] at this
          omega
        refine ⟨_, rfl, _, rfl, d, upd H7 d (.dT (seenL (ps ++ [(a, b)]))), rfl, ?_, ?_⟩
        · rw [← seen_snoc mp]
          refine DPut.t (k := k2 a b) ed et ?_
          unfold seenL
          rw [List.length_map, sizeLine_eq]
          omega
        · exact ⟨_, _, ps ++ [(a, b)], rfl, fun b o n e => by rw [upd_ne n]; exact st' b o n e, upd_same, sf.snoc hti ma mb mp⟩
    · obtain ⟨v6, v7, ps, rfl, st, ed, sf⟩ := h
      have ei : its = ps.map twP := by
        have := sf.1
        rw [el, List.take_length] at this
        exact this
      exact ⟨_, rfl, kY ps (by rw [ei]) sf.2 (by rw [ei, List.length_map] at el; omega) d H5 hd0 (fun b o e => st b o (fd' b o e) (sB b o e)) ed⟩
end
end My
namespace L2
open PySem PySem.Spec PyProof.Rows PySem.GX
section
variable {α β : Type} {J : It} {G : Hp → Prop} {Y : Nat → Hp → V → Hp → Prop} {g g1 : TG} {tt tt1 : TT} {wi1 : TI} {te : TE} {vs vs1 : List Nat} {σ : St} {H1 : Hp} {D : Addr} {Qd : Hp → Prop}
theorem fm_len (xs : List α) (ys : List β) (f : α → β → V) : (xs.flatMap fun a => ys.map (f a)).length = xs.length * ys.length := by
  induction xs with
  | nil => simp
  | cons a t ih => rw [List.flatMap_cons, List.length_append, ih, List.length_map, List.length_cons, Nat.succ_mul, Nat.add_comm]
def NxL (H' : Hp) (D : Addr) (l : List V) : Hp → Prop := fun H6 => (∀ b o, b ≠ D → H' b = some o → H6 b = some o) ∧ H6 D = some (.lst l)
/-- [e for x in .. for y in ..], the second walk always over the same -/
theorem lc2G (xs : List α) (ys : List β) (f : α → β → V) (w : Walk J xs.length G Y) (hz : xs.length * ys.length ≤ 16000000) (hD : H1 D = none) (hY : ∀ i H x H', Y i H x H' → Same H H') (hG : ∀ H', Same H1 H' → G H')
    (turn : ∀ (i : Nat) (a : α) (x : V) (H' H'' : Hp) (Nx : Hp → Prop) (go : It → Hp → St → Prop), xs[i]? = some a → Same H1 H' → Y i H' x H'' →
      (∀ (J1 : It) (H4 : Hp) (σ2 : St) (G1 : Hp → Prop) (Y1 : Nat → Hp → V → Hp → Prop), Same H'' H4 → Walk J1 ys.length G1 Y1 → (∀ i H x H', Y1 i H x H' → Same H H') → (∀ H', Same H1 H' → G1 H') →
        (∀ (j : Nat) (b : β) (y : V) (H5 H6 : Hp) (k : Option V → Hp → Prop), ys[j]? = some b → Same H1 H5 → Y1 j H5 y H6 → (∀ H9, Same H6 H9 → k (some (f a b)) H9) →
          g1 y (wipe σ2 vs1) H6 fun σ3 H7 => wipe σ3 vs1 = wipe σ2 vs1 ∧ tt1 σ3 H7 fun c H8 => if c = true then te σ3 H8 fun v H9 => k (some v) H9 else k none H8) → go J1 H4 σ2) →
      g x (wipe σ vs) H'' fun σ2 H2 => wipe σ2 vs = wipe σ vs ∧ tt σ2 H2 fun b H3 => if b = true then wi1 σ2 H3 fun J1 H4 => go J1 H4 σ2 else Nx H3)
    (hd : ∀ H', Same H1 H' → H' D = some (.lst (xs.flatMap fun a => ys.map (f a))) → Qd H') :
    ∃ W : Nat → Nat → Hp → Prop, (∃ m, W 0 m (upd H1 D (.lst []))) ∧ ∀ i m H, W i m H →
      (J.stop i H ∧ Qd H) ∨ (J.go i H ∧ ∃ Nx : Hp → Prop, (∀ H', Nx H' → ∃ m', m' < m ∧ W (i + 1) m' H') ∧ ∀ x H', J.yld i H x H' → g x (wipe σ vs) H' fun σ2 H2 => wipe σ2 vs = wipe σ vs ∧ tt σ2 H2 fun b H3 =>
        if b = true then wi1 σ2 H3 fun J1 H4 => ∃ W1 : Nat → Nat → Hp → Prop, (∃ m, W1 0 m H4) ∧ ∀ j k H, W1 j k H →
          (J1.stop j H ∧ Nx H) ∨ (J1.go j H ∧ ∃ Nx1 : Hp → Prop, (∀ H', Nx1 H' → ∃ k', k' < k ∧ W1 (j + 1) k' H') ∧ ∀ x H', J1.yld j H x H' → g1 x (wipe σ2 vs1) H' fun σ3 H5 => wipe σ3 vs1 = wipe σ2 vs1 ∧ tt1 σ3 H5 fun b H6 =>
            if b = true then te σ3 H6 fun y H7 => ∃ acc, H7 D = some (.lst acc) ∧ acc.length < sizeLine ∧ Nx1 (upd H7 D (.lst (acc ++ [y]))) else Nx1 H6)
        else Nx H3) := by
  refine ⟨fun i m H => i ≤ xs.length ∧ m = xs.length - i ∧ Same H1 H ∧ H D = some (.lst ((xs.take i).flatMap fun a => ys.map (f a))), ⟨_, Nat.zero_le _, rfl, same_new hD, by rw [upd_same]; rfl⟩, fun i m H ⟨hi, hm, sH, eD⟩ => ?_⟩
  by_cases h : i < xs.length
  rotate_left
  · have e : i = xs.length := by omega
    subst e
    rw [List.take_length] at eD
    exact .inl ⟨w.stops H (hG H sH), hd H sH eD⟩
  have ei : xs[i]? = some xs[i] := List.getElem?_eq_getElem h
  generalize xs[i] = a at ei
  refine .inr ⟨w.goes i H h (hG H sH), fun H' => Same H1 H' ∧ H' D = some (.lst ((xs.take (i + 1)).flatMap fun a => ys.map (f a))), fun H' ⟨s, e⟩ => ⟨_, (by omega : xs.length - (i + 1) < m), by omega, rfl, s, e⟩, fun x H' hy => ?_⟩
  have hy := w.yields i H x H' h (hG H sH) hy
  have sy := hY _ _ _ _ hy
  refine turn i a x H H' _ (fun J1 H4 σ2 => ∃ W1 : Nat → Nat → Hp → Prop, _) ei sH hy fun J1 H4 σ2 G1 Y1 s4 w1 hY1 hG1 t1 => ?_
  refine ⟨fun j k H => j ≤ ys.length ∧ k = ys.length - j ∧ (∀ b o, b ≠ D → H' b = some o → H b = some o) ∧ H D = some (.lst (((xs.take i).flatMap fun a => ys.map (f a)) ++ (ys.take j).map (f a))), ⟨_, Nat.zero_le _, rfl, fun b o _ e => s4 b o e, ?_⟩, fun j k H5 ⟨hj, hk, s5, e5⟩ => ?_⟩
  · rw [List.take_zero, List.map_nil, List.append_nil]
    exact s4 _ _ (sy _ _ eD)
  have s1 : Same H1 H5 := fun b o e => s5 b o (ne_of_none e hD) (sy _ _ (sH _ _ e))
  by_cases h' : j < ys.length
  rotate_left
  · have e : j = ys.length := by omega
    subst e
    refine .inl ⟨w1.stops H5 (hG1 H5 s1), s1, ?_⟩
    rw [e5, List.take_length, List.take_add_one, ei, List.flatMap_append]
    simp
  have ej : ys[j]? = some ys[j] := List.getElem?_eq_getElem h'
  generalize ys[j] = b at ej
  refine .inr ⟨w1.goes j H5 h' (hG1 H5 s1), NxL H' D (((xs.take i).flatMap fun a => ys.map (f a)) ++ (ys.take (j + 1)).map (f a)), fun H6 ⟨s, e⟩ => ⟨_, (by omega : ys.length - (j + 1) < k), by omega, rfl, s, e⟩, fun y H6 hy1 => ?_⟩
  have hy1 := w1.yields j H5 y H6 h' (hG1 H5 s1) hy1
  have s6 := hY1 _ _ _ _ hy1
  refine t1 j b y H5 H6 (fun o H9 => match o with
    | some v => ∃ acc, H9 D = some (.lst acc) ∧ acc.length < sizeLine ∧ NxL H' D (((xs.take i).flatMap fun a => ys.map (f a)) ++ (ys.take (j + 1)).map (f a)) (upd H9 D (.lst (acc ++ [v])))
    | none => NxL H' D (((xs.take i).flatMap fun a => ys.map (f a)) ++ (ys.take (j + 1)).map (f a)) H9) ej s1 hy1 fun H9 s9 => ?_
  have e9 := s9 _ _ (s6 _ _ e5)
  refine ⟨_, e9, ?_, fun c o n e => ?_, ?_⟩
  · rw [List.length_append, fm_len, List.length_map, List.length_take, List.length_take, sizeLine_eq]
    have h1 : min i xs.length = i := by omega
    have h2 : min j ys.length = j := by omega
    rw [h1, h2]
    have h3 : (i + 1) * ys.length ≤ xs.length * ys.length := Nat.mul_le_mul_right _ h
    rw [Nat.succ_mul] at h3
    omega
  · rw [upd_ne n]
    exact s9 _ _ (s6 _ _ (s5 c o n e))
  · rw [upd_same, List.take_add_one, ej, List.map_append, ← List.append_assoc]
    rfl
end
end L2
namespace My
open PySem PySem.Spec PyProof.Rows L2 PySem.GX L2H LamX
theorem dec_str (a b : Str) : decide (V.str a = V.str b) = decide (a = b) := by
  rw [Bool.eq_iff_iff, decide_eq_true_eq, decide_eq_true_eq]
  exact ⟨fun h => by injection h, fun h => by rw [h]⟩
def spTwoR (C : Addr) : Sp := fun vs H Q _ => ∃ (t1 t2 : Str) (p1 p2 : Parts), vs = [.str t1, .str t2] ∧ t1.length ≤ 1000000 ∧ PyData.strOk t1 = true ∧ parseL t1 = some p1 ∧ t2.length ≤ 1000000 ∧ PyData.strOk t2 = true ∧ parseL t2 = some p2 ∧
  (p1.sg ≠ p2.sg → ∀ H', Same H H' → Q .non H') ∧ (p1.sg = p2.sg → ∀ (T a1 a2 : Addr) (H' : Hp), Same H H' → H' T = some (.tup [.ref a1, .ref a2]) → RuleAt H' C a1 t1 p1 → RuleAt H' C a2 t2 p2 → Q (.ref T) H')
section
variable {P : Program} {w : World} {K : PySem.W.Frag} {mg : Str → Option Value} {base : Heap}
theorem scTwoR : FnScope ["one", "other", "rules"] ["one", "other"] (defScope sTwoR) := ⟨rfl, rfl, rfl, by decide +kernel, rfl, by decide +kernel, by decide +kernel⟩
theorem ok_twoR {f C : Addr} {fd : FuncData} (F : Fun K "two_rules" "two_rules" sTwoR f fd) (T : RuC K C) (hRo : Hv P w K mg base 7 "rule_of" ["text"] (spRuleOf C)) (pS : PrF P w K mg base C "signs" "letters") : FnOk P w K mg base CX0 8 f fd ["one", "other"] (spTwoR C) := by
  obtain ⟨pp, gp, fdp, PP, GP, bP⟩ := pS
  refine F.ok scTwoR (fun vs H Q E h => ?_) (fun cdv A outer s H vs Q E hr h => ?_)
  · obtain ⟨t1, t2, p1, p2, rfl, _⟩ := h
    rfl
  · obtain ⟨t1, t2, p1, p2, rfl, zt1, ot1, pt1, zt2, ot2, pt2, k1, k2⟩ := h
    have hr2 : Room 2 (A.deeper (envOfC "two_rules" (defScope sTwoR) s.heap.objs.size f cdv)) := hr.mono (by decide)
    refine ⟨_, pss_cons (ps_set (i := 2) scTwoR.nd rfl (Or.inl rfl) (pe_tup (pa_cons (pe_cl hRo hr rfl pass0 (pa_cons (pv 0) pa_nil)) (pa_cons (pe_cl hRo hr rfl pass0 (pa_cons (pv 1) pa_nil)) pa_nil))))
      (pss_cons (ps_if (PW.pt (pw_or (pt_cmpR op_isN (pe_ix ix_tup (pv 2) pe_int (fun _ _ => rfl)) pe_non (nomark _)) (pw_or (pt_cmpR op_isN (pe_ix ix_tup (pv 2) pe_int (fun _ _ => rfl)) pe_non (nomark _)) (pw_or1 (pt_cmpR op_ne (pe_prop (pe_ix ix_tup (pv 2) pe_int (fun _ _ => rfl)) T.cl PP GP hr2 bP .nil pass0 (by rfl)) (pe_prop (pe_ix ix_tup (pv 2) pe_int (fun _ _ => rfl)) T.cl PP GP hr2 bP .nil pass0 (by rfl)) (nomark _)))))) (pss_one (ps_ret pe_non)) pss_nil)
      (pss_one (ps_ret (pv 2)))), ?_⟩
    refine ⟨_, rfl, t1, p1, rfl, zt1, ot1, pt1, fun a1 H1 s1 hA1 => ⟨_, rfl, t2, p2, rfl, zt2, ot2, pt2, fun a2 H2 s2 hA2 => ⟨by show 2 ≤ sizeLine; decide, fun Tt hT => ?_⟩⟩⟩
    have sA := (s1.trans s2).trans (same_new (o := .tup [.ref a1, .ref a2]) hT)
    have hA1 := (hA1.same s2).same (same_new (o := .tup [.ref a1, .ref a2]) hT)
    have hA2 := hA2.same (same_new (o := .tup [.ref a1, .ref a2]) hT)
    have eT := upd_same (a := Tt) (H := H2) (o := .tup [.ref a1, .ref a2])
    generalize upd H2 Tt (.tup [.ref a1, .ref a2]) = H3 at sA hA1 hA2 eT ⊢
    obtain ⟨dx1, M1, G1, D1, e1, _⟩ := id hA1
    obtain ⟨dx2, M2, G2, D2, e2, _⟩ := id hA2
    refine ⟨_, rfl, Tt, _, _, V.ref a1, rfl, rfl, SqT.of eT, atI_nat (j := 0) rfl, rfl, _, rfl, iteF ?_⟩
    refine ⟨_, rfl, Tt, _, _, V.ref a2, rfl, rfl, SqT.of eT, atI_nat (j := 1) rfl, rfl, _, rfl, iteF ?_⟩
    refine ⟨_, rfl, Tt, _, _, V.ref a1, rfl, rfl, SqT.of eT, atI_nat (j := 0) rfl, a1, dx1, _, rfl, e1, a1, dx1, _, .str p1.sg, rfl, e1, rfl, _, rfl, Tt, _, _, V.ref a2, rfl, rfl, SqT.of eT, atI_nat (j := 1) rfl, a2, dx2, _, rfl, e2, a2, dx2, _, .str p2.sg, rfl, e2, rfl, rfl, _, rfl, ?_⟩
    rw [dec_str]
    by_cases hsg : p1.sg = p2.sg
    · rw [decide_eq_true hsg]
      exact iteF ⟨_, rfl, k2 hsg Tt a1 a2 H3 sA eT hA1 hA2⟩
    · rw [decide_eq_false hsg]
      exact iteT (k1 hsg H3 sA)
end
end My
namespace My
open PySem PySem.Spec PyProof.Rows L2 PySem.GX L2H LamX
def spWithin (C : Addr) : Sp := fun vs H Q _ => ∃ (t1 t2 : Str) (p1 p2 : Parts) (v : V) (o : Option (List Itm)), vs = [.str t1, .str t2, v] ∧ t1.length ≤ 1000000 ∧ PyData.strOk t1 = true ∧ parseL t1 = some p1 ∧ t2.length ≤ 1000000 ∧ PyData.strOk t2 = true ∧ parseL t2 = some p2 ∧ Pap H v o ∧
  ∀ (b : Bool) (H' : Hp), Same H H' → (b = true ↔ Holds p1 p2 o) → Q (.bl b) H'
theorem walk_seen {d : Addr} {od : Obj} {qs : List (Str × Str)} : Walk (Itkt d od (seenL qs)) qs.length (fun H => H d = some (.frz od (.dT (seenL qs)))) (fun i H x H' => H' = H ∧ ∃ (ab : Str × Str) (q : Addr), qs[i]? = some ab ∧ x = .ref q ∧ H q = some (.tup [.str ab.1, .str ab.2])) := by
  have w := walk_keysT (d := d) (o := od) (kvs := seenL qs)
  rw [seen_len] at w
  refine ⟨w.goes, w.stops, fun i H x H' hi hG hy => ?_⟩
  obtain ⟨rfl, k, v, q, e1, e2, e3⟩ := w.yields i H x H' hi hG hy
  have hm : qs[i]? = some qs[i] := List.getElem?_eq_getElem hi
  obtain rfl := seen_get e1 hm
  exact ⟨rfl, _, q, hm, e2, e3⟩
/-- all goals of the pairs are pairs -/
def tAllW (C : Addr) : TE := fun σ H Q => ∃ (x0 x1 x2 x3 x7 x8 x9 x10 x11 : Option V) (a1 a2 d dx1 M1 G1 D1 dx2 M2 G2 D2 : Addr) (t1 t2 : Str) (p1 p2 : Parts) (qs : List (Str × Str)), σ = [x0, x1, x2, x3, some (.ref a1), some (.ref a2), some (.ref d), x7, x8, x9, x10, x11] ∧
  H a1 = some (.ins C dx1 (rFs t1 p1 M1 G1 D1)) ∧ H D1 = some (.dT (goalsD p1.rs)) ∧ H a2 = some (.ins C dx2 (rFs t2 p2 M2 G2 D2)) ∧ H D2 = some (.dT (goalsD p2.rs)) ∧ D1 ≠ d ∧ D2 ≠ d ∧ H d = some (.dT (seenL qs)) ∧ PartsOk p1 ∧ PartsOk p2 ∧ GoodP p1 p2 qs ∧ qs.length ≤ 1000 ∧ p1.sg = p2.sg ∧
  ∀ (b : Bool) (H' : Hp), Same H H' → (b = true ↔ ∀ ab ∈ qs, ∀ c ∈ p1.sg.cps.toList, (ledL p1 ab.1 c, ledL p2 ab.2 c) ∈ qs) → Q (.bl b) H'
section
variable {P : Program} {w : World} {K : PySem.W.Frag} {mg : Str → Option Value} {base : Heap}
abbrev nWi : List Str := ["one", "other", "paper", "rules", "left", "right", "pairs", "good", "others", "p", "q", "sign"]
theorem scWi : FnScope nWi ["one", "other", "paper"] (defScope sWithin) := ⟨rfl, rfl, rfl, by decide +kernel, rfl, by decide +kernel, by decide +kernel⟩
theorem ok_within {f C : Addr} {fd : FuncData} (F : Fun K "shows_within" "shows_within" sWithin f fd) (T : RuC K C) (hTw : Hv P w K mg base 8 "two_rules" ["one", "other"] (spTwoR C)) (hRp : Hv P w K mg base 3 "read_pairs" ["one", "other", "paper"] (spReadP C)) (hAs : Hv P w K mg base 1 "as_set" ["words"] spAsSet)
    (pM : PrF P w K mg base C "moods" "words") (pG : PrF P w K mg base C "good" "chosen") (pS : PrF P w K mg base C "signs" "letters") (hAny : mg "any" = none) (hAll : mg "all" = none) : FnOk P w K mg base CX0 9 f fd ["one", "other", "paper"] (spWithin C) := by
  obtain ⟨ppM, gpM, fdM, PM, GM, bM⟩ := pM
  obtain ⟨ppG, gpG, fdG, PG', GG, bG⟩ := pG
  obtain ⟨ppS, gpS, fdS, PS', GS, bS⟩ := pS
  refine F.ok scWi (fun vs H Q E h => ?_) (fun cdv A outer s H vs Q E hr h => ?_)
  · obtain ⟨t1, t2, p1, p2, v, o, rfl, _⟩ := h
    rfl
  · obtain ⟨t1, t2, p1, p2, v, o, rfl, zt1, ot1, pt1, zt2, ot2, pt2, hP, kk⟩ := h
    have hu := hu_of hr
    have hr1 : Room 1 (A.deeper (envOfC "shows_within" (defScope sWithin) s.heap.objs.size f cdv)) := hr.mono (by decide)
    have hr2 : Room 2 (A.deeper (envOfC "shows_within" (defScope sWithin) s.heap.objs.size f cdv)) := hr.mono (by decide)
    have hr3 : Room 3 (A.deeper (envOfC "shows_within" (defScope sWithin) s.heap.objs.size f cdv)) := hr.mono (by decide)
    refine ⟨_, pss_cons (ps_set (i := 3) scWi.nd rfl (Or.inl rfl) (pe_cl hTw hr rfl pass0 (pa_cons (pv 0) (pa_cons (pv 1) pa_nil))))
      (pss_cons (ps_if (pt_cmpR op_isN (pv 3) pe_non (nomark _)) (pss_one (ps_ret pe_bl)) pss_nil)
      (pss_cons (ps_asg (pv 3) (pg_tup rfl (pgs_cons (pg_name (i := 4) scWi.nd rfl (Or.inr rfl)) (pgs_cons (pg_name (i := 5) scWi.nd rfl (Or.inr rfl)) pgs_nil))))
      (pss_cons (ps_set (i := 6) scWi.nd rfl (Or.inr rfl) (pe_cl hRp hr3 rfl pass0 (pa_cons (pv 4) (pa_cons (pv 5) (pa_cons (pv 2) pa_nil)))))
      (pss_cons (ps_if (PW.pt (pw_or (pt_cmpR op_isN (pv 6) pe_non (nomark _)) (pw_or1 (pt_cmp (pc_dnotin hu (pe_tup (pa_cons (pe_ix ix_tup (pe_prop (pv 4) T.cl PM GM hr2 bM .nil pass0 (by rfl)) pe_int (fun _ _ => rfl)) (pa_cons (pe_ix ix_tup (pe_prop (pv 5) T.cl PM GM hr2 bM .nil pass0 (by rfl)) pe_int (fun _ _ => rfl)) pa_nil))) (pv 6)))))) (pss_one (ps_ret pe_bl)) pss_nil)
      (pss_cons (ps_asg (pe_tup (pa_cons (pe_cl hAs hr1 rfl pass0 (pa_cons (pe_prop (pv 4) T.cl PG' GG hr2 bG .nil pass0 (by rfl)) pa_nil)) (pa_cons (pe_cl hAs hr1 rfl pass0 (pa_cons (pe_prop (pv 5) T.cl PG' GG hr2 bG .nil pass0 (by rfl)) pa_nil)) pa_nil))) (pg_tup rfl (pgs_cons (pg_name (i := 7) scWi.nd rfl (Or.inr rfl)) (pgs_cons (pg_name (i := 8) scWi.nd rfl (Or.inr rfl)) pgs_nil))))
      (pss_cons (ps_if (pt_val (pe_callB (cr_any rfl) (by rfl) hAny (by decide +kernel) (pa_cons (pe_lock (pe_lc (own := [("p", 9), ("q", 10)]) (g := gTup K 2 (gCons (gName 9) (gCons (gName 10) gNil))) (tt := tYes) rfl scWi.nd (pi_keys (pv 6)) (blkOk_by (N := nWi) (sc := defScope sWithin) (by decide +kernel)) (fun _ _ _ _ _ => pg_tup rfl (pgs_cons (pg_name (i := 9) scWi.nd rfl (Or.inl rfl)) (pgs_cons (pg_name (i := 10) scWi.nd rfl (Or.inl rfl)) pgs_nil))) (fun _ _ _ _ _ => pts_nil)
          (fun _ _ _ _ _ => pe_and (pe_cmp (pc_din hu (pv 9) (pv 7))) (pe_one (pe_cmp (pc_dnotin hu (pv 10) (pv 8))))))) pa_nil))) (pss_one (ps_ret pe_bl)) pss_nil)
      (pss_one (ps_ret (PE_imp (t' := tAllW C) (pe_callB (cr_all rfl) (by rfl) hAll (by decide +kernel) (pa_cons (pe_lock (pe_lc2 (own := [("p", 9), ("q", 10), ("sign", 11)]) (vs1 := [11]) (g := gTup K 2 (gCons (gName 9) (gCons (gName 10) gNil))) (g1 := gName 11) (tt := tYes) (tt1 := tYes) rfl scWi.nd (pi_keys (pv 6)) (blkOk_by (N := nWi) (sc := defScope sWithin) (by decide +kernel)) (by decide) (fun _ _ _ _ _ => pg_tup rfl (pgs_cons (pg_name (i := 9) scWi.nd rfl (Or.inl rfl)) (pgs_cons (pg_name (i := 10) scWi.nd rfl (Or.inl rfl)) pgs_nil))) (fun _ _ _ _ _ => pts_nil)
          (fun _ _ _ _ _ => pi_str (pe_prop (pv 4) T.cl PS' GS hr2 bS .nil pass0 (by rfl))) (fun _ _ _ _ _ => pg_name (i := 11) scWi.nd rfl (Or.inl rfl)) (fun _ _ _ _ _ => pts_nil)
          (fun _ _ _ _ _ => pe_cmp (pc_din hu (pe_tup (pa_cons (pe_dget hu (pe_fldK (K := K) rfl (pv 4) rfl) (pe_tup (pa_cons (pv 9) (pa_cons (pv 11) pa_nil))) (fun _ _ => rfl)) (pa_cons (pe_dget hu (pe_fldK (K := K) rfl (pv 5) rfl) (pe_tup (pa_cons (pv 10) (pa_cons (pv 11) pa_nil))) (fun _ _ => rfl)) pa_nil))) (pv 6))))) pa_nil)) ?iAll))))))))), ?_⟩
    case iAll =>
      rintro σ H Q ⟨x0, x1, x2, x3, x7, x8, x9, x10, x11, a1, a2, d, dx1, M1, G1, D1, dx2, M2, G2, D2, t1, t2, p1, p2, qs, rfl, e1, ed1, e2, ed2, nD1, nD2, ed, ok1, ok2, gq, lq, hsg, kk⟩
      have n1 : a1 ≠ d := ne_of e1 ed (by intro z; cases z)
      have n2 : a2 ≠ d := ne_of e2 ed (by intro z; cases z)
      refine ⟨d, _, ed, trivial, fun od2 => ?_⟩
      have hcs : p1.sg.cps.toList.length = p1.sg.cps.size := Array.length_toList
      have hx3 : p1.sg.length ≤ 3 := by
        have := ok1.sgs
        rw [areS1] at this
        simp only [Bool.and_eq_true, decide_eq_true_eq] at this
        exact this.1.1.2
      refine ⟨_, rfl, d, od2, rfl, .inr ⟨_, upd_same, fun D hD => ?_⟩⟩
      have lk : ∀ {b : Addr} {o : HO}, b ≠ d → H b = some o → upd H d (.frz od2 (.dT (seenL qs))) b = some o := fun n e => by rw [upd_ne n]; exact e
      refine lc2G qs p1.sg.cps.toList (fun ab c => V.bl (decide ((ledL p1 ab.1 c, ledL p2 ab.2 c) ∈ qs))) walk_seen (by
        have : p1.sg.cps.toList.length ≤ 3 := by rw [hcs]; exact hx3
        have := Nat.mul_le_mul lq this
        omega) hD (fun i H x H' h => by rw [h.1]; exact Same.refl _) (fun H' s' => s' _ _ upd_same) (fun i ab y H' H'' Nx go hm sj hy inner => ?_) (fun H9 s9 e9 => ?_)
      · obtain ⟨rfl, ab', q, hk, rfl, hq⟩ := hy
        rw [hm] at hk
        obtain rfl := Option.some.inj hk
        have hin := gq.inn ab (List.mem_of_getElem? hm)
        have e1' := sj _ _ (lk n1 e1)
        refine ⟨q, _, rfl, SqT.of hq, rfl, _, _, rfl, _, _, rfl, rfl, rfl, ?_⟩
        refine ⟨_, rfl, a1, dx1, _, rfl, e1', a1, dx1, _, .str p1.sg, rfl, e1', rfl, p1.sg, rfl, ?_⟩
        refine inner (Its p1.sg) _ _ (fun _ => True) _ (Same.refl _) (by rw [hcs]; exact walk_str) (fun i H x H' h => by rw [h.1]; exact Same.refl _) (fun _ _ => trivial) (fun j c y H5 H6 k hc s5 hy k1 => ?_)
        obtain ⟨rfl, c', hc', rfl⟩ := hy
        rw [← Array.getElem?_toList, hc] at hc'
        obtain rfl := Option.some.inj hc'
        have hc1 : c ∈ p1.sg.cps.toList := List.mem_of_getElem? hc
        have hc2 : c ∈ p2.sg.cps.toList := by rw [← hsg]; exact hc1
        have g1 := (ok1.goal hin.1 hc1).2
        have g2 := (ok2.goal hin.2 hc2).2
        refine ⟨rfl, ?_⟩
        refine ⟨_, rfl, a1, C, dx1, _, .ref D1, rfl, s5 _ _ (lk n1 e1), T.cl, T.f5, rfl, _, rfl, _, rfl, (by show 2 ≤ sizeLine; decide), fun ta hta => ⟨D1, .str (ledL p1 ab.1 c), rfl, ?_, ?_⟩⟩
        · have := DGet.t (k := kT ab.1 c) (keep1 (s5 _ _ (lk nD1 ed1)) hta) (upd_same (o := .tup ((kT ab.1 c).map kV)))
          rw [g1] at this
          exact this
        have sa : Same H6 (upd H6 ta (.tup ((kT ab.1 c).map kV))) := same_new hta
        show ∃ _, _
        generalize eHn : upd H6 ta (.tup ((kT ab.1 c).map kV)) = Hn at sa
        have eHn' : upd H6 ta (.tup [.str ab.1, .str (sg c)]) = Hn := eHn
        rw [eHn']
        clear eHn eHn' hta
        refine ⟨_, rfl, a2, C, dx2, _, .ref D2, rfl, sa _ _ (s5 _ _ (lk n2 e2)), T.cl, T.f5, rfl, _, rfl, _, rfl, (by show 2 ≤ sizeLine; decide), fun tb htb => ⟨D2, .str (ledL p2 ab.2 c), rfl, ?_, ?_⟩⟩
        · have := DGet.t (k := kT ab.2 c) (keep1 (sa _ _ (s5 _ _ (lk nD2 ed2))) htb) (upd_same (o := .tup ((kT ab.2 c).map kV)))
          rw [g2] at this
          exact this
        refine ⟨(by show 2 ≤ sizeLine; decide), fun tc htc => ?_⟩
        have sb := (sa.trans (same_new htb)).trans (same_new (o := .tup [.str (ledL p1 ab.1 c), .str (ledL p2 ab.2 c)]) htc)
        have ec := upd_same (a := tc) (H := upd Hn tb (.tup [.str ab.2, .str (sg c)])) (o := .tup [.str (ledL p1 ab.1 c), .str (ledL p2 ab.2 c)])
        refine ⟨_, rfl, d, _, rfl, .inr ⟨_, k2 (ledL p1 ab.1 c) (ledL p2 ab.2 c), _, .inr ⟨od2, sb _ _ (s5 _ _ upd_same)⟩, rfl, ec, rfl⟩, ?_⟩
        rw [seen_val]
        exact k1 _ sb
      · have nDd : D ≠ d := (ne_of_none (upd_same (a := d) (H := H) (o := .frz od2 (.dT (seenL qs)))) hD).symm
        refine ⟨s9 _ _ upd_same, ?_⟩
        have ef : (qs.flatMap fun ab => p1.sg.cps.toList.map fun c => V.bl (decide ((ledL p1 ab.1 c, ledL p2 ab.2 c) ∈ qs))) = (qs.flatMap fun ab => p1.sg.cps.toList.map fun c => decide ((ledL p1 ab.1 c, ledL p2 ab.2 c) ∈ qs)).map V.bl := by
          rw [List.map_flatMap]
          simp only [List.map_map]
          rfl
        rw [ef] at e9
        refine ⟨D, _, rfl, SqL.of (by rw [upd_ne nDd]; exact e9), kk _ _ (unlock ed s9) ?_⟩
        rw [List.all_eq_true]
        constructor
        · intro h ab hab c hc
          have := h _ (List.mem_flatMap.mpr ⟨ab, hab, List.mem_map.mpr ⟨c, hc, rfl⟩⟩)
          exact of_decide_eq_true this
        · rintro h b hb
          obtain ⟨ab, hab, hb⟩ := List.mem_flatMap.mp hb
          obtain ⟨c, hc, rfl⟩ := List.mem_map.mp hb
          exact decide_eq_true (h ab hab c hc)
    have ok1 := parts_ok pt1
    have ok2 := parts_ok pt2
    refine ⟨_, rfl, _, rfl, t1, t2, p1, p2, rfl, zt1, ot1, pt1, zt2, ot2, pt2, fun hne H1 s1 => ?_, fun hsg Tt a1 a2 H1 s1 eT hA1 hA2 => ?_⟩
    · exact ⟨_, rfl, rfl, _, rfl, iteT (kk false _ s1 ⟨(fun z => by cases z), fun z => absurd z.1 hne⟩)⟩
    refine ⟨_, rfl, rfl, _, rfl, iteF ?_⟩
    refine ⟨_, rfl, Tt, _, rfl, SqT.of eT, rfl, _, _, rfl, _, _, rfl, rfl, ?_⟩
    refine ⟨_, rfl, _, rfl, _, rfl, a1, a2, t1, t2, p1, p2, v, o, rfl, hA1, hA2, ok1, ok2, hP.same s1, fun nb H2 s2 => ?_, fun qs eo gq lq d H2 nd s2 ed => ?_⟩
    · exact ⟨_, rfl, rfl, _, rfl, iteT (kk false _ (s1.trans s2) ⟨(fun z => by cases z), fun z => absurd z (no_holds nb)⟩)⟩
    have sA := s1.trans s2
    obtain ⟨dx1, M1, G1, D1, e1, em1, eg1, ed1⟩ := id hA1
    obtain ⟨dx2, M2, G2, D2, e2, em2, eg2, ed2⟩ := id hA2
    have fr : ∀ b o, H1 b = some o → b ≠ d := fun b o e => ne_of_none e nd
    have nD1 := fr _ _ ed1
    have nD2 := fr _ _ ed2
    have n1 := fr _ _ e1
    have n2 := fr _ _ e2
    have e1 := s2 _ _ e1
    have em1 := s2 _ _ em1
    have eg1 := s2 _ _ eg1
    have ed1 := s2 _ _ ed1
    have e2 := s2 _ _ e2
    have em2 := s2 _ _ em2
    have eg2 := s2 _ _ eg2
    have ed2 := s2 _ _ ed2
    clear hA1 hA2 fr nd
    obtain ⟨ms1, ex1⟩ := ok1.first
    obtain ⟨ms2, ex2⟩ := ok2.first
    have ef1 : (p1.ms.map V.str)[0]? = some (.str (firstL p1)) := by rw [ex1]; rfl
    have ef2 : (p2.ms.map V.str)[0]? = some (.str (firstL p2)) := by rw [ex2]; rfl
    refine ⟨_, rfl, rfl, _, rfl, iteF ?_⟩
    refine ⟨_, rfl, a1, dx1, _, rfl, e1, a1, dx1, _, .ref M1, rfl, e1, rfl, M1, _, _, V.str (firstL p1), rfl, rfl, SqT.of em1, atI_nat (j := 0) ef1, _, rfl, a2, dx2, _, rfl, e2, a2, dx2, _, .ref M2, rfl, e2, rfl, M2, _, _, V.str (firstL p2), rfl, rfl, SqT.of em2, atI_nat (j := 0) ef2, (by show 2 ≤ sizeLine; decide), fun ta hta => ?_⟩
    refine ⟨_, rfl, d, _, rfl, DGet.t (k := k2 (firstL p1) (firstL p2)) (keep1 ed hta) upd_same, _, rfl, ?_⟩
    rw [seen_val]
    have s3 : Same H2 (upd H2 ta (.tup [.str (firstL p1), .str (firstL p2)])) := same_new hta
    generalize upd H2 ta (.tup [.str (firstL p1), .str (firstL p2)]) = H3 at s3 ⊢
    have sB := sA.trans s3
    have ed := s3 _ _ ed
    have e1 := s3 _ _ e1
    have eg1 := s3 _ _ eg1
    have ed1 := s3 _ _ ed1
    have e2 := s3 _ _ e2
    have eg2 := s3 _ _ eg2
    have ed2 := s3 _ _ ed2
    clear hta s3 sA s1 s2 eT em1 em2
    by_cases mf : (firstL p1, firstL p2) ∈ qs
    rotate_left
    · rw [decide_eq_false mf]
      exact iteT (kk false _ sB ⟨(fun z => by cases z), fun z => absurd ((holds_iff hsg eo gq).mp z).2.2 mf⟩)
    rw [decide_eq_true mf]
    refine iteF ?_
    have zg : ∀ p : Parts, PartsOk p → p.gs.length ≤ 16000000 := fun p ok => by
      have h1 := ok.mds
      unfold areMoodsL at h1
      simp only [Bool.and_eq_true, decide_eq_true_eq] at h1
      have h2 := ok.gds
      unfold areGoodL at h2
      have h3 : p.gs.length ≤ p.ms.length := by
        rw [of_decide_eq_true h2]
        exact List.length_filter_le _ _
      omega
    refine ⟨_, rfl, a1, dx1, _, rfl, e1, a1, dx1, _, .ref G1, rfl, e1, rfl, G1, p1.gs, rfl, eg1, zg _ ok1, fun W1 H4 s4 w1 => ?_⟩
    refine ⟨_, rfl, a2, dx2, _, rfl, s4 _ _ e2, a2, dx2, _, .ref G2, rfl, s4 _ _ e2, rfl, G2, p2.gs, rfl, s4 _ _ eg2, zg _ ok2, fun W2 H5 s5 w2 => ⟨by show 2 ≤ sizeLine; decide, fun tb htb => ⟨tb, _, rfl, SqT.of upd_same, rfl, _, _, rfl, _, _, rfl, rfl, ?_⟩⟩⟩
    have s6 : Same H5 (upd H5 tb (.tup [.ref W1, .ref W2])) := same_new htb
    generalize upd H5 tb (.tup [.ref W1, .ref W2]) = H6 at s6 ⊢
    have w1 := s6 _ _ (s5 _ _ w1)
    have w2 := s6 _ _ w2
    have s7 := (s4.trans s5).trans s6
    have sC := sB.trans s7
    have ed := s7 _ _ ed
    have e1 := s7 _ _ e1
    have ed1 := s7 _ _ ed1
    have e2 := s7 _ _ e2
    have ed2 := s7 _ _ ed2
    clear htb s4 s5 s6 s7 eg1 eg2 sB
    have nW1 : W1 ≠ d := ne_of w1 ed (by intro z; cases z)
    have nW2 : W2 ≠ d := ne_of w2 ed (by intro z; cases z)
    refine ⟨d, _, ed, trivial, fun od => ?_⟩
    refine ⟨_, rfl, d, od, rfl, .inr ⟨_, upd_same, fun D hD => ?_⟩⟩
    refine lcG qs (fun ab => some (V.bl (decide (ab.1 ∈ p1.gs) && !decide (ab.2 ∈ p2.gs)))) walk_seen (by omega) hD (fun i H x H' h => by rw [h.1]; exact Same.refl _) (fun H' s' => s' _ _ upd_same) (fun i ab y H' H'' k1 hm sj hy k2 => ?_) (fun H7 s7 e7 => ?_)
    · obtain ⟨rfl, ab', q, hk, rfl, hq⟩ := hy
      rw [hm] at hk
      obtain rfl := Option.some.inj hk
      have k2 := k2 _ (Same.refl _)
      refine ⟨q, _, rfl, SqT.of hq, rfl, _, _, rfl, _, _, rfl, rfl, rfl, ?_⟩
      refine ⟨_, rfl, _, rfl, W1, _, rfl, DGet.k (k := Sum.inr ab.1) (sj _ _ (by rw [upd_ne nW1]; exact w1)), _, rfl, ?_⟩
      rw [setD_val]
      cases h1 : decide (ab.1 ∈ p1.gs) with
      | false =>
        rw [h1, Bool.false_and] at k2
        exact iteF k2
      | true =>
        rw [h1, Bool.true_and] at k2
        refine iteT ?_
        refine ⟨_, rfl, _, rfl, W2, _, rfl, DGet.k (k := Sum.inr ab.2) (sj _ _ (by rw [upd_ne nW2]; exact w2)), ?_⟩
        rw [setD_val]
        exact k2
    have nDd : D ≠ d := (ne_of_none (upd_same (a := d) (H := H6) (o := .frz od (.dT (seenL qs)))) hD).symm
    refine ⟨s7 _ _ upd_same, ?_⟩
    rw [List.filterMap_eq_map', ← Function.comp_def, ← List.map_map] at e7
    have sD := sC.trans (unlock ed s7)
    refine ⟨D, qs.map fun ab => decide (ab.1 ∈ p1.gs) && !decide (ab.2 ∈ p2.gs), rfl, SqL.of (by rw [upd_ne nDd]; exact e7), _, rfl, ?_⟩
    have ed8 := upd_same (a := d) (H := H7) (o := .dT (seenL qs))
    have s8 := unlock ed s7
    generalize upd H7 d (.dT (seenL qs)) = H8 at s8 ed8 sD ⊢
    have e1 := s8 _ _ e1
    have ed1 := s8 _ _ ed1
    have e2 := s8 _ _ e2
    have ed2 := s8 _ _ ed2
    clear hD s7 s8 e7 w1 w2 sC ed nDd
    refine ite2 (fun c => ?_) (fun c => ?_)
    · refine kk false _ sD ⟨(fun z => by cases z), fun z => ?_⟩
      have h1 := ((holds_iff hsg eo gq).mp z).1
      obtain ⟨x, hx, hx2⟩ := List.any_eq_true.mp c
      obtain ⟨ab, hab, rfl⟩ := List.mem_map.mp hx
      simp only [id, Bool.and_eq_true, Bool.not_eq_true', decide_eq_true_eq, decide_eq_false_iff_not] at hx2
      exact absurd (h1 ab hab hx2.1) hx2.2
    have hgood : ∀ ab ∈ qs, ab.1 ∈ p1.gs → ab.2 ∈ p2.gs := fun ab hab h1 => by
      apply Classical.byContradiction
      intro h2
      exact c (List.any_eq_true.mpr ⟨_, List.mem_map.mpr ⟨ab, hab, rfl⟩, by simp [h1, h2]⟩)
    clear c
    exact ⟨_, _, _, _, _, _, _, _, _, a1, a2, d, dx1, M1, G1, D1, dx2, M2, G2, D2, t1, t2, p1, p2, qs, rfl, e1, ed1, e2, ed2, nD1, nD2, ed8, ok1, ok2, gq, lq, hsg, fun b H' s' hb => kk b H' (sD.trans s') (by
      rw [holds_iff hsg eo gq, hb]
      exact ⟨fun h => ⟨hgood, h, mf⟩, fun h => h.2.1⟩)⟩
end
end My
namespace My
open PySem PySem.Spec PyProof.Rows L2 PySem.GX L2H LamX
def spAccW (C : Addr) : Sp := fun vs H Q _ => ∃ (c : Addr) (t1 t2 : Str) (p1 p2 : Parts) (v : V) (o : Option (List Itm)), vs = [.ref c, v] ∧ H c = some (.tup [.str "within", .str t1, .str t2]) ∧ t1.length ≤ 1000000 ∧ PyData.strOk t1 = true ∧ parseL t1 = some p1 ∧ t2.length ≤ 1000000 ∧ PyData.strOk t2 = true ∧ parseL t2 = some p2 ∧ Pap H v o ∧
  ∀ (b : Bool) (H' : Hp), Same H H' → (b = true ↔ Holds p1 p2 o) → Q (.bl b) H'
section
variable {P : Program} {w : World} {K : PySem.W.Frag} {mg : Str → Option Value} {base : Heap}
abbrev nAcc : List Str := ["claim", "paper", "check"]
theorem scAcc : FnScope nAcc ["claim", "paper"] (defScope sAccepts) := ⟨rfl, rfl, rfl, by decide +kernel, rfl, by decide +kernel, by decide +kernel⟩
theorem ok_accW {f C aC fN : Addr} {fd fdN : FuncData} {es : Array DictEntry} {n : Nat} (F : Fun K "accepts" "accepts" sAccepts f fd) (D : KDict K w aC es n) (gC : mg "CLAIMS" = some (.ref aC)) (eC : PySem.W.nsIn K aC "within" = some (some (.ref fN)))
    (GN : FnOk P w K mg base CX0 9 fN fdN ["one", "other", "paper"] (spWithin C)) (kN : PySem.W.keepIn K (.ref fN) = true) (bN : Binds K fdN ["one", "other", "paper"] [])
    (hIs : mg "isinstance" = none) (hSt : mg "str" = none) (hTu : mg "tuple" = none) (hL : mg "len" = none) : FnOk P w K mg base CX0 10 f fd ["claim", "paper"] (spAccW C) := by
  refine F.ok scAcc (fun vs H Q E h => ?_) (fun cdv A outer s H vs Q E hr h => ?_)
  · obtain ⟨c, t1, t2, p1, p2, v, o, rfl, _⟩ := h
    rfl
  · obtain ⟨c, t1, t2, p1, p2, v, o, rfl, ec, rest⟩ := h
    refine ⟨_, pss_cons (ps_if (pt_not (PW.pt (pw_and (pt_val (pe_callB call_isi (by rfl) hIs (by decide +kernel) (pa_cons (pv 0) (pa_cons (pe_bltn (v := .ty "tuple") (by rfl) hTu (by decide +kernel) rfl) pa_nil)))) (pw_and (pt_cmpR op_eq (pe_callB call_len_seq (by rfl) hL PySem.boot_len (pa_cons (pv 0) pa_nil)) pe_int (nomark _)) (pw_and (pt_val (pe_callB call_isi (by rfl) hIs (by decide +kernel) (pa_cons (pe_ix ix_tup (pv 0) pe_int (fun _ _ => rfl)) (pa_cons (pe_bltn (v := .ty "str") (by rfl) hSt (by decide +kernel) rfl) pa_nil)))) (pw_and1 (pt_cmpR (op_in_kd D) (pe_ix ix_tup (pv 0) pe_int (fun _ _ => rfl)) (pe_glob (v := .ref aC) rfl gC rfl) (by rfl)))))))) (pss_one (ps_ret pe_bl)) pss_nil)
      (pss_cons (ps_set (i := 2) scAcc.nd rfl (Or.inl rfl) (pe_ix ix_kdict (pe_glob (v := .ref aC) rfl gC rfl) (pe_ix ix_tup (pv 0) pe_int (fun _ _ => rfl)) (fun _ _ => rfl)))
      (pss_one (ps_ret (pe_callL (i := 2) GN hr rfl (.inl rfl) kN bN .nil pass0 (pa_cons (pe_ix ix_tup (pv 0) pe_int (fun _ _ => rfl)) (pa_cons (pe_ix ix_tup (pv 0) pe_int (fun _ _ => rfl)) (pa_cons (pv 1) pa_nil))))))), ?_⟩
    refine ⟨_, rfl, .ref c, .ty "tuple", _, .type "tuple", true, rfl, .ty _, .base (.tup ec), kit_ty (by decide +kernel), _, rfl, iteT ?_⟩
    refine ⟨_, rfl, c, _, rfl, .inr (SqT.of ec), rfl, _, rfl, iteT ?_⟩
    refine ⟨_, rfl, c, _, _, V.str "within", rfl, rfl, SqT.of ec, atI_nat (j := 0) rfl, .str "within", .ty "str", _, .type "str", true, rfl, .ty _, .base (.str "within"), kit_ty (by decide +kernel), _, rfl, iteT ?_⟩
    refine ⟨_, rfl, c, _, _, V.str "within", rfl, rfl, SqT.of ec, atI_nat (j := 0) rfl, "within", some (.ref fN), rfl, rfl, eC, _, rfl, iteF ?_⟩
    refine ⟨_, rfl, c, _, _, V.str "within", rfl, rfl, SqT.of ec, atI_nat (j := 0) rfl, aC, "within", .ref fN, rfl, rfl, ⟨es, n, .ref fN, D.at_, D.lit, eC, rfl⟩, ?_⟩
    exact ⟨rfl, _, rfl, c, _, _, V.str t1, rfl, rfl, SqT.of ec, atI_nat (j := 1) rfl, _, rfl, c, _, _, V.str t2, rfl, rfl, SqT.of ec, atI_nat (j := 2) rfl, _, rfl, t1, t2, p1, p2, v, o, rfl, rest⟩
end
end My
namespace My
open PySem PySem.Spec PyProof.Rows L2 PySem.GX L2H LamX
/-- the moods that come behind rows -/
inductive Come (p : Parts) : Str → Prop
  | first : Come p (firstL p)
  | step {m : Str} {c : Nat} : Come p m → c ∈ p.sg.cps.toList → Come p (ledL p m c)
theorem Come.mem {p : Parts} (ok : PartsOk p) {m : Str} (h : Come p m) : m ∈ p.ms := by
  induction h with
  | first =>
    obtain ⟨ms, em⟩ := ok.first
    rw [em]
    simp
  | step _ hc ih => exact (ok.goal ih hc).1
/-- just these come, each once -/
def ComeL (p : Parts) (ws : List Str) : Prop := ws.Nodup ∧ ∀ m, m ∈ ws ↔ Come p m
/-- found so far; behind those up to k all is found -/
structure Found (p : Parts) (ws : List Str) (k : Nat) : Prop where
  nd : ws.Nodup
  come : ∀ m ∈ ws, Come p m
  first : firstL p ∈ ws
  closed : ∀ i m, i < k → ws[i]? = some m → ∀ c ∈ p.sg.cps.toList, ledL p m c ∈ ws
theorem Found.few {p : Parts} {ws : List Str} {k : Nat} (h : Found p ws k) (ok : PartsOk p) : ws.length ≤ p.ms.length := nodup_len h.nd fun x hx => (h.come x hx).mem ok
theorem Found.put {p : Parts} {ws : List Str} {k : Nat} (h : Found p ws k) {g : Str} (hg : Come p g) (n : g ∉ ws) (hk : k ≤ ws.length) : Found p (ws ++ [g]) k := by
  refine ⟨?_, fun m hm => ?_, List.mem_append_left _ h.first, fun i m hi e c hc => ?_⟩
  · rw [List.nodup_append]
    refine ⟨h.nd, by simp, fun x hx y hy z => ?_⟩
    rw [List.mem_singleton] at hy
    exact n (hy ▸ z ▸ hx)
  · rcases List.mem_append.mp hm with hm | hm
    · exact h.come m hm
    · rw [List.mem_singleton] at hm
      subst hm
      exact hg
  · rw [List.getElem?_append_left (by omega)] at e
    exact List.mem_append_left _ (h.closed i m hi e c hc)
theorem Found.all {p : Parts} {ws : List Str} (h : Found p ws ws.length) : ComeL p ws := by
  refine ⟨h.nd, fun m => ⟨h.come m, fun hm => ?_⟩⟩
  induction hm with
  | first => exact h.first
  | step _ hc ih =>
    obtain ⟨i, hi, e⟩ := List.getElem_of_mem ih
    exact h.closed i _ hi (by rw [← e]; exact List.getElem?_eq_getElem hi) _ hc
def spAsSetL : Sp := fun vs H Q _ => ∃ (l : Addr) (ws : List Str), vs = [.ref l] ∧ H l = some (.lst (ws.map V.str)) ∧ ws.length ≤ 16000000 ∧ ∀ (D : Addr) (H' : Hp), Same H H' → H D = none → H' D = some (.dK (setD ws)) → Q (.ref D) H'
def spComing (C : Addr) : Sp := fun vs H Q _ => ∃ (a : Addr) (t : Str) (p : Parts), vs = [.ref a] ∧ RuleAt H C a t p ∧ PartsOk p ∧ ∀ (l : Addr) (ws : List Str) (H' : Hp), Same H H' → H l = none → H' l = some (.lst (ws.map V.str)) → ComeL p ws → ws.length ≤ p.ms.length → Q (.ref l) H'
section
variable {P : Program} {w : World} {K : PySem.W.Frag} {mg : Str → Option Value} {base : Heap}
theorem ok_asSetL {f : Addr} {fd : FuncData} (F : Fun K "as_set" "as_set" sAsSet f fd) : FnOk P w K mg base CX0 1 f fd ["words"] spAsSetL := by
  refine F.ok scAsSet (fun vs H Q E h => ?_) (fun cdv A outer s H vs Q E hr h => ?_)
  · obtain ⟨l, ws, rfl, _⟩ := h
    rfl
  · obtain ⟨l, ws, rfl, hl, z1, k⟩ := h
    refine ⟨_, pss_one (ps_ret (pe_dc (own := [("word", 1)]) (g := gName 1) (tt := tYes) rfl scAsSet.nd (pi_list (pv 0))
          (blkOk_by (N := ["words", "word"]) (sc := defScope sAsSet) (by decide +kernel)) (fun _ _ _ _ _ => pg_name (i := 1) scAsSet.nd rfl (Or.inl rfl)) (fun _ _ _ _ _ => pts_nil) (fun _ _ _ _ _ => pv 1) (fun _ _ _ _ _ => pe_bl))), ?_⟩
    refine ⟨_, rfl, l, rfl, ⟨_, SqL.of hl⟩, fun D hD => ?_⟩
    refine dcG ws (fun x => (Sum.inr x : Key)) (fun _ => V.bl true) (walk_listL ws V.str) z1 hD (yat_same _) (fun H' s => SqL.of (s _ _ hl)) (fun i x y H' H'' k1 k0 hx s1 hy k2 => ?_) (fun H1 s1 e1 => ?_)
    · obtain ⟨rfl, hy⟩ := hy
      obtain rfl := map_get hx hy
      exact ⟨rfl, _, rfl, k2 _ (Same.refl _)⟩
    · exact k D H1 s1 hD e1
abbrev nComing : List Str := ["rule", "found", "known", "at", "sign", "goal"]
theorem scComing : FnScope nComing ["rule"] (defScope sComing) := ⟨rfl, rfl, rfl, by decide +kernel, rfl, by decide +kernel, by decide +kernel⟩
def atK (σ : List (Option V)) : Nat := match σ[3]? with
  | some (some (V.int n)) => 400 - n.toNat
  | _ => 0
theorem ok_coming {f C : Addr} {fd : FuncData} (F : Fun K "coming_moods" "coming_moods" sComing f fd) (T : RuC K C) (hAs : Hv P w K mg base 1 "as_set" ["words"] spAsSetL) (pM : PrF P w K mg base C "moods" "words") (pS : PrF P w K mg base C "signs" "letters") (hL : mg "len" = none) : FnOk P w K mg base CX0 3 f fd ["rule"] (spComing C) := by
  obtain ⟨ppM, gpM, fdM, PM, GM, bM⟩ := pM
  obtain ⟨ppS, gpS, fdS, PS', GS, bS⟩ := pS
  refine F.ok scComing (fun vs H Q E h => ?_) (fun cdv A outer s H vs Q E hr h => ?_)
  · obtain ⟨a, t, p, rfl, _⟩ := h
    rfl
  · obtain ⟨a, t, p, rfl, hA, ok, kk⟩ := h
    have hu := hu_of hr
    have hr1 : Room 1 (A.deeper (envOfC "coming_moods" (defScope sComing) s.heap.objs.size f cdv)) := hr.mono (by decide)
    have hr2 : Room 2 (A.deeper (envOfC "coming_moods" (defScope sComing) s.heap.objs.size f cdv)) := hr.mono (by decide)
    refine ⟨_, pss_cons (ps_set (i := 1) scComing.nd rfl (Or.inl rfl) (pe_lst (pa_cons (pe_ix ix_tup (pe_prop (pv 0) T.cl PM GM hr2 bM .nil pass0 (by rfl)) pe_int (fun _ _ => rfl)) pa_nil)))
      (pss_cons (ps_set (i := 2) scComing.nd rfl (Or.inl rfl) (pe_cl hAs hr1 rfl pass0 (pa_cons (pv 1) pa_nil)))
      (pss_cons (ps_set (i := 3) scComing.nd rfl (Or.inl rfl) pe_int)
      (pss_cons (ps_while PassesOwn.never (pt_cmpR op_lt (pv 3) (pe_callB call_len_seq (by rfl) hL PySem.boot_len (pa_cons (pv 1) pa_nil)) (nomark _))
        (pss_cons (ps_for PassesOwn.never rfl (pi_str (pe_prop (pv 0) T.cl PS' GS hr2 bS .nil pass0 (by rfl))) (pg_name (i := 4) scComing.nd rfl (Or.inl rfl))
          (pss_cons (ps_set (i := 5) scComing.nd rfl (Or.inl rfl) (pe_dget hu (pe_fld (pv 0) rfl) (pe_tup (pa_cons (pe_ix ix_list (pv 1) (pv 3) (fun _ _ => rfl)) (pa_cons (pv 4) pa_nil))) (fun _ _ => rfl)))
          (pss_one (ps_if (pt_cmp (pc_dnotin hu (pv 5) (pv 2))) (pss_cons (ps_dput hu (pv 2) (pv 5) pe_bl rfl) (pss_one (ps_expr (pe_bm PySem.F.plainAttrs_list PySem.F.slot_list_append PySem.F.type_list_append mt_append (pv 1) (pa_cons (pv 5) pa_nil))))) pss_nil))))
        (pss_one (ps_aug (i := 3) scComing.nd rfl (Or.inl rfl) pe_int ip_add))))
      (pss_one (ps_ret (pv 1)))))), ?_⟩
    obtain ⟨dx, M, G, D0, e1, em, eg, ed0⟩ := id hA
    obtain ⟨ms, ex⟩ := ok.first
    have ef : (p.ms.map V.str)[0]? = some (.str (firstL p)) := by rw [ex]; rfl
    have zm : p.ms.length ≤ 300 := by
      have := ok.mds
      unfold areMoodsL at this
      simp only [Bool.and_eq_true, decide_eq_true_eq] at this
      omega
    clear ex
    refine ⟨_, rfl, a, dx, _, rfl, e1, a, dx, _, .ref M, rfl, e1, rfl, M, _, _, V.str (firstL p), rfl, rfl, SqT.of em, atI_nat (j := 0) ef, by show 1 ≤ sizeLine; decide, fun l hl => ?_⟩
    have s1 := same_new (o := .lst [.str (firstL p)]) hl
    have el := upd_same (a := l) (H := H) (o := .lst [.str (firstL p)])
    generalize upd H l (.lst [.str (firstL p)]) = H1 at s1 el ⊢
    refine ⟨_, rfl, l, [firstL p], rfl, el, by show 1 ≤ 16000000; decide, fun d H2 s2 d0 ed2 => ?_⟩
    have fl : ∀ b o, H b = some o → b ≠ l := fun b o e => ne_of_none e hl
    have fd' : ∀ b o, H b = some o → b ≠ d := fun b o e => ne_of_none (s1 _ _ e) d0
    have el2 := s2 _ _ el
    have nld : l ≠ d := ne_of el2 ed2 (by intro z; cases z)
    have sA := s1.trans s2
    have a1 := fl _ _ e1
    have a2 := fd' _ _ e1
    have b1 := fl _ _ ed0
    have b2 := fd' _ _ ed0
    have e1 := sA _ _ e1
    have ed0 := sA _ _ ed0
    clear s1 s2 el d0
    refine while_by (fun σ H' => ∃ (n : Nat) (v4 v5 : Option V) (ws : List Str), σ = [some (.ref a), some (.ref l), some (.ref d), some (.int (n : Int)), v4, v5] ∧ (∀ b o, b ≠ l → b ≠ d → H2 b = some o → H' b = some o) ∧ H' l = some (.lst (ws.map V.str)) ∧ H' d = some (.dK (setD ws)) ∧ Found p ws n ∧ n ≤ ws.length) (fun σ _ => atK σ)
      ⟨0, none, none, [firstL p], rfl, fun _ _ _ _ e => e, el2, ed2, ⟨by simp, fun m hm => by rw [List.mem_singleton] at hm; rw [hm]; exact .first, by simp, fun i m hi => absurd hi (Nat.not_lt_zero i)⟩, Nat.zero_le _⟩ (fun σ H3 h => ?_) ?mono
    case mono =>
      rintro σ H Q Q' m ⟨a1, a2, a3, a4, a5, a6, a7, a8, a9, a10, a11, a12, a13, a14, q⟩
      exact ⟨a1, a2, a3, a4, a5, a6, a7, a8, a9, a10, a11, a12, a13, a14, m _ _ q⟩
    obtain ⟨n, v4, v5, ws, rfl, ks, el3, ed3, fo, hn⟩ := h
    have fw := fo.few ok
    refine ⟨_, rfl, _, rfl, l, _, rfl, .inl (SqL.of el3), _, _, rfl, rfl, _, rfl, ite2 (fun c => ?_) (fun c => ?_)⟩
    · have c1 : (n : Int) < ((ws.map V.str).length : Int) := of_decide_eq_true c
      rw [List.length_map] at c1
      have hlt : n < ws.length := by omega
      clear c c1
      have hm : ws[n]? = some ws[n] := List.getElem?_eq_getElem hlt
      generalize ws[n] = m at hm
      have cm := fo.come m (List.mem_of_getElem? hm)
      have e13 := ks _ _ a1 a2 e1
      refine ⟨_, rfl, a, dx, _, rfl, e13, a, dx, _, .str p.sg, rfl, e13, rfl, p.sg, rfl, ?_⟩
      refine for_it walk_str (fun i σ H' => ∃ (v4 v5 : Option V) (ws' : List Str), σ = [some (.ref a), some (.ref l), some (.ref d), some (.int (n : Int)), v4, v5] ∧ (∀ b o, b ≠ l → b ≠ d → H2 b = some o → H' b = some o) ∧ H' l = some (.lst (ws'.map V.str)) ∧ H' d = some (.dK (setD ws')) ∧ Found p ws' n ∧ n < ws'.length ∧ ws'[n]? = some m ∧ ∀ c ∈ p.sg.cps.toList.take i, ledL p m c ∈ ws')
        ⟨v4, v5, ws, rfl, ks, el3, ed3, fo, hlt, hm, fun _ z => by cases z⟩ (fun _ _ _ _ _ => trivial) (fun i y σ H4 H5 hi h hy => ?_) (fun σ H4 h => ?_)
      · obtain ⟨rfl, c, hc, rfl⟩ := hy
        obtain ⟨v4, v5, ws', rfl, ks', el', ed', fo', hlt', hm', cl⟩ := h
        rw [← Array.getElem?_toList] at hc
        have hc1 : c ∈ p.sg.cps.toList := List.mem_of_getElem? hc
        have hg := ok.goal (cm.mem ok) hc1
        have cg := Come.step cm hc1
        have ect : p.sg.cps.toList.take (i + 1) = p.sg.cps.toList.take i ++ [c] := by rw [List.take_add_one, hc]; rfl
        have fw' := fo'.few ok
        refine ⟨_, rfl, a, C, dx, _, .ref D0, rfl, ks' _ _ a1 a2 e1, T.cl, T.f5, rfl, _, rfl, _, rfl, l, _, _, V.str m, rfl, rfl, SqL.of el', atI_nat (by rw [List.getElem?_map, hm']; rfl), _, rfl, (by show 2 ≤ sizeLine; decide), fun ta hta => ⟨D0, .str (ledL p m c), rfl, ?_, ?_⟩⟩
        · have := DGet.t (k := kT m c) (keep1 (ks' _ _ b1 b2 ed0) hta) (upd_same (o := .tup ((kT m c).map kV)))
          rw [hg.2] at this
          exact this
        have sa := same_new (o := .tup ((kT m c).map kV)) hta
        have ks6 : ∀ b o, b ≠ l → b ≠ d → H2 b = some o → upd H5 ta (.tup ((kT m c).map kV)) b = some o := fun b o n1 n2 e => sa _ _ (ks' b o n1 n2 e)
        have el6 := sa _ _ el'
        have ed6 := sa _ _ ed'
        show ∃ _, _
        generalize eHn : upd H5 ta (.tup ((kT m c).map kV)) = Hn at ks6 el6 ed6
        have eHn' : upd H5 ta (.tup [.str m, .str (sg c)]) = Hn := eHn
        rw [eHn']
        clear eHn eHn' hta sa
        generalize hgg : ledL p m c = g at cg
        refine ⟨_, rfl, _, rfl, d, _, rfl, DGet.k (k := Sum.inr g) ed6, _, rfl, ?_⟩
        rw [setD_val]
        by_cases hin : g ∈ ws'
        · rw [decide_eq_true hin]
          refine iteF ⟨_, _, ws', rfl, ks6, el6, ed6, fo', hlt', hm', fun c' hc' => ?_⟩
          rw [ect] at hc'
          rcases List.mem_append.mp hc' with hc' | hc'
          · exact cl c' hc'
          · rw [List.mem_singleton] at hc'
            rw [hc', hgg]
            exact hin
        · rw [decide_eq_false hin]
          refine iteT ?_
          have eset : setD (ws' ++ [g]) = putK (setD ws') (Sum.inr g) (.bl true) := dOf_snoc _ _ _ _
          refine ⟨_, rfl, _, rfl, d, upd Hn d (.dK (setD (ws' ++ [g]))), rfl, ?_, ?_⟩
          · rw [eset]
            refine DPut.k (k := Sum.inr g) ed6 ?_
            have := dOf_len (fun x => (Sum.inr x : Key)) (fun _ => V.bl true) ws'
            have h2 : (setD ws').length ≤ ws'.length := this
            rw [sizeLine_eq]
            omega
          have el8 : upd Hn d (.dK (setD (ws' ++ [g]))) l = some (.lst (ws'.map V.str)) := by rw [upd_ne nld]; exact el6
          refine ⟨_, rfl, .inl ⟨rfl, _, SqL.of el8⟩, _, rfl, l, _, _, rfl, rfl, el8, ?_, ?_⟩
          · rw [List.length_map, sizeLine_eq]
            omega
          · refine ⟨_, _, ws' ++ [g], rfl, fun b o n1 n2 e => by rw [upd_ne n1, upd_ne n2]; exact ks6 b o n1 n2 e, by rw [upd_same, List.map_append]; rfl, by rw [upd_ne nld.symm, upd_same], fo'.put cg hin (by omega), by rw [List.length_append]; omega, by rw [List.getElem?_append_left hlt']; exact hm', fun c' hc' => ?_⟩
            rw [ect] at hc'
            rcases List.mem_append.mp hc' with hc' | hc'
            · exact List.mem_append_left _ (cl c' hc')
            · rw [List.mem_singleton] at hc'
              rw [hc', hgg]
              simp
      · obtain ⟨v4, v5, ws', rfl, ks', el', ed', fo', hlt', hm', cl⟩ := h
        have fw' := fo'.few ok
        have hcs : p.sg.cps.toList.take p.sg.cps.size = p.sg.cps.toList := by rw [← Array.length_toList, List.take_length]
        rw [hcs] at cl
        refine ⟨_, rfl, _, _, rfl, rfl, ⟨n + 1, _, _, ws', by rw [show ((n + 1 : Nat) : Int) = (n : Int) + 1 by omega]; rfl, ks', el', ed', ⟨fo'.nd, fo'.come, fo'.first, fun i m' hi e c hc => ?_⟩, by omega⟩, ?_⟩
        · by_cases hin : i < n
          · exact fo'.closed i m' hin e c hc
          · have : i = n := by omega
            subst this
            rw [hm'] at e
            obtain rfl := Option.some.inj e
            exact cl c hc
        · show 400 - ((n : Int) + 1).toNat < 400 - (n : Int).toNat
          omega
    · have c1 : ¬ (n : Int) < ((ws.map V.str).length : Int) := fun z => c (decide_eq_true z)
      rw [List.length_map] at c1
      have : n = ws.length := by omega
      subst this
      exact ⟨_, rfl, kk l ws _ (fun b o e => ks b o (fl _ _ e) (fd' _ _ e) (sA _ _ e)) hl el3 fo.all fw⟩
end
end My
namespace My
open PySem PySem.Spec PyProof.Rows L2 PySem.GX L2H LamX
def spInB (K : PySem.W.Frag) : Sp := fun vs H Q _ => ∃ (v : V) (d : PyData) (lo hi : Int), vs = [v, .int lo, .int hi] ∧ Sh K H v d ∧ Q (.bl (inb d lo hi)) H
section
variable {P : Program} {w : World} {K : PySem.W.Frag} {mg : Str → Option Value} {base : Heap}
theorem scInB : FnScope ["value", "low", "high"] ["value", "low", "high"] (defScope sBounds) := ⟨rfl, rfl, rfl, by decide +kernel, rfl, by decide +kernel, by decide +kernel⟩
theorem ok_inb {f : Addr} {fd : FuncData} (F : Fun K "in_bounds" "in_bounds" sBounds f fd) (hIs : mg "isinstance" = none) (hI : mg "int" = none) (hB : mg "bool" = none) : FnOk P w K mg base CX0 1 f fd ["value", "low", "high"] (spInB K) := by
  refine F.ok scInB (fun vs H Q E h => ?_) (fun cdv A outer s H vs Q E hr h => ?_)
  · obtain ⟨v, d, lo, hi, rfl, _⟩ := h
    rfl
  · obtain ⟨v, d, lo, hi, rfl, hd, k⟩ := h
    refine ⟨_, pss_one (ps_ret (pe_and (pe_callB call_isi (by rfl) hIs (by decide +kernel) (pa_cons (pv 0) (pa_cons (pe_bltn (v := .ty "int") (by rfl) hI (by decide +kernel) rfl) pa_nil)))
        (pe_and (pe_not (pe_callB call_isi (by rfl) hIs (by decide +kernel) (pa_cons (pv 0) (pa_cons (pe_bltn (v := .ty "bool") (by rfl) hB (by decide +kernel) rfl) pa_nil))))
        (pe_one (pe_chain op_le op_le (pv 1) (pv 0) (pv 2)))))), ?_⟩
    obtain ⟨ty, hty, k1, k2, _⟩ := sh_kit hd
    refine ⟨_, rfl, v, .ty "int", ty, .type "int", isI d, rfl, .ty _, hty, k1, _, rfl, ite2 (fun c1 => ?_) (fun c1 => ?_)⟩
    · refine ⟨_, rfl, v, .ty "bool", ty, .type "bool", isB d, rfl, .ty _, hty, k2, _, rfl, _, rfl, ite2 (fun c2 => ?_) (fun c2 => ?_)⟩
      · match d, hd, c1, c2, k with
        | .int i, hd, _, _, k =>
          obtain rfl := sh_int hd
          refine ⟨_, rfl, _, rfl, _, _, rfl, rfl, _, rfl, ite2 (fun c3 => ⟨_, rfl, _, _, rfl, rfl, ?_⟩) (fun c3 => ?_)⟩
          · have e : inb (.int i) lo hi = decide (i ≤ hi) := by
              show (decide (lo ≤ i) && decide (i ≤ hi)) = _
              rw [c3, Bool.true_and]
            rw [e] at k
            exact k
          · have e : inb (.int i) lo hi = false := by
              show (decide (lo ≤ i) && decide (i ≤ hi)) = _
              rw [Bool.eq_false_iff.mpr c3, Bool.false_and]
            rw [e] at k
            exact k
      · have e : inb d lo hi = false := by
          match d, c2 with
          | .bool b, _ => rfl
          | .int i, c2 => exact absurd rfl c2
          | .none, _ => rfl
          | .str _, _ => rfl
          | .list _, _ => rfl
          | .tuple _, _ => rfl
          | .dict _, _ => rfl
        rw [e] at k
        exact k
    · have e : inb d lo hi = false := by
        match d, c1 with
        | .int i, c1 => exact absurd rfl c1
        | .bool b, _ => rfl
        | .none, _ => rfl
        | .str _, _ => rfl
        | .list _, _ => rfl
        | .tuple _, _ => rfl
        | .dict _, _ => rfl
      rw [e] at k
      exact k
end
end My
namespace My
open PySem PySem.Spec PyProof.Rows L2 PySem.GX L2H LamX
/-- a number of a triple: a whole number, or another thing -/
inductive NuAt (H : Hp) : V → Option Int → Prop
  | int (i : Int) : NuAt H (.int i) (some i)
  | bl (b : Bool) : NuAt H (.bl b) none
  | str (s : Str) : NuAt H (.str s) none
  | non : NuAt H .non none
theorem NuAt.keep {H H' : Hp} {v : V} {o : Option Int} (h : NuAt H v o) : NuAt H' v o := by
  cases h with
  | int i => exact .int i
  | bl b => exact .bl b
  | str s => exact .str s
  | non => exact .non
def nuB (o : Option Int) (lo hi : Int) : Bool := match o with
  | some i => decide (lo ≤ i) && decide (i ≤ hi)
  | none => false
theorem NuAt.sh {K : PySem.W.Frag} {H : Hp} {v : V} {o : Option Int} (h : NuAt H v o) : ∃ d, Sh K H v d ∧ ∀ lo hi, inb d lo hi = nuB o lo hi := by
  cases h with
  | int i => exact ⟨_, .fl (.int i), fun _ _ => rfl⟩
  | bl b => exact ⟨_, .fl (.bl b), fun _ _ => rfl⟩
  | str s => exact ⟨_, .fl (.str s), fun _ _ => rfl⟩
  | non => exact ⟨_, .fl .non, fun _ _ => rfl⟩
inductive Itt
  | tri (a b : Option Str) (n : Option Int)
  | no
/-- an item of a paper of heights -/
inductive IttAt (H : Hp) : V → Itt → Prop
  | tri {t : Addr} {x1 x2 x3 : V} {o1 o2 : Option Str} {o3 : Option Int} (e : H t = some (.tup [x1, x2, x3])) (h1 : PtAt H x1 o1) (h2 : PtAt H x2 o2) (h3 : NuAt H x3 o3) : IttAt H (.ref t) (.tri o1 o2 o3)
  | tup {t : Addr} {xs : List V} (e : H t = some (.tup xs)) (n : xs.length ≠ 3) : IttAt H (.ref t) .no
  | lst {t : Addr} {xs : List V} (e : H t = some (.lst xs)) (n : ∀ a b c : Int, xs ≠ [.int a, .int b, .int c]) : IttAt H (.ref t) .no
  | non : IttAt H .non .no
theorem IttAt.keep {H H' : Hp} (s : KsT H H') {v : V} {o : Itt} (h : IttAt H v o) : IttAt H' v o := by
  cases h with
  | tri e h1 h2 h3 => exact .tri (s _ _ (fun _ z => by cases z) e) (h1.keep s) (h2.keep s) h3.keep
  | tup e n => exact .tup (s _ _ (fun _ z => by cases z) e) n
  | lst e n => exact .lst (s _ _ (fun _ z => by cases z) e) n
  | non => exact .non
theorem IttAt.same {H H' : Hp} (s : Same H H') {v : V} {o : Itt} (h : IttAt H v o) : IttAt H' v o := h.keep (.of s)
theorem IttAt.kit {K : PySem.W.Frag} {H : Hp} {v : V} {o : Itt} (h : IttAt H v o) : ∃ ty b, TyX K H v ty ∧ PySem.W.kitOne K ty (.type "tuple") = some b ∧ (b = false → o = .no) ∧ (b = true → ∃ t xs, v = .ref t ∧ H t = some (.tup xs) ∧ (xs.length ≠ 3 → o = .no)) := by
  cases h with
  | tri e h1 h2 h3 => exact ⟨_, true, .base (.tup e), kit_ty (show _ = some true by decide +kernel), (fun z => by cases z), fun _ => ⟨_, _, rfl, e, fun n => absurd rfl n⟩⟩
  | tup e n => exact ⟨_, true, .base (.tup e), kit_ty (show _ = some true by decide +kernel), (fun z => by cases z), fun _ => ⟨_, _, rfl, e, fun _ => rfl⟩⟩
  | lst e n => exact ⟨_, false, .base (.lst e), kit_ty (show _ = some false by decide +kernel), (fun _ => rfl), fun z => by cases z⟩
  | non => exact ⟨_, false, .base .non, kit_ty (show _ = some false by decide +kernel), (fun _ => rfl), fun z => by cases z⟩
theorem IttAt.trip {H : Hp} {t : Addr} {xs : List V} {o : Itt} (h : IttAt H (.ref t) o) (e : H t = some (.tup xs)) (n : xs.length = 3) : ∃ x1 x2 x3 o1 o2 o3, xs = [x1, x2, x3] ∧ o = .tri o1 o2 o3 ∧ PtAt H x1 o1 ∧ PtAt H x2 o2 ∧ NuAt H x3 o3 := by
  cases h with
  | tri e' h1 h2 h3 =>
    rw [e'] at e
    injection e with e
    injection e with e
    subst e
    exact ⟨_, _, _, _, _, _, rfl, rfl, h1, h2, h3⟩
  | tup e' n' =>
    rw [e'] at e
    injection e with e
    injection e with e
    subst e
    exact absurd n n'
  | lst e' _ =>
    rw [e'] at e
    injection e with e
    cases e
abbrev Hgt := (Str × Str) × Int
abbrev triT (z : Hgt) : Itt := .tri (some z.1.1) (some z.1.2) (some z.2)
theorem map_tri {ps qs : List Hgt} (h : ps.map triT = qs.map triT) : ps = qs := by
  induction ps generalizing qs with
  | nil => cases qs with
    | nil => rfl
    | cons b t => cases h
  | cons a t ih => cases qs with
    | nil => cases h
    | cons b u =>
      injection h with h1 h2
      injection h1 with h3 h4 h5
      rw [ih h2]
      have e : a = b := Prod.ext (Prod.ext (Option.some.inj h3) (Option.some.inj h4)) (Option.some.inj h5)
      rw [e]
/-- a paper of heights -/
def PapH (H : Hp) (v : V) (o : Option (List Itt)) : Prop :=
  (∃ (c : Addr) (vs : List V) (its : List Itt), v = .ref c ∧ o = some its ∧ H c = some (.tup vs) ∧ vs.length = its.length ∧ vs.length ≤ 1000 ∧ ∀ (i : Nat) (x : V) (it : Itt), vs[i]? = some x → its[i]? = some it → IttAt H x it) ∨
  (o = none ∧ (v = .non ∨ (∃ i, v = .int i) ∨ ∃ a xs, v = .ref a ∧ H a = some (.lst xs) ∧ ∀ i j k : Int, xs ≠ [.int i, .int j, .int k]))
theorem PapH.same {H H' : Hp} (s : Same H H') {v : V} {o : Option (List Itt)} (h : PapH H v o) : PapH H' v o := by
  rcases h with ⟨c, vs, its, e1, e2, e3, e4, e5, e6⟩ | ⟨e1, e2⟩
  · exact .inl ⟨c, vs, its, e1, e2, s _ _ e3, e4, e5, fun i x it a b => (e6 i x it a b).same s⟩
  · refine .inr ⟨e1, ?_⟩
    rcases e2 with e | e | ⟨a, xs, e3, e4, e5⟩
    · exact .inl e
    · exact .inr (.inl e)
    · exact .inr (.inr ⟨a, xs, e3, s _ _ e4, e5⟩)
theorem PapH.kit {K : PySem.W.Frag} {H : Hp} {v : V} {o : Option (List Itt)} (h : PapH H v o) : ∃ ty, TyX K H v ty ∧ PySem.W.kitOne K ty (.type "tuple") = some o.isSome := by
  rcases h with ⟨c, vs, its, rfl, rfl, e, _⟩ | ⟨rfl, rfl | ⟨i, rfl⟩ | ⟨a, xs, rfl, e, _⟩⟩
  · exact ⟨_, .base (.tup e), kit_ty (show _ = some true by decide +kernel)⟩
  · exact ⟨_, .base .non, kit_ty (show _ = some false by decide +kernel)⟩
  · exact ⟨_, .base (.int i), kit_ty (show _ = some false by decide +kernel)⟩
  · exact ⟨_, .base (.lst e), kit_ty (show _ = some false by decide +kernel)⟩
/-- heights for pairs of some moods -/
structure GoodH (ws : List Str) (most : Int) (hs : List Hgt) : Prop where
  nd : (hs.map (·.1)).Nodup
  inn : ∀ z ∈ hs, z.1.1 ∈ ws ∧ z.1.2 ∈ ws ∧ 1 ≤ z.2 ∧ z.2 ≤ most
def SoFarH (ws : List Str) (most : Int) (its : List Itt) (i : Nat) (hs : List Hgt) : Prop := its.take i = hs.map triT ∧ GoodH ws most hs
theorem SoFarH.snoc {ws : List Str} {most : Int} {its : List Itt} {i : Nat} {hs : List Hgt} (h : SoFarH ws most its i hs) {a b : Str} {n : Int} (e : its[i]? = some (.tri (some a) (some b) (some n))) (ha : a ∈ ws) (hb : b ∈ ws) (h1 : 1 ≤ n) (h2 : n ≤ most) (nm : (a, b) ∉ hs.map (·.1)) : SoFarH ws most its (i + 1) (hs ++ [((a, b), n)]) := by
  refine ⟨by rw [List.take_add_one, e, h.1, List.map_append]; rfl, ?_, fun ab m => ?_⟩
  · rw [List.map_append, List.nodup_append]
    refine ⟨h.2.nd, by simp, fun x hx y hy z => ?_⟩
    have hy : y = (a, b) := by simpa using hy
    exact nm (hy ▸ z ▸ hx)
  · rcases List.mem_append.mp m with m | m
    · exact h.2.inn ab m
    · rw [List.mem_singleton] at m
      subst m
      exact ⟨ha, hb, h1, h2⟩
theorem SoFarH.bad {ws : List Str} {most : Int} {its : List Itt} {i : Nat} {hs : List Hgt} (h : SoFarH ws most its i hs) {it : Itt} (e : its[i]? = some it) (n : ∀ a b k, it = .tri (some a) (some b) (some k) → a ∈ ws → b ∈ ws → 1 ≤ k → k ≤ most → (a, b) ∉ hs.map (·.1) → False) : ¬ ∃ qs, some its = some (qs.map triT) ∧ GoodH ws most qs := by
  rintro ⟨qs, eq, g⟩
  obtain rfl := Option.some.inj eq
  rw [List.getElem?_map] at e
  cases hq : qs[i]? with
  | none => rw [hq] at e; cases e
  | some z =>
    rw [hq] at e
    have e := (Option.some.inj e).symm
    have ht : qs.take i = hs := map_tri (by rw [← h.1, List.map_take])
    obtain ⟨m1, m2, m3, m4⟩ := g.inn z (List.mem_of_getElem? hq)
    refine n z.1.1 z.1.2 z.2 e m1 m2 m3 m4 fun y => ?_
    have e2 : qs = qs.take i ++ z :: qs.drop (i + 1) := by
      obtain ⟨h1, h2⟩ := List.getElem?_eq_some_iff.mp hq
      rw [← h2, ← List.drop_eq_getElem_cons h1, List.take_append_drop]
    have nd := g.nd
    rw [e2, List.map_append, List.nodup_append] at nd
    exact nd.2.2 (z.1.1, z.1.2) (by rw [ht]; exact y) z.1 (by simp) rfl
/-- the dict of heights -/
def hsD (hs : List Hgt) : List (List Key × V) := hs.map fun z => (k2 z.1.1 z.1.2, V.int z.2)
/-- the height of a pair -/
def hgt (hs : List Hgt) (ab : Str × Str) : Option Int := (hs.find? fun z => decide (z.1 = ab)).map (·.2)
theorem hs_val (a b : Str) : ∀ hs : List Hgt, valV (hsD hs) (k2 a b) = (hgt hs (a, b)).map V.int
  | [] => rfl
  | ((c, d), n) :: t => by
    have ih := hs_val a b t
    by_cases e : (c, d) = (a, b)
    · cases e
      rw [show hsD (((a, b), n) :: t) = (k2 a b, V.int n) :: hsD t from rfl, valV_pos rfl]
      unfold hgt
      rw [List.find?_cons_of_pos (by simp)]
      rfl
    · rw [show hsD (((c, d), n) :: t) = (k2 c d, V.int n) :: hsD t from rfl, valV_neg (fun z => e ?_), ih]
      · unfold hgt
        rw [List.find?_cons_of_neg (by simpa using e)]
      · injection z with z1 z2
        injection z2 with z2 _
        injection z1 with z1
        injection z2 with z2
        rw [z1, z2]
theorem hgt_none {hs : List Hgt} {ab : Str × Str} : hgt hs ab = none ↔ ab ∉ hs.map (·.1) := by
  unfold hgt
  rw [Option.map_eq_none_iff, List.find?_eq_none]
  constructor
  · intro h m
    obtain ⟨z, hz, e⟩ := List.mem_map.mp m
    exact h z hz (decide_eq_true e)
  · intro h z hz e
    exact h (List.mem_map.mpr ⟨z, hz, of_decide_eq_true e⟩)
theorem hs_snoc {hs : List Hgt} {a b : Str} {n : Int} (h : (a, b) ∉ hs.map (·.1)) : putK (hsD hs) (k2 a b) (.int n) = hsD (hs ++ [((a, b), n)]) := by
  have := hs_val a b hs
  rw [hgt_none.mpr h] at this
  rw [putK_new _ this]
  unfold hsD
  rw [List.map_append]
  rfl
end My
namespace My
open PySem PySem.Spec PyProof.Rows L2 PySem.GX L2H LamX
def spReadH : Sp := fun vs H Q _ => ∃ (l : Addr) (ws : List Str) (most : Int) (v : V) (o : Option (List Itt)), vs = [.ref l, .int most, v] ∧ H l = some (.lst (ws.map V.str)) ∧ ws.length ≤ 300 ∧ PapH H v o ∧
  ((¬ ∃ qs, o = some (qs.map triT) ∧ GoodH ws most qs) → ∀ H', Same H H' → Q .non H') ∧
  (∀ qs, o = some (qs.map triT) → GoodH ws most qs → qs.length ≤ 1000 → ∀ (D : Addr) (H' : Hp), H D = none → Same H H' → H' D = some (.dT (hsD qs)) → Q (.ref D) H')
def inB (ws : List Str) (o : Option Str) : Bool := match o with
  | some s => decide (s ∈ ws)
  | none => false
section
variable {P : Program} {w : World} {K : PySem.W.Frag} {mg : Str → Option Value} {base : Heap}
abbrev nRdH : List Str := ["moods", "most", "paper", "known", "heights", "triple", "pair", "mood"]
theorem scRdH : FnScope nRdH ["moods", "most", "paper"] (defScope sRdH) := ⟨rfl, rfl, rfl, by decide +kernel, rfl, by decide +kernel, by decide +kernel⟩
theorem ok_readH {f : Addr} {fd : FuncData} (F : Fun K "read_heights" "read_heights" sRdH f fd) (hAs : Hv P w K mg base 1 "as_set" ["words"] spAsSetL) (hIn : Hv P w K mg base 1 "in_bounds" ["value", "low", "high"] (spInB K)) (hIs : mg "isinstance" = none) (hSt : mg "str" = none) (hTu : mg "tuple" = none) (hL : mg "len" = none) (hA : mg "all" = none) :
    FnOk P w K mg base CX0 2 f fd ["moods", "most", "paper"] spReadH := by
  refine F.ok scRdH (fun vs H Q E h => ?_) (fun cdv A outer s H vs Q E hr h => ?_)
  · obtain ⟨l, ws, most, v, o, rfl, _⟩ := h
    rfl
  · obtain ⟨l, ws, most, v, o, rfl, el0, zw, hP, kN, kY⟩ := h
    have hu := hu_of hr
    have hr1 : Room 1 (A.deeper (envOfC "read_heights" (defScope sRdH) s.heap.objs.size f cdv)) := hr.mono (by decide)
    refine ⟨_, pss_cons (ps_set (i := 3) scRdH.nd rfl (Or.inr rfl) (pe_cl hAs hr1 rfl pass0 (pa_cons (pv 0) pa_nil)))
      (pss_cons (ps_if (pt_not (pt_val (pe_callB call_isi (by rfl) hIs (by decide +kernel) (pa_cons (pv 2) (pa_cons (pe_bltn (v := .ty "tuple") (by rfl) hTu (by decide +kernel) rfl) pa_nil))))) (pss_one (ps_ret pe_non)) pss_nil)
      (pss_cons (ps_set (i := 4) scRdH.nd rfl (Or.inl rfl) pe_dnewT)
      (pss_cons (ps_for PassesOwn.never rfl (pi_tup (pv 2)) (pg_name (i := 5) scRdH.nd rfl (Or.inl rfl))
        (pss_cons (ps_if (pt_not (PW.pt (pw_and (pt_val (pe_callB call_isi (by rfl) hIs (by decide +kernel) (pa_cons (pv 5) (pa_cons (pe_bltn (v := .ty "tuple") (by rfl) hTu (by decide +kernel) rfl) pa_nil)))) (pw_and (pt_cmpR op_eq (pe_callB call_len_seq (by rfl) hL PySem.boot_len (pa_cons (pv 5) pa_nil)) pe_int (nomark _)) (pw_and1 (pt_val (pe_cl hIn hr1 rfl pass0 (pa_cons (pe_ix ix_tup (pv 5) pe_int (fun _ _ => rfl)) (pa_cons pe_int (pa_cons (pv 1) pa_nil))))))))))
          (pss_one (ps_ret pe_non)) pss_nil)
        (pss_cons (ps_set (i := 6) scRdH.nd rfl (Or.inl rfl) (pe_slice sl_tup (pv 5) po_none (po_some pe_int)))
        (pss_cons (ps_if (PW.pt (pw_or (pt_not (pt_val (pe_callB (cr_all rfl) (by rfl) hA (by decide +kernel) (pa_cons (pe_lc (own := [("mood", 7)]) (g := gName 7) (tt := tYes) rfl scRdH.nd (pi_tup (pv 6)) (blkOk_by (N := nRdH) (sc := defScope sRdH) (by decide +kernel)) (fun _ _ _ _ _ => pg_name (i := 7) scRdH.nd rfl (Or.inl rfl)) (fun _ _ _ _ _ => pts_nil) (fun _ _ _ _ _ => pe_and (pe_callB (call_isiK (K := K) rfl) (by rfl) hIs (by decide +kernel) (pa_cons (pv 7) (pa_cons (pe_bltn (v := .ty "str") (by rfl) hSt (by decide +kernel) rfl) pa_nil))) (pe_one (pe_cmp (pc_din hu (pv 7) (pv 3)))))) pa_nil)))) (pw_or1 (pt_cmp (pc_din hu (pv 6) (pv 4)))))) (pss_one (ps_ret pe_non)) pss_nil)
        (pss_one (ps_dput hu (pv 4) (pv 6) (pe_ix ix_tup (pv 5) pe_int (fun _ _ => rfl)) rfl))))))
      (pss_one (ps_ret (pv 4)))))), ?_⟩
    refine ⟨_, rfl, l, ws, rfl, el0, by omega, fun W1 H1 s1 nW w1 => ?_⟩
    have hP := hP.same s1
    obtain ⟨ty, hty, kty⟩ := hP.kit (K := K)
    refine ⟨_, rfl, v, .ty "tuple", ty, .type "tuple", o.isSome, rfl, .ty _, hty, kty, _, rfl, ?_⟩
    rcases hP with ⟨c, vs, its, rfl, rfl, ec, el, e1000, hit⟩ | ⟨rfl, _⟩
    rotate_left
    · exact iteT (kN (fun ⟨qs, z, _⟩ => by cases z) _ s1)
    refine iteF ?_
    refine fun d hd => ?_
    have sB := s1.trans (same_new (o := .dT []) hd)
    have ec := keep1 (o := .dT []) ec hd
    have w1 := keep1 (o := .dT []) w1 hd
    have hit : ∀ (i : Nat) (x : V) (it : Itt), vs[i]? = some x → its[i]? = some it → IttAt (upd H1 d (.dT [])) x it := fun i x it a b => (hit i x it a b).same (same_new hd)
    have ed := upd_same (a := d) (H := H1) (o := .dT [])
    have hd0 : H d = none := by
      cases h0 : H d with
      | none => rfl
      | some o => have := s1 _ _ h0; rw [hd] at this; cases this
    have fd' : ∀ b o, H b = some o → b ≠ d := fun b o e => ne_of_none (s1 _ _ e) hd
    generalize upd H1 d (.dT []) = H3 at sB ec w1 hit ed ⊢
    have hd3 := ed
    clear hd hty kty s1
    refine ⟨_, rfl, c, rfl, ⟨_, SqT.of ec⟩, ?_⟩
    refine for_it (walk_tup (K := K) (a := c) (xs := vs)) (fun i σ H' => ∃ (v5 v6 v7 : Option V) (hs : List Hgt), σ = [some (.ref l), some (.int most), some (.ref c), some (.ref W1), some (.ref d), v5, v6, v7] ∧ (∀ b o, b ≠ d → H3 b = some o → H' b = some o) ∧ H' d = some (.dT (hsD hs)) ∧ SoFarH ws most its i hs)
      ⟨none, none, none, [], rfl, fun _ _ _ e => e, ed, ⟨rfl, .nil, fun _ m => by cases m⟩⟩ (fun i σ H' _ h => ?_) (fun i y σ H' H'' hi h hy => ?_) (fun σ H5 h => ?_)
    · obtain ⟨_, _, _, _, _, st, _⟩ := h
      exact SqT.of (st _ _ (ne_of ec ed (by intro z; cases z)) ec)
    · obtain ⟨rfl, hy⟩ := hy
      obtain ⟨v5, v6, v7, hs, rfl, st, ed, sf⟩ := h
      have kt : KsT H3 H'' := fun b o n e => st b o (fun z => by rw [z, hd3] at e; exact n _ (Option.some.inj e).symm) e
      have fin : Same H H'' := fun b o e => st b o (fd' b o e) (sB b o e)
      have hli : i < its.length := by rw [← el]; exact hi
      have hti : its[i]? = some its[i] := List.getElem?_eq_getElem hli
      have hI := (hit i y _ hy hti).keep kt
      generalize its[i] = it at hI hti
      have w1 := kt _ _ (by intro _ z; cases z) w1
      obtain ⟨ty, b, hty, kty, kf, ktr⟩ := hI.kit (K := K)
      refine ⟨_, rfl, y, .ty "tuple", ty, .type "tuple", b, rfl, .ty _, hty, kty, _, rfl, ?_⟩
      cases b with
      | false => exact iteF (iteT (kN (sf.bad hti fun a b k e => by rw [kf rfl] at e; cases e) _ fin))
      | true =>
        refine iteT ?_
        obtain ⟨t, xs, rfl, et, kno⟩ := ktr rfl
        refine ⟨_, rfl, t, _, rfl, .inr (SqT.of et), rfl, _, rfl, ?_⟩
        by_cases n2 : xs.length = 3
        rotate_left
        · refine ite2 (fun c2 => ?_) (fun _ => iteT (kN (sf.bad hti fun a b k e => by rw [kno n2] at e; cases e) _ fin))
          have := of_decide_eq_true c2
          injection this with this
          omega
        obtain ⟨x1, x2, x3, o1, o2, o3, rfl, rfl, r1, r2, r3⟩ := hI.trip et n2
        refine iteT ?_
        obtain ⟨d3, sh3, ib3⟩ := r3.sh (K := K)
        refine ⟨_, rfl, t, _, _, x3, rfl, rfl, SqT.of et, atI_nat (j := 2) rfl, _, rfl, x3, d3, 1, most, rfl, sh3, _, rfl, ?_⟩
        rw [ib3]
        by_cases hnu : ∃ k, o3 = some k ∧ 1 ≤ k ∧ k ≤ most
        rotate_left
        · have hz : nuB o3 1 most = false := by
            cases o3 with
            | none => rfl
            | some k =>
              show (decide (1 ≤ k) && decide (k ≤ most)) = false
              rw [Bool.and_eq_false_iff, decide_eq_false_iff_not, decide_eq_false_iff_not]
              by_cases h1 : 1 ≤ k
              · exact .inr fun h2 => hnu ⟨k, rfl, h1, h2⟩
              · exact .inl h1
          rw [hz]
          exact iteT (kN (sf.bad hti fun a b k e _ _ h1 h2 _ => by injection e with _ _ e; exact hnu ⟨k, e, h1, h2⟩) _ fin)
        obtain ⟨k, rfl, hk1, hk2⟩ := hnu
        have hz : nuB (some k) 1 most = true := by
          show (decide (1 ≤ k) && decide (k ≤ most)) = true
          rw [decide_eq_true hk1, decide_eq_true hk2]
          rfl
        rw [hz]
        refine iteF ?_
        have e3 : x3 = .int k := by cases r3; rfl
        subst e3
        have ecut : cutV [x1, x2, V.int k] none (some 2) = [x1, x2] := rfl
        refine ⟨_, rfl, _, rfl, t, _, rfl, SqT.of et, (by rintro ⟨_, z⟩; have : HT.sIx 3 3 (some 2) = 3 := z; revert this; decide), fun tp ntp => ?_⟩
        rw [ecut]
        have s4 := same_new (o := .tup [x1, x2]) ntp
        have ep := upd_same (a := tp) (H := H'') (o := .tup [x1, x2])
        generalize upd H'' tp (.tup [x1, x2]) = H4 at s4 ep ⊢
        have fin := fin.trans s4
        have ed := s4 _ _ ed
        have et := s4 _ _ et
        have w1 := s4 _ _ w1
        have r1 := r1.same s4
        have r2 := r2.same s4
        have st' : ∀ b o, b ≠ d → H3 b = some o → H4 b = some o := fun b o n e => s4 _ _ (st b o n e)
        refine ⟨_, rfl, tp, rfl, ⟨_, SqT.of ep⟩, fun D hD => ?_⟩
        have rl : ∀ m ∈ [(x1, o1), (x2, o2)], PtAt H4 m.1 m.2 := fun m hm => by
          simp only [List.mem_cons, List.not_mem_nil, or_false] at hm
          rcases hm with rfl | rfl
          · exact r1
          · exact r2
        refine lcG [(x1, o1), (x2, o2)] (fun m : V × Option Str => some (V.bl (inB ws m.2))) (by exact walk_tup (xs := [(x1, o1), (x2, o2)].map fun m : V × Option Str => m.1)) (by show 2 ≤ 16000000; decide) hD (fun i H x H' h => by rw [h.1]; exact Same.refl _) (fun H' s' => SqT.of (s' _ _ ep)) (fun i m z H5 H6 k1 hm sj hz k2 => ?_) (fun H7 s7 e7 => ?_)
        · obtain ⟨rfl, hz⟩ := hz
          have ez := map_get hm hz
          subst ez
          have rm := (rl m (List.mem_of_getElem? hm)).same sj
          obtain ⟨ty, hty, kty⟩ := rm.kit (K := K)
          have k2 := k2 _ (Same.refl _)
          refine ⟨rfl, _, rfl, m.1, .ty "str", ty, .type "str", m.2.isSome, rfl, .ty _, hty, kty, _, rfl, ?_⟩
          obtain ⟨mv, mo⟩ := m
          cases mo with
          | none => exact iteF k2
          | some s =>
            obtain rfl := rm.tx_of
            refine iteT ⟨_, rfl, _, rfl, W1, _, rfl, DGet.k (k := Sum.inr s) (sj _ _ w1), ?_⟩
            rw [setD_val]
            exact k2
        have e7 : H7 D = some (.lst ([inB ws o1, inB ws o2].map V.bl)) := e7
        have fin := fin.trans s7
        have ed := s7 _ _ ed
        have ep := s7 _ _ ep
        have et := s7 _ _ et
        have st' : ∀ b o, b ≠ d → H3 b = some o → H7 b = some o := fun b o n e => s7 _ _ (st' b o n e)
        refine ⟨D, [inB ws o1, inB ws o2], rfl, SqL.of e7, _, rfl, ?_⟩
        by_cases hab : ∃ a b, o1 = some a ∧ o2 = some b ∧ a ∈ ws ∧ b ∈ ws
        rotate_left
        · have hz : ([inB ws o1, inB ws o2].all id) = false := by
            rw [← Bool.not_eq_true, List.all_eq_true]
            intro hall
            have h1 := hall _ (List.mem_cons_self ..)
            have h2 := hall _ (List.mem_cons_of_mem _ (List.mem_cons_self ..))
            cases o1 with
            | none => cases h1
            | some a =>
              cases o2 with
              | none => cases h2
              | some b => exact hab ⟨a, b, rfl, rfl, of_decide_eq_true h1, of_decide_eq_true h2⟩
          rw [hz]
          exact iteT (kN (sf.bad hti fun a b k e h1 h2 _ _ _ => by injection e with e1 e2 _; exact hab ⟨a, b, e1, e2, h1, h2⟩) _ fin)
        obtain ⟨a, b, rfl, rfl, ha, hb⟩ := hab
        obtain rfl := r1.tx_of
        obtain rfl := r2.tx_of
        have hz : ([inB ws (some a), inB ws (some b)].all id) = true := by
          show (decide (a ∈ ws) && (decide (b ∈ ws) && true)) = true
          rw [decide_eq_true ha, decide_eq_true hb]
          rfl
        rw [hz]
        refine iteF ?_
        refine ⟨_, rfl, _, rfl, d, _, rfl, DGet.t (k := k2 a b) ed ep, _, rfl, ?_⟩
        rw [hs_val]
        by_cases mp : (a, b) ∈ hs.map (·.1)
        · have hh : ((hgt hs (a, b)).map V.int).isSome = true := by
            cases hg : hgt hs (a, b) with
            | none => exact absurd mp (hgt_none.mp hg)
            | some n => rfl
          rw [hh]
          exact iteT (kN (sf.bad hti fun a' b' k e _ _ _ _ n => by injection e with e1 e2 _; injection e1 with e1; injection e2 with e2; exact n (e1 ▸ e2 ▸ mp)) _ fin)
        have hh : ((hgt hs (a, b)).map V.int).isSome = false := by rw [hgt_none.mpr mp]; rfl
        rw [hh]
        refine iteF ?_
        have few : hs.length ≤ 1000 := by
          have := congrArg List.length sf.1
          rw [List.length_take, List.length_map] at this
          omega
        refine ⟨_, rfl, t, _, _, V.int k, rfl, rfl, SqT.of et, atI_nat (j := 2) rfl, _, rfl, _, rfl, d, upd H7 d (.dT (hsD (hs ++ [((a, b), k)]))), rfl, ?_, ?_⟩
        · rw [← hs_snoc mp]
          refine DPut.t (k := k2 a b) ed ep ?_
          unfold hsD
          rw [List.length_map, sizeLine_eq]
          omega
        · exact ⟨_, _, _, hs ++ [((a, b), k)], rfl, fun b o n e => by rw [upd_ne n]; exact st' b o n e, upd_same, sf.snoc hti ha hb hk1 hk2 mp⟩
    · obtain ⟨v5, v6, v7, hs, rfl, st, ed, sf⟩ := h
      have ei : its = hs.map triT := by
        have := sf.1
        rw [el, List.take_length] at this
        exact this
      exact ⟨_, rfl, kY hs (by rw [ei]) sf.2 (by rw [ei, List.length_map] at el; omega) d H5 hd0 (fun b o e => st b o (fd' b o e) (sB b o e)) ed⟩
end
end My
namespace My
open PySem PySem.Spec PyProof.Rows L2 PySem.GX L2H LamX
/-- the height, 0 where there is none -/
def hv (hs : List Hgt) (a b : Str) : Int := (hgt hs (a, b)).getD 0
/-- the heights of a pair and of those to which it is led fit -/
def StepOk (p : Parts) (hs : List Hgt) (a b : Str) : Prop :=
  (hv hs a b = 0 → (a ∈ p.gs ↔ b ∈ p.gs) ∧ ∀ c ∈ p.sg.cps.toList, ¬ hv hs (ledL p a c) (ledL p b c) > 0) ∧ (hv hs a b > 0 → ∀ c ∈ p.sg.cps.toList, ¬ hv hs (ledL p a c) (ledL p b c) ≥ hv hs a b)
/-- the paper shows it -/
def HoldsH (p : Parts) (most : Int) (o : Option (List Itt)) : Prop := ∃ hs : List Hgt, o = some (hs.map triT) ∧ (hs.map (·.1)).Nodup ∧ (∀ z ∈ hs, Come p z.1.1 ∧ Come p z.1.2 ∧ 1 ≤ z.2 ∧ z.2 ≤ most) ∧ ∀ a b, Come p a → Come p b → StepOk p hs a b
theorem goodH_iff {p : Parts} {ws : List Str} {most : Int} {hs : List Hgt} (c : ComeL p ws) : GoodH ws most hs ↔ (hs.map (·.1)).Nodup ∧ ∀ z ∈ hs, Come p z.1.1 ∧ Come p z.1.2 ∧ 1 ≤ z.2 ∧ z.2 ≤ most := by
  constructor
  · intro g
    refine ⟨g.nd, fun z hz => ?_⟩
    obtain ⟨h1, h2, h3, h4⟩ := g.inn z hz
    exact ⟨(c.2 _).mp h1, (c.2 _).mp h2, h3, h4⟩
  · rintro ⟨h1, h2⟩
    refine ⟨h1, fun z hz => ?_⟩
    obtain ⟨a, b, e, f⟩ := h2 z hz
    exact ⟨(c.2 _).mpr a, (c.2 _).mpr b, e, f⟩
theorem holdsH_iff {p : Parts} {ws : List Str} {most : Int} {o : Option (List Itt)} {hs : List Hgt} (c : ComeL p ws) (e : o = some (hs.map triT)) (g : GoodH ws most hs) : HoldsH p most o ↔ ∀ a ∈ ws, ∀ b ∈ ws, StepOk p hs a b := by
  constructor
  · rintro ⟨qs, e2, _, _, h⟩
    rw [e] at e2
    obtain rfl := map_tri (Option.some.inj e2)
    exact fun a ha b hb => h a b ((c.2 _).mp ha) ((c.2 _).mp hb)
  · intro h
    obtain ⟨g1, g2⟩ := (goodH_iff c).mp g
    exact ⟨hs, e, g1, g2, fun a b ha hb => h a ((c.2 _).mpr ha) b ((c.2 _).mpr hb)⟩
def spLast (C : Addr) : Sp := fun vs H Q _ => ∃ (t : Str) (p : Parts) (nv v : V) (no : Option Int) (o : Option (List Itt)), vs = [.str t, nv, v] ∧ t.length ≤ 1000000 ∧ PyData.strOk t = true ∧ parseL t = some p ∧ NuAt H nv no ∧ PapH H v o ∧
  ∀ (b : Bool) (H' : Hp), Same H H' → (b = true ↔ ∃ n, no = some n ∧ 0 ≤ n ∧ n ≤ 1000 ∧ HoldsH p n o) → Q (.bl b) H'
theorem PSs_impL {X : Cx} {ss : List Stmt} {t t' : TS} (h : PSs X ss t) (m : ∀ D σ H, t' D σ H → t D σ H) : PSs X ss t' := ⟨fun pins s σ H D I q => h.run pins s σ H D I (m D σ H q)⟩
theorem hv_get (hs : List Hgt) (a b : Str) : ((hgt hs (a, b)).map V.int).getD (.int 0) = .int (hv hs a b) := by
  unfold hv
  cases hgt hs (a, b) <;> rfl
/-- the pair is tested -/
def tStep (C : Addr) : TS := fun D σ H => ∃ (x0 x1 x2 x4 x9 x10 x11 x12 : Option V) (r d W dx M G D0 : Addr) (t : Str) (p : Parts) (hs : List Hgt) (a b : Str), σ = [x0, x1, x2, some (.ref r), x4, some (.ref d), some (.ref W), some (.str a), some (.str b), x9, x10, x11, x12] ∧ H r = some (.ins C dx (rFs t p M G D0)) ∧ H D0 = some (.dT (goalsD p.rs)) ∧ H d = some (.dT (hsD hs)) ∧ H W = some (.dK (setD p.gs)) ∧ PartsOk p ∧ a ∈ p.ms ∧ b ∈ p.ms ∧
  (¬ StepOk p hs a b → ∀ H', Same H H' → D.rt (.bl false) H') ∧ (StepOk p hs a b → ∀ (y9 y10 : Option V) (H' : Hp), Same H H' → D.nx [x0, x1, x2, some (.ref r), x4, some (.ref d), some (.ref W), some (.str a), some (.str b), y9, y10, x11, x12] H')
section
variable {P : Program} {w : World} {K : PySem.W.Frag} {mg : Str → Option Value} {base : Heap}
abbrev nLast : List Str := ["text", "number", "paper", "rule", "moods", "heights", "good", "p", "q", "goals", "height", "sign", "goal"]
theorem scLast : FnScope nLast ["text", "number", "paper"] (defScope sLast) := ⟨rfl, rfl, rfl, by decide +kernel, rfl, by decide +kernel, by decide +kernel⟩
theorem ok_last {f C : Addr} {fd : FuncData} {tk : Tok} (F : Fun K "shows_last" "shows_last" sLast f fd) (T : RuC K C) (hRo : Hv P w K mg base 7 "rule_of" ["text"] (spRuleOf C)) (hIn : Hv P w K mg base 1 "in_bounds" ["value", "low", "high"] (spInB K)) (hCo : Hv P w K mg base 3 "coming_moods" ["rule"] (spComing C)) (hRh : Hv P w K mg base 2 "read_heights" ["moods", "most", "paper"] spReadH) (hAs : Hv P w K mg base 1 "as_set" ["words"] spAsSet)
    (pG : PrF P w K mg base C "good" "chosen") (pS : PrF P w K mg base C "signs" "letters") (hAny : mg "any" = none) (gM : mg "MOST_LOOK" = some (.int 1000 tk)) : FnOk P w K mg base CX0 8 f fd ["text", "number", "paper"] (spLast C) := by
  obtain ⟨ppG, gpG, fdG, PG', GG, bG⟩ := pG
  obtain ⟨ppS, gpS, fdS, PS', GS, bS⟩ := pS
  refine F.ok scLast (fun vs H Q E h => ?_) (fun cdv A outer s H vs Q E hr h => ?_)
  · obtain ⟨t, p, nv, v, no, o, rfl, _⟩ := h
    rfl
  · obtain ⟨t, p, nv, v, no, o, rfl, zt, ot, pt, hN, hP, kk⟩ := h
    have hu := hu_of hr
    have hr1 : Room 1 (A.deeper (envOfC "shows_last" (defScope sLast) s.heap.objs.size f cdv)) := hr.mono (by decide)
    have hr2 : Room 2 (A.deeper (envOfC "shows_last" (defScope sLast) s.heap.objs.size f cdv)) := hr.mono (by decide)
    have hr3 : Room 3 (A.deeper (envOfC "shows_last" (defScope sLast) s.heap.objs.size f cdv)) := hr.mono (by decide)
    refine ⟨_, pss_cons (ps_set (i := 3) scLast.nd rfl (Or.inr rfl) (pe_cl hRo hr rfl pass0 (pa_cons (pv 0) pa_nil)))
      (pss_cons (ps_if (PW.pt (pw_or (pt_cmpR op_isN (pv 3) pe_non (nomark _)) (pw_or1 (pt_not (pt_val (pe_cl hIn hr1 rfl pass0 (pa_cons (pv 1) (pa_cons pe_int (pa_cons (pe_glob (v := .int 1000) rfl gM ⟨_, rfl⟩) pa_nil))))))))) (pss_one (ps_ret pe_bl)) pss_nil)
      (pss_cons (ps_set (i := 4) scLast.nd rfl (Or.inl rfl) (pe_cl hCo hr3 rfl pass0 (pa_cons (pv 3) pa_nil)))
      (pss_cons (ps_set (i := 5) scLast.nd rfl (Or.inr rfl) (pe_cl hRh hr2 rfl pass0 (pa_cons (pv 4) (pa_cons (pv 1) (pa_cons (pv 2) pa_nil)))))
      (pss_cons (ps_if (pt_cmpR op_isN (pv 5) pe_non (nomark _)) (pss_one (ps_ret pe_bl)) pss_nil)
      (pss_cons (ps_set (i := 6) scLast.nd rfl (Or.inl rfl) (pe_cl hAs hr1 rfl pass0 (pa_cons (pe_prop (pv 3) T.cl PG' GG hr2 bG .nil pass0 (by rfl)) pa_nil)))
      (pss_cons (ps_for PassesOwn.never rfl (pi_list (pv 4)) (pg_name (i := 7) scLast.nd rfl (Or.inr rfl)) (pss_one (ps_for PassesOwn.never rfl (pi_list (pv 4)) (pg_name (i := 8) scLast.nd rfl (Or.inr rfl))
        (PSs_impL (t' := tStep C) (pss_cons (ps_setLc (i := 9) (own := [("sign", 11)]) (g := gName 11) (tt := tYes) (by rfl) scLast.nd rfl rfl (sw_true rfl rfl rfl (by decide +kernel)) (pi_str (pe_prop (pv 3) T.cl PS' GS hr2 bS .nil pass0 (by rfl))) (blkOk_by (N := nLast) (sc := defScope sLast) (by decide +kernel)) (fun _ _ _ _ _ => pg_name (i := 11) scLast.nd rfl (Or.inl rfl)) (fun _ _ _ _ _ => pts_nil)
            (fun _ _ _ _ _ => pe_dget2 hu (pv 5) (pe_tup (pa_cons (pe_dget hu (pe_fldK (K := K) rfl (pv 3) rfl) (pe_tup (pa_cons (pv 7) (pa_cons (pv 11) pa_nil))) (fun _ _ => rfl)) (pa_cons (pe_dget hu (pe_fldK (K := K) rfl (pv 3) rfl) (pe_tup (pa_cons (pv 8) (pa_cons (pv 11) pa_nil))) (fun _ _ => rfl)) pa_nil))) pe_int ⟨rfl, rfl, rfl, rfl⟩))
        (pss_cons (ps_set (i := 10) scLast.nd rfl (Or.inr rfl) (pe_dget2 hu (pv 5) (pe_tup (pa_cons (pv 7) (pa_cons (pv 8) pa_nil))) pe_int ⟨rfl, rfl, rfl, rfl⟩))
        (pss_cons (ps_if (PW.pt (pw_and (pt_cmpR op_eq (pv 10) pe_int (nomark _)) (pw_and1 (PW.pt (pw_or (pt_cmpR op_ne (pe_cmp (pc_din hu (pv 7) (pv 6))) (pe_cmp (pc_din hu (pv 8) (pv 6))) (nomark _)) (pw_or1 (pt_val (pe_callB (cr_any rfl) (by rfl) hAny (by decide +kernel) (pa_cons (pe_lc (own := [("goal", 12)]) (g := gName 12) (tt := tYes) rfl scLast.nd (pi_list (pv 9)) (blkOk_by (N := nLast) (sc := defScope sLast) (by decide +kernel)) (fun _ _ _ _ _ => pg_name (i := 12) scLast.nd rfl (Or.inl rfl)) (fun _ _ _ _ _ => pts_nil) (fun _ _ _ _ _ => pe_cmpR op_gt (pv 12) pe_int (nomark _))) pa_nil))))))))) (pss_one (ps_ret pe_bl)) pss_nil)
        (pss_one (ps_if (PW.pt (pw_and (pt_cmpR op_gt (pv 10) pe_int (nomark _)) (pw_and1 (pt_val (pe_callB (cr_any rfl) (by rfl) hAny (by decide +kernel) (pa_cons (pe_lc (own := [("goal", 12)]) (g := gName 12) (tt := tYes) rfl scLast.nd (pi_list (pv 9)) (blkOk_by (N := nLast) (sc := defScope sLast) (by decide +kernel)) (fun _ _ _ _ _ => pg_name (i := 12) scLast.nd rfl (Or.inl rfl)) (fun _ _ _ _ _ => pts_nil) (fun _ _ _ _ _ => pe_cmpR op_ge (pv 12) (pv 10) (nomark _))) pa_nil)))))) (pss_one (ps_ret pe_bl)) pss_nil))))) ?iSt))))
      (pss_one (ps_ret pe_bl)))))))), ?_⟩
    case iSt =>
      rintro D σ H ⟨x0, x1, x2, x4, x9, x10, x11, x12, r, d, W, dx, M, G, D0, t, p, hs, a, b, rfl, e1, ed0, ed, ew, ok, ha, hb, kf, kt⟩
      have hcs : p.sg.cps.toList.length = p.sg.cps.size := Array.length_toList
      have hx3 : p.sg.cps.size ≤ 3 := by
        have := ok.sgs
        rw [areS1] at this
        simp only [Bool.and_eq_true, decide_eq_true_eq] at this
        exact this.1.1.2
      refine ⟨_, rfl, r, dx, _, rfl, e1, r, dx, _, .str p.sg, rfl, e1, rfl, p.sg, rfl, fun DL hDL => ?_⟩
      refine lcG p.sg.cps.toList (fun c => some (V.int (hv hs (ledL p a c) (ledL p b c)))) (by rw [hcs]; exact walk_str) (by omega) hDL (fun i H x H' h => by rw [h.1]; exact Same.refl _) (fun _ _ => trivial) (fun i c y H4 H5 k1 hc sj hy k2 => ?_) (fun H7 s7 e7 => ?_)
      · obtain ⟨rfl, c', hc', rfl⟩ := hy
        rw [← Array.getElem?_toList, hc] at hc'
        obtain rfl := Option.some.inj hc'
        have hc1 : c ∈ p.sg.cps.toList := List.mem_of_getElem? hc
        have g1 := (ok.goal ha hc1).2
        have g2 := (ok.goal hb hc1).2
        refine ⟨rfl, ?_⟩
        refine ⟨_, rfl, d, rfl, .inr ⟨_, .inl (sj _ _ ed)⟩, _, rfl, r, C, dx, _, .ref D0, rfl, sj _ _ e1, T.cl, T.f5, rfl, _, rfl, _, rfl, (by show 2 ≤ sizeLine; decide), fun ta hta => ⟨D0, .str (ledL p a c), rfl, ?_, ?_⟩⟩
        · have := DGet.t (k := kT a c) (keep1 (sj _ _ ed0) hta) (upd_same (o := .tup ((kT a c).map kV)))
          rw [g1] at this
          exact this
        have sa : Same H5 (upd H5 ta (.tup ((kT a c).map kV))) := same_new hta
        show ∃ _, _
        generalize eHn : upd H5 ta (.tup ((kT a c).map kV)) = Hn at sa
        have eHn' : upd H5 ta (.tup [.str a, .str (sg c)]) = Hn := eHn
        rw [eHn']
        clear eHn eHn' hta
        have sb := sj.trans sa
        refine ⟨_, rfl, r, C, dx, _, .ref D0, rfl, sb _ _ e1, T.cl, T.f5, rfl, _, rfl, _, rfl, (by show 2 ≤ sizeLine; decide), fun tb htb => ⟨D0, .str (ledL p b c), rfl, ?_, (by show 2 ≤ sizeLine; decide), fun tq htq => ?_⟩⟩
        · have := DGet.t (k := kT b c) (keep1 (sb _ _ ed0) htb) (upd_same (o := .tup ((kT b c).map kV)))
          rw [g2] at this
          exact this
        have sc := (sa.trans (same_new htb)).trans (same_new (o := .tup [.str (ledL p a c), .str (ledL p b c)]) htq)
        refine ⟨_, DGet.t (k := My.k2 (ledL p a c) (ledL p b c)) (sc _ _ (sj _ _ ed)) upd_same, ?_⟩
        rw [hs_val, hv_get]
        exact k2 _ sc
      · rw [List.filterMap_eq_map'] at e7
        have ed7 := s7 _ _ ed
        refine ⟨_, rfl, d, rfl, .inr ⟨_, .inl ed7⟩, _, rfl, _, rfl, (by show 2 ≤ sizeLine; decide), fun tp htp => ⟨_, DGet.t (k := k2 a b) (keep1 ed7 htp) upd_same, ?_⟩⟩
        rw [hs_val, hv_get]
        have s8 := s7.trans (same_new (o := .tup [.str a, .str b]) htp)
        have e8 := keep1 (o := .tup [.str a, .str b]) e7 htp
        generalize upd H7 tp (.tup [.str a, .str b]) = H8 at s8 e8 ⊢
        have ew8 := s8 _ _ ew
        clear e7 s7 htp ed7
        generalize hh : hv hs a b = h at *
        have go : ∀ H', Same H H' → StepOk p hs a b → D.nx [x0, x1, x2, some (.ref r), x4, some (.ref d), some (.ref W), some (.str a), some (.str b), some (.ref DL), some (.int h), x11, x12] H' := fun H' s ok => kt ok _ _ H' s
        refine ⟨_, rfl, rfl, _, rfl, ?_⟩
        have wl : ∀ {H' : Hp}, Same H8 H' → SqL K H' DL (p.sg.cps.toList.map fun c => V.int (hv hs (ledL p a c) (ledL p b c))) := fun s => SqL.of (s _ _ e8)
        by_cases h0 : h = 0
        · subst h0
          refine ite2 (fun _ => ?_) (fun c => absurd (decide_eq_true rfl) c)
          refine ⟨_, rfl, _, rfl, W, _, rfl, DGet.k (k := Sum.inr a) ew8, _, rfl, _, rfl, W, _, rfl, DGet.k (k := Sum.inr b) ew8, rfl, _, rfl, ?_⟩
          rw [setD_val, setD_val]
          by_cases hg : (a ∈ p.gs ↔ b ∈ p.gs)
          rotate_left
          · refine ite2 (fun _ => kf (fun z => hg (z.1 hh).1) _ s8) (fun c => absurd ?_ c)
            have : ¬ (V.bl (decide (a ∈ p.gs)) = V.bl (decide (b ∈ p.gs))) := fun z => by
              injection z with z
              exact hg (decide_eq_decide.mp z)
            rw [decide_eq_false this]
            rfl
          have hb2 : decide (a ∈ p.gs) = decide (b ∈ p.gs) := decide_eq_decide.mpr hg
          rw [hb2]
          refine ite2 (fun c => ?_) (fun _ => ?_)
          · rw [decide_eq_true rfl] at c
            cases c
          refine ⟨_, rfl, DL, rfl, ⟨_, SqL.of e8⟩, fun D2 hD2 => ?_⟩
          refine lcG p.sg.cps.toList (fun c => some (V.bl (decide (hv hs (ledL p a c) (ledL p b c) > 0)))) (walk_listL (K := K) (a := DL) p.sg.cps.toList (fun c => V.int (hv hs (ledL p a c) (ledL p b c)))) (by omega) hD2 (yat_same _) (fun H' s' => wl s') (fun i c y H4 H5 k1 hc sj hy k2 => ?_) (fun H9 s9 e9 => ?_)
          · obtain ⟨rfl, hy⟩ := hy
            obtain rfl := map_get hc hy
            exact ⟨rfl, _, rfl, _, _, rfl, rfl, k2 _ (Same.refl _)⟩
          · rw [List.filterMap_eq_map'] at e9
            refine ⟨D2, p.sg.cps.toList.map fun c => decide (hv hs (ledL p a c) (ledL p b c) > 0), rfl, SqL.of (by rw [List.map_map]; exact e9), _, rfl, ite2 (fun c => ?_) (fun c => ?_)⟩
            · refine kf (fun z => ?_) _ (s8.trans s9)
              obtain ⟨x, hx, hx2⟩ := List.any_eq_true.mp c
              obtain ⟨c', hc', rfl⟩ := List.mem_map.mp hx
              exact (z.1 hh).2 c' hc' (of_decide_eq_true hx2)
            · refine ⟨_, rfl, _, _, rfl, rfl, _, rfl, ite2 (fun c2 => absurd (of_decide_eq_true c2) (by decide)) (fun _ => iteF ?_)⟩
              refine go _ (s8.trans s9) ⟨fun _ => ⟨hg, fun c' hc' z => c (List.any_eq_true.mpr ⟨_, List.mem_map.mpr ⟨c', hc', rfl⟩, decide_eq_true z⟩)⟩, fun z => ?_⟩
              rw [hh] at z
              exact absurd z (by decide)
        · refine ite2 (fun c => absurd ?_ h0) (fun _ => iteF ?_)
          · have := of_decide_eq_true c
            injection this
          refine ⟨_, rfl, _, _, rfl, rfl, _, rfl, ite2 (fun c => ?_) (fun c => iteF ?_)⟩
          rotate_left
          · refine go _ s8 ⟨fun z => absurd (hh.symm.trans z) h0, fun z => ?_⟩
            rw [hh] at z
            exact absurd (decide_eq_true z) c
          have hp : h > 0 := of_decide_eq_true c
          refine ⟨_, rfl, DL, rfl, ⟨_, SqL.of e8⟩, fun D2 hD2 => ?_⟩
          refine lcG p.sg.cps.toList (fun c => some (V.bl (decide (hv hs (ledL p a c) (ledL p b c) ≥ h)))) (walk_listL (K := K) (a := DL) p.sg.cps.toList (fun c => V.int (hv hs (ledL p a c) (ledL p b c)))) (by omega) hD2 (yat_same _) (fun H' s' => wl s') (fun i c y H4 H5 k1 hc sj hy k2 => ?_) (fun H9 s9 e9 => ?_)
          · obtain ⟨rfl, hy⟩ := hy
            obtain rfl := map_get hc hy
            exact ⟨rfl, _, rfl, _, rfl, _, _, rfl, rfl, k2 _ (Same.refl _)⟩
          · rw [List.filterMap_eq_map'] at e9
            refine ⟨D2, p.sg.cps.toList.map fun c => decide (hv hs (ledL p a c) (ledL p b c) ≥ h), rfl, SqL.of (by rw [List.map_map]; exact e9), _, rfl, ite2 (fun c => ?_) (fun c => ?_)⟩
            · refine kf (fun z => ?_) _ (s8.trans s9)
              obtain ⟨x, hx, hx2⟩ := List.any_eq_true.mp c
              obtain ⟨c', hc', rfl⟩ := List.mem_map.mp hx
              exact z.2 (by rw [hh]; exact hp) c' hc' (by rw [hh]; exact of_decide_eq_true hx2)
            · refine go _ (s8.trans s9) ⟨fun z => absurd (hh.symm.trans z) h0, fun _ c' hc' z => c (List.any_eq_true.mpr ⟨_, List.mem_map.mpr ⟨c', hc', rfl⟩, decide_eq_true (by rw [hh] at z; exact z)⟩)⟩
    have ok := parts_ok pt
    have zm : p.ms.length ≤ 300 := by
      have := ok.mds
      unfold areMoodsL at this
      simp only [Bool.and_eq_true, decide_eq_true_eq] at this
      omega
    have zg : p.gs.length ≤ 300 := by
      have h2 := ok.gds
      unfold areGoodL at h2
      have h3 : p.gs.length ≤ p.ms.length := by
        rw [of_decide_eq_true h2]
        exact List.length_filter_le _ _
      omega
    refine ⟨_, rfl, t, p, rfl, zt, ot, pt, fun r H1 s1 hA => ?_⟩
    refine ⟨_, rfl, rfl, _, rfl, iteF ?_⟩
    obtain ⟨dn, shn, ibn⟩ := (hN.keep (H' := H1)).sh (K := K)
    refine ⟨_, rfl, nv, dn, 0, 1000, rfl, shn, _, rfl, ?_⟩
    rw [ibn]
    by_cases hn : ∃ n, no = some n ∧ 0 ≤ n ∧ n ≤ 1000
    rotate_left
    · have hz : nuB no 0 1000 = false := by
        cases no with
        | none => rfl
        | some k =>
          show (decide (0 ≤ k) && decide (k ≤ 1000)) = false
          rw [Bool.and_eq_false_iff, decide_eq_false_iff_not, decide_eq_false_iff_not]
          by_cases h1 : 0 ≤ k
          · exact .inr fun h2 => hn ⟨k, rfl, h1, h2⟩
          · exact .inl h1
      rw [hz]
      exact iteT (kk false _ s1 ⟨(fun z => by cases z), fun ⟨n, e, a, b, _⟩ => absurd ⟨n, e, a, b⟩ hn⟩)
    obtain ⟨n, rfl, n0, n1⟩ := hn
    have hz : nuB (some n) 0 1000 = true := by
      show (decide (0 ≤ n) && decide (n ≤ 1000)) = true
      rw [decide_eq_true n0, decide_eq_true n1]
      rfl
    rw [hz]
    refine iteF ?_
    have e3 : nv = .int n := by cases hN; rfl
    subst e3
    refine ⟨_, rfl, r, t, p, rfl, hA, ok, fun l ws H2 s2 nl el cl few => ?_⟩
    have hP2 := (hP.same s1).same s2
    refine ⟨_, rfl, _, rfl, _, rfl, l, ws, n, v, o, rfl, el, by omega, hP2, fun nb H3 s3 => ?_, fun qs eo gq lq d H3 nd s3 ed => ?_⟩
    · refine ⟨_, rfl, rfl, _, rfl, iteT (kk false _ ((s1.trans s2).trans s3) ⟨(fun z => by cases z), fun ⟨n', e, _, _, qs, h1, h2, h3, _⟩ => ?_⟩)⟩
      obtain rfl := Option.some.inj e
      exact absurd ⟨qs, h1, (goodH_iff cl).mpr ⟨h2, h3⟩⟩ nb
    refine ⟨_, rfl, rfl, _, rfl, iteF ?_⟩
    have hA := (hA.same s2).same s3
    obtain ⟨dx, M, G, D0, e1, em, eg, ed0⟩ := id hA
    have el := s3 _ _ el
    refine ⟨_, rfl, r, dx, _, rfl, e1, r, dx, _, .ref G, rfl, e1, rfl, G, p.gs, rfl, eg, by omega, fun W H4 s4 w => ?_⟩
    have sA := ((s1.trans s2).trans s3).trans s4
    have e1 := s4 _ _ e1
    have ed0 := s4 _ _ ed0
    have el := s4 _ _ el
    have ed := s4 _ _ ed
    have bad : ∀ (a b : Str) (H' : Hp), a ∈ ws → b ∈ ws → ¬ StepOk p qs a b → Same H4 H' → Q (.bl false) H' := fun a b H' ha hb n s' => kk false H' (sA.trans s') ⟨(fun z => by cases z), fun ⟨n', e, _, _, hh⟩ => by
      obtain rfl := Option.some.inj e
      exact absurd ((holdsH_iff cl eo gq).mp hh a ha b hb) n⟩
    refine ⟨_, rfl, l, rfl, ⟨_, SqL.of el⟩, ?_⟩
    refine for_it (walk_listL (K := K) (a := l) ws V.str) (fun i σ H' => ∃ x7 x8 x9 x10, σ = [some (.str t), some (.int n), some v, some (.ref r), some (.ref l), some (.ref d), some (.ref W), x7, x8, x9, x10, none, none] ∧ Same H4 H' ∧ ∀ a ∈ ws.take i, ∀ b ∈ ws, StepOk p qs a b)
      ⟨none, none, none, none, rfl, Same.refl _, fun _ m => by cases m⟩ (fun i σ H' _ h => ?_) (fun i y σ H' H'' hi h hy => ?_) (fun σ H5 h => ?_)
    · obtain ⟨_, _, _, _, _, st, _⟩ := h
      exact SqL.of (st _ _ el)
    · obtain ⟨rfl, hy⟩ := hy
      obtain ⟨x7, x8, x9, x10, rfl, st, hall⟩ := h
      have ha : ws[i]? = some ws[i] := List.getElem?_eq_getElem hi
      obtain rfl := map_get ha hy
      generalize ws[i] = a at ha
      have ham := List.mem_of_getElem? ha
      refine ⟨_, rfl, l, rfl, ⟨_, SqL.of (st _ _ el)⟩, ?_⟩
      refine for_it (walk_listL (K := K) (a := l) ws V.str) (fun j σ H' => ∃ x8 x9 x10, σ = [some (.str t), some (.int n), some v, some (.ref r), some (.ref l), some (.ref d), some (.ref W), some (.str a), x8, x9, x10, none, none] ∧ Same H4 H' ∧ ∀ b ∈ ws.take j, StepOk p qs a b)
        ⟨x8, x9, x10, rfl, st, fun _ m => by cases m⟩ (fun i σ H' _ h => ?_) (fun j y σ H6 H7 hj h hy => ?_) (fun σ H5 h => ?_)
      · obtain ⟨_, _, _, _, st, _⟩ := h
        exact SqL.of (st _ _ el)
      · obtain ⟨rfl, hy⟩ := hy
        obtain ⟨x8, x9, x10, rfl, st, hb⟩ := h
        have hbj : ws[j]? = some ws[j] := List.getElem?_eq_getElem hj
        obtain rfl := map_get hbj hy
        generalize ws[j] = b at hbj
        have hbm := List.mem_of_getElem? hbj
        refine ⟨_, _, _, _, _, _, _, _, r, d, W, dx, M, G, D0, t, p, qs, a, b, rfl, st _ _ e1, st _ _ ed0, st _ _ ed, st _ _ w, ok, ((cl.2 a).mp ham).mem ok, ((cl.2 b).mp hbm).mem ok, fun nz H' s' => bad a b H' ham hbm nz (st.trans s'), fun z y9 y10 H' s' => ⟨_, _, _, rfl, st.trans s', fun b' m => ?_⟩⟩
        rw [List.take_add_one, hbj] at m
        rcases List.mem_append.mp m with m | m
        · exact hb b' m
        · obtain rfl : b' = b := by simpa using m
          exact z
      · obtain ⟨x8, x9, x10, rfl, st, hb⟩ := h
        rw [List.take_length] at hb
        refine ⟨_, _, _, _, rfl, st, fun a' m => ?_⟩
        rw [List.take_add_one, ha] at m
        rcases List.mem_append.mp m with m | m
        · exact hall a' m
        · obtain rfl : a' = a := by simpa using m
          exact hb
    · obtain ⟨x7, x8, x9, x10, rfl, st, hall⟩ := h
      rw [List.take_length] at hall
      exact kk true _ (sA.trans st) ⟨fun _ => ⟨n, rfl, n0, n1, (holdsH_iff cl eo gq).mpr hall⟩, fun _ => rfl⟩
end
end My
namespace My
open PySem PySem.Spec PyProof.Rows L2 PySem.GX L2H LamX
def spAccL (C : Addr) : Sp := fun vs H Q _ => ∃ (c : Addr) (t : Str) (p : Parts) (nv v : V) (no : Option Int) (o : Option (List Itt)), vs = [.ref c, v] ∧ H c = some (.tup [.str "last", .str t, nv]) ∧ t.length ≤ 1000000 ∧ PyData.strOk t = true ∧ parseL t = some p ∧ NuAt H nv no ∧ PapH H v o ∧
  ∀ (b : Bool) (H' : Hp), Same H H' → (b = true ↔ ∃ n, no = some n ∧ 0 ≤ n ∧ n ≤ 1000 ∧ HoldsH p n o) → Q (.bl b) H'
section
variable {P : Program} {w : World} {K : PySem.W.Frag} {mg : Str → Option Value} {base : Heap}
abbrev nAccL : List Str := ["claim", "paper", "check"]
theorem scAccL : FnScope nAccL ["claim", "paper"] (defScope sAccepts) := ⟨rfl, rfl, rfl, by decide +kernel, rfl, by decide +kernel, by decide +kernel⟩
theorem ok_accL {f C aC fN : Addr} {fd fdN : FuncData} {es : Array DictEntry} {n : Nat} (F : Fun K "accepts" "accepts" sAccepts f fd) (D : KDict K w aC es n) (gC : mg "CLAIMS" = some (.ref aC)) (eC : PySem.W.nsIn K aC "last" = some (some (.ref fN)))
    (GN : FnOk P w K mg base CX0 8 fN fdN ["text", "number", "paper"] (spLast C)) (kN : PySem.W.keepIn K (.ref fN) = true) (bN : Binds K fdN ["text", "number", "paper"] [])
    (hIs : mg "isinstance" = none) (hSt : mg "str" = none) (hTu : mg "tuple" = none) (hL : mg "len" = none) : FnOk P w K mg base CX0 9 f fd ["claim", "paper"] (spAccL C) := by
  refine F.ok scAccL (fun vs H Q E h => ?_) (fun cdv A outer s H vs Q E hr h => ?_)
  · obtain ⟨c, t, p, nv, v, no, o, rfl, _⟩ := h
    rfl
  · obtain ⟨c, t, p, nv, v, no, o, rfl, ec, rest⟩ := h
    refine ⟨_, pss_cons (ps_if (pt_not (PW.pt (pw_and (pt_val (pe_callB call_isi (by rfl) hIs (by decide +kernel) (pa_cons (pv 0) (pa_cons (pe_bltn (v := .ty "tuple") (by rfl) hTu (by decide +kernel) rfl) pa_nil)))) (pw_and (pt_cmpR op_eq (pe_callB call_len_seq (by rfl) hL PySem.boot_len (pa_cons (pv 0) pa_nil)) pe_int (nomark _)) (pw_and (pt_val (pe_callB call_isi (by rfl) hIs (by decide +kernel) (pa_cons (pe_ix ix_tup (pv 0) pe_int (fun _ _ => rfl)) (pa_cons (pe_bltn (v := .ty "str") (by rfl) hSt (by decide +kernel) rfl) pa_nil)))) (pw_and1 (pt_cmpR (op_in_kd D) (pe_ix ix_tup (pv 0) pe_int (fun _ _ => rfl)) (pe_glob (v := .ref aC) rfl gC rfl) (by rfl)))))))) (pss_one (ps_ret pe_bl)) pss_nil)
      (pss_cons (ps_set (i := 2) scAccL.nd rfl (Or.inl rfl) (pe_ix ix_kdict (pe_glob (v := .ref aC) rfl gC rfl) (pe_ix ix_tup (pv 0) pe_int (fun _ _ => rfl)) (fun _ _ => rfl)))
      (pss_one (ps_ret (pe_callL (i := 2) GN hr rfl (.inl rfl) kN bN .nil pass0 (pa_cons (pe_ix ix_tup (pv 0) pe_int (fun _ _ => rfl)) (pa_cons (pe_ix ix_tup (pv 0) pe_int (fun _ _ => rfl)) (pa_cons (pv 1) pa_nil))))))), ?_⟩
    refine ⟨_, rfl, .ref c, .ty "tuple", _, .type "tuple", true, rfl, .ty _, .base (.tup ec), kit_ty (by decide +kernel), _, rfl, iteT ?_⟩
    refine ⟨_, rfl, c, _, rfl, .inr (SqT.of ec), rfl, _, rfl, iteT ?_⟩
    refine ⟨_, rfl, c, _, _, V.str "last", rfl, rfl, SqT.of ec, atI_nat (j := 0) rfl, .str "last", .ty "str", _, .type "str", true, rfl, .ty _, .base (.str "last"), kit_ty (by decide +kernel), _, rfl, iteT ?_⟩
    refine ⟨_, rfl, c, _, _, V.str "last", rfl, rfl, SqT.of ec, atI_nat (j := 0) rfl, "last", some (.ref fN), rfl, rfl, eC, _, rfl, iteF ?_⟩
    refine ⟨_, rfl, c, _, _, V.str "last", rfl, rfl, SqT.of ec, atI_nat (j := 0) rfl, aC, "last", .ref fN, rfl, rfl, ⟨es, n, .ref fN, D.at_, D.lit, eC, rfl⟩, ?_⟩
    exact ⟨rfl, _, rfl, c, _, _, V.str t, rfl, rfl, SqT.of ec, atI_nat (j := 1) rfl, _, rfl, c, _, _, nv, rfl, rfl, SqT.of ec, atI_nat (j := 2) rfl, _, rfl, t, p, nv, v, no, o, rfl, rest⟩
end
end My
namespace My
open PySem PySem.Spec PyProof.Rows L2 PySem.GX L2H LamX
/-- the moods that come behind a mood -/
inductive ComeB (p : Parts) (b0 : Str) : Str → Prop
  | first : ComeB p b0 b0
  | step {m : Str} {c : Nat} : ComeB p b0 m → c ∈ p.sg.cps.toList → ComeB p b0 (ledL p m c)
theorem ComeB.mem {p : Parts} {b0 : Str} (ok : PartsOk p) (hb0 : b0 ∈ p.ms) {m : Str} (h : ComeB p b0 m) : m ∈ p.ms := by
  induction h with
  | first => exact hb0
  | step _ hc ih => exact (ok.goal ih hc).1
theorem come_b {p : Parts} {m : Str} : ComeB p (firstL p) m ↔ Come p m := by
  constructor
  · intro h
    induction h with
    | first => exact .first
    | step _ hc ih => exact .step ih hc
  · intro h
    induction h with
    | first => exact .first
    | step _ hc ih => exact .step ih hc
theorem ComeB.front {p : Parts} {b0 : Str} {c : Nat} (hc : c ∈ p.sg.cps.toList) {m : Str} (h : ComeB p (ledL p b0 c) m) : ComeB p b0 m := by
  induction h with
  | first => exact .step .first hc
  | step _ hc ih => exact .step ih hc
/-- just these come, each once -/
def ComeBL (p : Parts) (b0 : Str) (ws : List Str) : Prop := ws.Nodup ∧ ∀ m, m ∈ ws ↔ ComeB p b0 m
/-- found so far; behind those up to k all is found -/
structure FoundB (p : Parts) (b0 : Str) (ws : List Str) (k : Nat) : Prop where
  nd : ws.Nodup
  come : ∀ m ∈ ws, ComeB p b0 m
  first : b0 ∈ ws
  closed : ∀ i m, i < k → ws[i]? = some m → ∀ c ∈ p.sg.cps.toList, ledL p m c ∈ ws
theorem FoundB.few {p : Parts} {b0 : Str} {ws : List Str} {k : Nat} (h : FoundB p b0 ws k) (ok : PartsOk p) (hb0 : b0 ∈ p.ms) : ws.length ≤ p.ms.length := nodup_len h.nd fun x hx => (h.come x hx).mem ok hb0
theorem FoundB.put {p : Parts} {b0 : Str} {ws : List Str} {k : Nat} (h : FoundB p b0 ws k) {g : Str} (hg : ComeB p b0 g) (n : g ∉ ws) (hk : k ≤ ws.length) : FoundB p b0 (ws ++ [g]) k := by
  refine ⟨?_, fun m hm => ?_, List.mem_append_left _ h.first, fun i m hi e c hc => ?_⟩
  · rw [List.nodup_append]
    refine ⟨h.nd, by simp, fun x hx y hy z => ?_⟩
    rw [List.mem_singleton] at hy
    exact n (hy ▸ z ▸ hx)
  · rcases List.mem_append.mp hm with hm | hm
    · exact h.come m hm
    · rw [List.mem_singleton] at hm
      subst hm
      exact hg
  · rw [List.getElem?_append_left (by omega)] at e
    exact List.mem_append_left _ (h.closed i m hi e c hc)
theorem FoundB.all {p : Parts} {b0 : Str} {ws : List Str} (h : FoundB p b0 ws ws.length) : ComeBL p b0 ws := by
  refine ⟨h.nd, fun m => ⟨h.come m, fun hm => ?_⟩⟩
  induction hm with
  | first => exact h.first
  | step _ hc ih =>
    obtain ⟨i, hi, e⟩ := List.getElem_of_mem ih
    exact h.closed i _ hi (by rw [← e]; exact List.getElem?_eq_getElem hi) _ hc
def spReachedB : Sp := fun vs H Q _ => ∃ (q : Addr) (p : Parts) (b0 : Str), vs = [.ref q, .str b0] ∧ BxF H q p p.ms ∧ PartsOk p ∧ b0 ∈ p.ms ∧ ∀ (l : Addr) (ws : List Str) (H' : Hp), Same H H' → H l = none → H' l = some (.lst (ws.map V.str)) → ComeBL p b0 ws → ws.length ≤ p.ms.length → Q (.ref l) H'
section
variable {P : Program} {w : World} {K : PySem.W.Frag} {mg : Str → Option Value} {base : Heap}
abbrev nReached : List Str := ["_law_box_here", "_law_begin", "_law_found", "_law_at", "_law_letter", "_law_aim_here"]
theorem scReached : FnScope nReached ["_law_box_here", "_law_begin"] (defScope sReached) := ⟨rfl, rfl, rfl, by decide +kernel, rfl, by decide +kernel, by decide +kernel⟩
def atR (σ : List (Option V)) : Nat := match σ[3]? with
  | some (some (V.int n)) => 400 - n.toNat
  | _ => 0
theorem ok_reachedB {f : Addr} {fd : FuncData} (F : Fun K "_law_reached" "_law_reached" sReached f fd) (hL : mg "len" = none) : FnOk P w K mg base CX0 1 f fd ["_law_box_here", "_law_begin"] spReachedB := by
  refine F.ok scReached (fun vs H Q E h => ?_) (fun cdv A outer s H vs Q E hr h => ?_)
  · obtain ⟨q, p, b0, rfl, _⟩ := h
    rfl
  · obtain ⟨q, p, b0, rfl, ⟨lw, lf, g, kvs, eq, ew, ef, eg, cv⟩, ok, hb0, kk⟩ := h
    have hu := hu_of hr
    refine ⟨_, pss_cons (ps_par (i := 2) (j := 3) rfl scReached.nd rfl rfl (by decide) rfl rfl (pa_cons (pe_lst (pa_cons (pv 1) pa_nil)) (pa_cons pe_int pa_nil)) rfl)
      (pss_cons (ps_while PassesOwn.never (pt_cmpR op_lt (pv 3) (pe_callB call_len_seq (by rfl) hL PySem.boot_len (pa_cons (pv 2) pa_nil)) (nomark _))
        (pss_cons (ps_for PassesOwn.never rfl (pi_str (pe_ix ix_tup (pv 0) pe_int (fun _ _ => rfl))) (pg_name (i := 4) scReached.nd rfl (Or.inl rfl))
          (pss_cons (ps_set (i := 5) scReached.nd rfl (Or.inl rfl) (pe_dget hu (pe_ix ix_tup (pv 0) pe_int (fun _ _ => rfl)) (pe_tup (pa_cons (pe_ix ix_list (pv 2) (pv 3) (fun _ _ => rfl)) (pa_cons (pv 4) pa_nil))) (fun _ _ => rfl)))
          (pss_one (ps_if (pt_cmpR op_notIn_seq (pv 5) (pv 2) (by rfl)) (pss_one (ps_expr (pe_bm PySem.F.plainAttrs_list PySem.F.slot_list_append PySem.F.type_list_append mt_append (pv 2) (pa_cons (pv 5) pa_nil)))) pss_nil))))
        (pss_one (ps_set (i := 3) scReached.nd rfl (Or.inl rfl) (pe_op op_add (pv 3) pe_int)))))
      (pss_one (ps_ret (pv 2)))), ?_⟩
    have zm : p.ms.length ≤ 300 := by
      have := ok.mds
      unfold areMoodsL at this
      simp only [Bool.and_eq_true, decide_eq_true_eq] at this
      omega
    refine ⟨_, rfl, by show 1 ≤ sizeLine; decide, fun l hl => ⟨_, _, rfl, ?_⟩⟩
    have s1 := same_new (o := .lst [.str b0]) hl
    have el := upd_same (a := l) (H := H) (o := .lst [.str b0])
    have fl : ∀ b o, H b = some o → b ≠ l := fun b o e => ne_of_none e hl
    generalize upd H l (.lst [.str b0]) = H2 at s1 el ⊢
    have nq := fl _ _ eq
    have ng := fl _ _ eg
    have eq2 := s1 _ _ eq
    have eg2 := s1 _ _ eg
    refine while_by (fun σ H' => ∃ (n : Nat) (v4 v5 : Option V) (ws : List Str), σ = [some (.ref q), some (.str b0), some (.ref l), some (.int (n : Int)), v4, v5] ∧ (∀ b o, b ≠ l → H2 b = some o → H' b = some o) ∧ H' l = some (.lst (ws.map V.str)) ∧ FoundB p b0 ws n ∧ n ≤ ws.length) (fun σ _ => atR σ)
      ⟨0, none, none, [b0], rfl, fun _ _ _ e => e, el, ⟨by simp, fun m hm => by rw [List.mem_singleton] at hm; rw [hm]; exact .first, by simp, fun i m hi => absurd hi (Nat.not_lt_zero i)⟩, Nat.zero_le _⟩ (fun σ H3 h => ?_) ?mono
    case mono =>
      rintro σ H Q Q' m ⟨a1, a2, a3, a4, a5, a6, a7, a8, a9, a10, a11, a12, a13, a14, q⟩
      exact ⟨a1, a2, a3, a4, a5, a6, a7, a8, a9, a10, a11, a12, a13, a14, m _ _ q⟩
    obtain ⟨n, v4, v5, ws, rfl, ks, el3, fo, hn⟩ := h
    have fw := fo.few ok hb0
    refine ⟨_, rfl, _, rfl, l, _, rfl, .inl (SqL.of el3), _, _, rfl, rfl, _, rfl, ite2 (fun c => ?_) (fun c => ?_)⟩
    · have c1 : (n : Int) < ((ws.map V.str).length : Int) := of_decide_eq_true c
      rw [List.length_map] at c1
      have hlt : n < ws.length := by omega
      clear c c1
      have hm : ws[n]? = some ws[n] := List.getElem?_eq_getElem hlt
      generalize ws[n] = m at hm
      have cm := fo.come m (List.mem_of_getElem? hm)
      refine ⟨_, rfl, q, _, _, V.str p.sg, rfl, rfl, SqT.of (ks _ _ nq eq2), atI_nat (j := 0) rfl, p.sg, rfl, ?_⟩
      refine for_it walk_str (fun i σ H' => ∃ (v4 v5 : Option V) (ws' : List Str), σ = [some (.ref q), some (.str b0), some (.ref l), some (.int (n : Int)), v4, v5] ∧ (∀ b o, b ≠ l → H2 b = some o → H' b = some o) ∧ H' l = some (.lst (ws'.map V.str)) ∧ FoundB p b0 ws' n ∧ n < ws'.length ∧ ws'[n]? = some m ∧ ∀ c ∈ p.sg.cps.toList.take i, ledL p m c ∈ ws')
        ⟨v4, v5, ws, rfl, ks, el3, fo, hlt, hm, fun _ z => by cases z⟩ (fun _ _ _ _ _ => trivial) (fun i y σ H4 H5 hi h hy => ?_) (fun σ H4 h => ?_)
      · obtain ⟨rfl, c, hc, rfl⟩ := hy
        obtain ⟨v4, v5, ws', rfl, ks', el', fo', hlt', hm', cl⟩ := h
        rw [← Array.getElem?_toList] at hc
        have hc1 : c ∈ p.sg.cps.toList := List.mem_of_getElem? hc
        have hg := cv m (cm.mem ok hb0) c hc1
        have cg := ComeB.step cm hc1
        have ect : p.sg.cps.toList.take (i + 1) = p.sg.cps.toList.take i ++ [c] := by rw [List.take_add_one, hc]; rfl
        have fw' := fo'.few ok hb0
        refine ⟨_, rfl, q, _, _, V.ref g, rfl, rfl, SqT.of (ks' _ _ nq eq2), atI_nat (j := 3) rfl, _, rfl, _, rfl, l, _, _, V.str m, rfl, rfl, SqL.of el', atI_nat (by rw [List.getElem?_map, hm']; rfl), _, rfl, (by show 2 ≤ sizeLine; decide), fun ta hta => ⟨g, .str (ledL p m c), rfl, ?_, ?_⟩⟩
        · have := DGet.t (k := kT m c) (keep1 (ks' _ _ ng eg2) hta) (upd_same (o := .tup ((kT m c).map kV)))
          rw [hg] at this
          exact this
        have sa := same_new (o := .tup ((kT m c).map kV)) hta
        have ks6 : ∀ b o, b ≠ l → H2 b = some o → upd H5 ta (.tup ((kT m c).map kV)) b = some o := fun b o n1 e => sa _ _ (ks' b o n1 e)
        have el6 := sa _ _ el'
        show ∃ _, _
        generalize eHn : upd H5 ta (.tup ((kT m c).map kV)) = Hn at ks6 el6
        have eHn' : upd H5 ta (.tup [.str m, .str (sg c)]) = Hn := eHn
        rw [eHn']
        clear eHn eHn' hta sa
        generalize hgg : ledL p m c = g' at cg
        refine ⟨_, rfl, _, rfl, l, _, rfl, .inl (SqL.of el6), rfl, flat_strs _, _, rfl, ?_⟩
        have eit : ∀ b : Bool, (if true = true then !b else b) = !b := fun _ => rfl
        rw [eit, in_strs]
        by_cases hin : g' ∈ ws'
        · rw [decide_eq_true hin]
          refine iteF ⟨_, _, ws', rfl, ks6, el6, fo', hlt', hm', fun c' hc' => ?_⟩
          rw [ect] at hc'
          rcases List.mem_append.mp hc' with hc' | hc'
          · exact cl c' hc'
          · rw [List.mem_singleton] at hc'
            rw [hc', hgg]
            exact hin
        · rw [decide_eq_false hin]
          refine iteT ?_
          refine ⟨_, rfl, .inl ⟨rfl, _, SqL.of el6⟩, _, rfl, l, _, _, rfl, rfl, el6, ?_, ?_⟩
          · rw [List.length_map, sizeLine_eq]
            omega
          · refine ⟨_, _, ws' ++ [g'], rfl, fun b o n1 e => by rw [upd_ne n1]; exact ks6 b o n1 e, by rw [upd_same, List.map_append]; rfl, fo'.put cg hin (by omega), by rw [List.length_append]; omega, by rw [List.getElem?_append_left hlt']; exact hm', fun c' hc' => ?_⟩
            rw [ect] at hc'
            rcases List.mem_append.mp hc' with hc' | hc'
            · exact List.mem_append_left _ (cl c' hc')
            · rw [List.mem_singleton] at hc'
              rw [hc', hgg]
              simp
      · obtain ⟨v4, v5, ws', rfl, ks', el', fo', hlt', hm', cl⟩ := h
        have fw' := fo'.few ok hb0
        have hcs : p.sg.cps.toList.take p.sg.cps.size = p.sg.cps.toList := by rw [← Array.length_toList, List.take_length]
        rw [hcs] at cl
        refine ⟨_, rfl, _, _, rfl, rfl, ⟨n + 1, _, _, ws', by rw [show ((n + 1 : Nat) : Int) = (n : Int) + 1 by omega]; rfl, ks', el', ⟨fo'.nd, fo'.come, fo'.first, fun i m' hi e c hc => ?_⟩, by omega⟩, ?_⟩
        · by_cases hin : i < n
          · exact fo'.closed i m' hin e c hc
          · have : i = n := by omega
            subst this
            rw [hm'] at e
            obtain rfl := Option.some.inj e
            exact cl c hc
        · show 400 - ((n : Int) + 1).toNat < 400 - (n : Int).toNat
          omega
    · have c1 : ¬ (n : Int) < ((ws.map V.str).length : Int) := fun z => c (decide_eq_true z)
      rw [List.length_map] at c1
      have : n = ws.length := by omega
      subst this
      exact ⟨_, rfl, kk l ws _ (fun b o e => ks b o (fl _ _ e) (s1 _ _ e)) hl el3 fo.all fw⟩
end
end My
namespace L2
open PySem PySem.Spec PyProof.Rows PySem.GX
section
variable {X : Cx}
/-- name = {k: v for ..} on one line, the name a local -/
theorem ps_setDc {i : Nat} {y : Str} {py : Pos} {kx vx tg iter : Expr} {ifs : List Expr} {scope : Scope} {own : List (Str × Nat)} {pos spos : Pos} {wi : TI} {g : TG} {tt : TT} {tk tv : TE} (hc : X.calm = true) (hN : X.N.Nodup) (hy : X.N[i]? = some y) (hyl : X.env.scope.names.lookup y = some .local)
    (hsw : swapsWith (.DictComp kx vx [⟨tg, iter, ifs, 0⟩] scope pos) (some (.Name y py)) spos.line X.env = pure true) (hi : PI X tg iter wi) (ok : BlkOk X.N X.env.scope scope own)
    (hg : ∀ (s : Shared) (H : Hp) (C : Addr) (cl : List (Str × Addr)) (fp : List Addr), PG (X.blk s H scope (compEnvC scope cl C X.env) fp) tg g) (ht : ∀ (s : Shared) (H : Hp) (C : Addr) (cl : List (Str × Addr)) (fp : List Addr), PTs (X.blk s H scope (compEnvC scope cl C X.env) fp) ifs tt)
    (hk : ∀ (s : Shared) (H : Hp) (C : Addr) (cl : List (Str × Addr)) (fp : List Addr), PE (X.blk s H scope (compEnvC scope cl C X.env) fp) kx tk)
    (he : ∀ (s : Shared) (H : Hp) (C : Addr) (cl : List (Str × Addr)) (fp : List Addr), PE (X.blk s H scope (compEnvC scope cl C X.env) fp) vx tv) (hs : ∀ x, foldedSetIterable iter X.env x = pure x := by intro _; rfl) :
    PS X (.Assign [.Name y py] (.DictComp kx vx [⟨tg, iter, ifs, 0⟩] scope pos) spos) (tAsg (tDc wi g tt tk tv (own.map (·.2))) (gName i)) := by
  refine ⟨fun pins s σ H D I h => ?_⟩
  rw [exec_Assign_Name_used _ _ _ _ hsw]
  refine wpAny_bind (wpAny_standAt (wpAny_bind ?_))
  show wpAny _ X.A (do let _ ← comprehension (.DictComp kx vx [⟨tg, iter, ifs, 0⟩] scope pos) scope X.env (firstIterPos [⟨tg, iter, ifs, 0⟩] pos) newDict false (eval iter X.env) (some (assign (.Name y py) X.env))) _ _ s
  have h : tDc wi g tt tk tv (own.map (·.2)) σ H (fun x H1 => gName i x σ H1 D.nx) := h
  refine wpAny_bind (thn (dc_core (Qf := fun _ s' => SP X pins D .next s') hc hN I hi ok hg ht hk he hs h fun L C s' m H' I' q hn f => ?_) fun _ s' hq => wpAny_pure (wpAny_pure hq))
  show wpAny _ _ (assign (.Name y py) X.env (.ref L)) _ _ _
  refine wpAny_assign_Name (store_ok2 (v := V.ref L) I' hN hy (.inl hyl) rfl (fun s2 I2 ⟨a, sb, ha⟩ => ?_) (.inr hyl))
  obtain ⟨f0, f1, f2, f3, f4, f5⟩ := f
  have haC : C ≠ a := by
    rcases ha with z | z
    · rw [z]; exact f1
    · exact fun e => f4 y a z e.symm
  refine ⟨m, hn.sameBut sb haC, fun h3 sb3 => ?_⟩
  exact ⟨_, H', I2.turned (t' := s2.toks) (fun b o hb e => (sb3.2 b hb).trans e) f0 f1 f3 f4 f5, q⟩
theorem sw_trueD {kx vx : Expr} {gs : List Comprehension} {scope : Scope} {pos py : Pos} {y : Str} {l : Nat} {env : Env} (hk : env.scope.kind = .function) (hy : env.scope.names.lookup y = some .local) (hl : (py.line == pos.line) = true)
    (ha : (scope.names.any fun (n, k) => n == y && (k == .local || k == .cell)) = false) : swapsWith (.DictComp kx vx gs scope pos) (some (.Name y py)) l env = pure true := by
  have ky : env.kindOf y = some .local := hy
  have hb : env.blockKind = .function := by unfold Env.blockKind; rw [hk]; rfl
  unfold swapsWith
  simp only [hb, ky, ha, Expr.pos, hl]
  rfl
end
end L2
namespace My
open PySem PySem.Spec PyProof.Rows L2 PySem.GX L2H LamX
/-- a mood from which a good one can come -/
def Lv (p : Parts) (m : Str) : Prop := ∃ g, ComeB p m g ∧ g ∈ p.gs
theorem Lv.back {p : Parts} {m : Str} {c : Nat} (hc : c ∈ p.sg.cps.toList) (h : Lv p (ledL p m c)) : Lv p m := let ⟨g, a, b⟩ := h; ⟨g, a.front hc, b⟩
theorem putK_mem {κ : Type} [DecidableEq κ] {kvs : List (κ × V)} {k : κ} {v : V} {z : κ × V} (h : z ∈ putK kvs k v) : z.1 = k ∨ ∃ y ∈ kvs, y.1 = z.1 := by
  unfold putK at h
  split at h
  · obtain ⟨y, hy, rfl⟩ := List.mem_map.mp h
    right
    refine ⟨y, hy, ?_⟩
    split <;> rfl
  · rcases List.mem_append.mp h with h | h
    · exact .inr ⟨z, h, rfl⟩
    · rw [List.mem_singleton] at h
      subst h
      exact .inl rfl
theorem dOf_key {α κ : Type} [DecidableEq κ] (key : α → κ) (val : α → V) : ∀ (n : Nat) (xs : List α), xs.length = n → ∀ z ∈ dOf key val xs, ∃ x ∈ xs, z.1 = key x := by
  intro n
  induction n with
  | zero =>
    intro xs h z hz
    have : xs = [] := List.length_eq_zero_iff.mp h
    subst this
    cases hz
  | succ n ih =>
    intro xs h z hz
    have hne : xs ≠ [] := by intro z; subst z; cases h
    obtain ⟨ys, a, rfl⟩ : ∃ ys a, xs = ys ++ [a] := ⟨xs.dropLast, xs.getLast hne, (List.dropLast_concat_getLast hne).symm⟩
    rw [dOf_snoc] at hz
    rcases putK_mem hz with e | ⟨y, hy, e⟩
    · exact ⟨a, by simp, e⟩
    · obtain ⟨x, hx, ex⟩ := ih ys (by rw [List.length_append] at h; simpa using h) y hy
      exact ⟨x, by simp [hx], e ▸ ex⟩
theorem goals_key {p : Parts} (ok : PartsOk p) {z : List Key × V} (h : z ∈ goalsD p.rs) : ∃ m c, m ∈ p.ms ∧ c ∈ p.sg.cps.toList ∧ z.1 = kT m c := by
  obtain ⟨r, hr, e⟩ := dOf_key _ _ _ p.rs rfl z h
  have hg := ok.gls
  unfold goalsOkL at hg
  rw [Bool.and_eq_true_iff] at hg
  have ep : p.rs.map (List.take 2) = pairsL p.sg p.ms := of_decide_eq_true hg.1
  have hm : r.take 2 ∈ pairsL p.sg p.ms := by rw [← ep]; exact List.mem_map.mpr ⟨r, hr, rfl⟩
  unfold pairsL at hm
  obtain ⟨m, hm1, hm2⟩ := List.mem_flatMap.mp hm
  obtain ⟨c, hc, e2⟩ := List.mem_map.mp hm2
  refine ⟨m, c, hm1, hc, ?_⟩
  rw [e]
  match r, e2 with
  | [], e2 => cases e2
  | [_], e2 => simp at e2
  | a :: b :: _, e2 =>
    have : [m, sg c] = [a, b] := e2
    injection this with e1 this
    injection this with e3 _
    show ([Sum.inr a, Sum.inr b] : List Key) = [Sum.inr m, Sum.inr (sg c)]
    rw [e1, e3]
theorem goals_few {p : Parts} (ok : PartsOk p) : p.rs.length ≤ 900 := by
  have hg := ok.gls
  unfold goalsOkL at hg
  rw [Bool.and_eq_true_iff] at hg
  have ep : p.rs.map (List.take 2) = pairsL p.sg p.ms := of_decide_eq_true hg.1
  have := congrArg List.length ep
  rw [List.length_map] at this
  rw [this]
  have hx3 : p.sg.cps.toList.length ≤ 3 := by
    have := ok.sgs
    rw [areS1] at this
    simp only [Bool.and_eq_true, decide_eq_true_eq] at this
    have := this.1.1.2
    rw [Array.length_toList]
    exact this
  have zm : p.ms.length ≤ 300 := by
    have := ok.mds
    unfold areMoodsL at this
    simp only [Bool.and_eq_true, decide_eq_true_eq] at this
    omega
  unfold pairsL
  have gen : ∀ ms : List Str, (ms.flatMap fun m => p.sg.cps.toList.map fun c => [m, sg c]).length = ms.length * p.sg.cps.toList.length := by
    intro ms
    induction ms with
    | nil => simp
    | cons a t ih => rw [List.flatMap_cons, List.length_append, ih, List.length_map, List.length_cons, Nat.succ_mul, Nat.add_comm]
  rw [gen]
  have := Nat.mul_le_mul zm hx3
  omega
/-- the dict of lists -/
def srcD : List Str → List Addr → List (Key × V)
  | m :: ms, a :: as => (Sum.inr m, V.ref a) :: srcD ms as
  | _, _ => []
theorem srcD_get : ∀ {ms : List Str} {as : List Addr} {j : Nat} {m : Str} {a : Addr}, ms.Nodup → ms[j]? = some m → as[j]? = some a → valV (srcD ms as) (Sum.inr m) = some (.ref a)
  | [], _, _, _, _, _, h, _ => by cases h
  | _ :: _, [], _, _, _, _, _, h => by cases h
  | x :: ms, y :: as, 0, m, a, nd, h1, h2 => by
    obtain rfl := Option.some.inj h1
    obtain rfl := Option.some.inj h2
    exact valV_pos rfl
  | x :: ms, y :: as, j + 1, m, a, nd, h1, h2 => by
    have hn := List.nodup_cons.mp nd
    have hm : m ∈ ms := List.mem_of_getElem? (show ms[j]? = some m from h1)
    show valV ((Sum.inr x, V.ref y) :: srcD ms as) (Sum.inr m) = _
    rw [valV_neg (fun z => hn.1 (by have : x = m := by injection z
                                    rw [this]; exact hm))]
    exact srcD_get hn.2 h1 h2
theorem srcD_no : ∀ {ms : List Str} {as : List Addr} {m : Str}, m ∉ ms → valV (srcD ms as) (Sum.inr m) = none
  | [], _, _, _ => rfl
  | _ :: _, [], _, _ => rfl
  | x :: ms, y :: as, m, h => by
    show valV ((Sum.inr x, V.ref y) :: srcD ms as) (Sum.inr m) = _
    rw [valV_neg (fun z => h (by have : x = m := by injection z
                                 rw [this]; simp))]
    exact srcD_no fun z => h (by simp [z])
theorem srcD_snoc : ∀ {ms : List Str} {as : List Addr} {m : Str} {a : Addr}, ms.length = as.length → srcD (ms ++ [m]) (as ++ [a]) = srcD ms as ++ [(Sum.inr m, V.ref a)]
  | [], [], _, _, _ => rfl
  | x :: ms, y :: as, m, a, h => by
    show (Sum.inr x, V.ref y) :: srcD (ms ++ [m]) (as ++ [a]) = _
    rw [srcD_snoc (by simpa using h)]
    rfl
  | [], _ :: _, _, _, h => by cases h
  | _ :: _, [], _, _, h => by cases h
theorem srcD_len : ∀ (ms : List Str) (as : List Addr), (srcD ms as).length ≤ ms.length
  | [], _ => by cases ‹List Addr› <;> exact Nat.le_refl _
  | _ :: _, [] => Nat.zero_le _
  | _ :: ms, _ :: as => by
    have := srcD_len ms as
    show (srcD ms as).length + 1 ≤ ms.length + 1
    omega
/-- where the lists stand, and what is in them -/
def Src (H : Hp) (ms : List Str) (as : List Addr) (src : Str → List Str) : Prop := ms.length = as.length ∧ as.Nodup ∧ ∀ (j : Nat) (m : Str) (a : Addr), ms[j]? = some m → as[j]? = some a → H a = some (.lst ((src m).map V.str))
def putS (src : Str → List Str) (g x : Str) : Str → List Str := fun y => if y = g then src g ++ [x] else src y
theorem putS_at {src : Str → List Str} {g x : Str} : putS src g x g = src g ++ [x] := if_pos rfl
theorem putS_ne {src : Str → List Str} {g x y : Str} (h : ¬ y = g) : putS src g x y = src y := if_neg h
theorem Src.put {H : Hp} {ms : List Str} {as : List Addr} {src : Str → List Str} (h : Src H ms as src) (nd : ms.Nodup) {j : Nat} {g x : Str} {ag : Addr} (hg : ms[j]? = some g) (hag : as[j]? = some ag) : Src (upd H ag (.lst ((src g ++ [x]).map V.str))) ms as (putS src g x) := by
  obtain ⟨hl, na, hc⟩ := h
  refine ⟨hl, na, fun i m a h1 h2 => ?_⟩
  by_cases e : m = g
  · subst e
    have ij : i = j := by
      obtain ⟨a1, a2⟩ := List.getElem?_eq_some_iff.mp h1
      obtain ⟨b1, b2⟩ := List.getElem?_eq_some_iff.mp hg
      exact (List.getElem_inj nd).mp (a2.trans b2.symm)
    subst ij
    rw [hag] at h2
    obtain rfl := Option.some.inj h2
    rw [upd_same, putS_at]
  · have n : a ≠ ag := by
      rintro rfl
      obtain ⟨a1, a2⟩ := List.getElem?_eq_some_iff.mp h2
      obtain ⟨b1, b2⟩ := List.getElem?_eq_some_iff.mp hag
      have ij : i = j := (List.getElem_inj na).mp (a2.trans b2.symm)
      subst ij
      rw [h1] at hg
      exact e (Option.some.inj hg)
    rw [upd_ne n, putS_ne e]
    exact hc i m a h1 h2
theorem Src.keep {H H' : Hp} {ms : List Str} {as : List Addr} {src : Str → List Str} (h : Src H ms as src) (s : ∀ a ∈ as, ∀ o, H a = some o → H' a = some o) : Src H' ms as src := ⟨h.1, h.2.1, fun j m a h1 h2 => s a (List.mem_of_getElem? h2) _ (h.2.2 j m a h1 h2)⟩
/-- the live moods found so far; the sources of those up to k are found -/
structure FndM (p : Parts) (src : Str → List Str) (ls : List Str) (k : Nat) : Prop where
  nd : ls.Nodup
  sound : ∀ m ∈ ls, m ∈ p.ms ∧ Lv p m
  base : ∀ g ∈ p.gs, g ∈ ls
  closed : ∀ i m, i < k → ls[i]? = some m → ∀ x ∈ src m, x ∈ ls
theorem FndM.few {p : Parts} {src : Str → List Str} {ls : List Str} {k : Nat} (h : FndM p src ls k) : ls.length ≤ p.ms.length := nodup_len h.nd fun x hx => (h.sound x hx).1
theorem FndM.put {p : Parts} {src : Str → List Str} {ls : List Str} {k : Nat} (h : FndM p src ls k) {g : Str} (hg : g ∈ p.ms ∧ Lv p g) (n : g ∉ ls) (hk : k ≤ ls.length) : FndM p src (ls ++ [g]) k := by
  refine ⟨?_, fun m hm => ?_, fun g hg => List.mem_append_left _ (h.base g hg), fun i m hi e x hx => ?_⟩
  · rw [List.nodup_append]
    refine ⟨h.nd, by simp, fun x hx y hy z => ?_⟩
    rw [List.mem_singleton] at hy
    exact n (hy ▸ z ▸ hx)
  · rcases List.mem_append.mp hm with hm | hm
    · exact h.sound m hm
    · rw [List.mem_singleton] at hm
      subst hm
      exact hg
  · rw [List.getElem?_append_left (by omega)] at e
    exact List.mem_append_left _ (h.closed i m hi e x hx)
theorem FndM.all {p : Parts} {src : Str → List Str} {ls : List Str} (ok : PartsOk p) (h : FndM p src ls ls.length) (cs : ∀ m ∈ p.ms, ∀ c ∈ p.sg.cps.toList, m ∈ src (ledL p m c)) (m : Str) : m ∈ ls ↔ m ∈ p.ms ∧ Lv p m := by
  refine ⟨h.sound m, fun ⟨hm, g, cg, hg⟩ => ?_⟩
  have back : ∀ g, ComeB p m g → g ∈ ls → m ∈ ls := by
    intro g cg
    induction cg with
    | first => exact id
    | @step x c cx hc ih =>
      intro hin
      obtain ⟨i, hi, e⟩ := List.getElem_of_mem hin
      exact ih (h.closed i _ hi (by rw [← e]; exact List.getElem?_eq_getElem hi) x (cs x (cx.mem ok hm) c hc))
  exact back g cg (h.base g hg)
theorem good_in {p : Parts} (ok : PartsOk p) : p.gs.Nodup ∧ ∀ g ∈ p.gs, g ∈ p.ms := by
  have h := ok.gds
  unfold areGoodL at h
  have h := of_decide_eq_true h
  have nd : p.ms.Nodup := by
    have := ok.mds
    unfold areMoodsL at this
    simp only [Bool.and_eq_true, decide_eq_true_eq] at this
    exact this.2
  rw [h]
  exact ⟨nd.filter _, fun g hg => (List.mem_filter.mp hg).1⟩
section
variable {J : It} {G : Hp → Prop} {Y : Nat → Hp → V → Hp → Prop} {g : TG} {tt : TT} {tk tv : TE} {vs : List Nat} {σ : L2.St} {H1 : Hp} {D : Addr} {Qd : Hp → Prop}
/-- {m: [] for m in ..} -/
theorem dcM (ms : List Str) (nd : ms.Nodup) (w : Walk J ms.length G Y) (hz : ms.length ≤ 16000000) (hD : H1 D = none) (hY : ∀ i H x H', Y i H x H' → Same H H') (hG : ∀ H', Same H1 H' → G H')
    (turn : ∀ (i : Nat) (m : Str) (x : V) (H' H'' : Hp) (k : V → V → Hp → Prop) (k0 : Hp → Prop), ms[i]? = some m → Same H1 H' → Y i H' x H'' → (∀ a, H'' a = none → k (.str m) (.ref a) (upd H'' a (.lst []))) →
      g x (wipe σ vs) H'' fun σ2 H2 => wipe σ2 vs = wipe σ vs ∧ tt σ2 H2 fun b H3 => if b = true then tk σ2 H3 fun y H4 => tv σ2 H4 fun z H5 => k y z H5 else k0 H3)
    (hd : ∀ (H' : Hp) (as : List Addr), Same H1 H' → H' D = some (.dK (srcD ms as)) → Src H' ms as (fun _ => []) → (∀ a ∈ as, H1 a = none) → Qd H') :
    ∃ W : Nat → Nat → Hp → Prop, (∃ m, W 0 m (upd H1 D (.dK []))) ∧ ∀ i m H, W i m H →
      (J.stop i H ∧ Qd H) ∨ (J.go i H ∧ ∃ Nx : Hp → Prop, (∀ H', Nx H' → ∃ m', m' < m ∧ W (i + 1) m' H') ∧ ∀ x H', J.yld i H x H' → g x (wipe σ vs) H' fun σ2 H2 => wipe σ2 vs = wipe σ vs ∧ tt σ2 H2 fun b H3 =>
        if b = true then tk σ2 H3 fun y H4 => tv σ2 H4 fun z H5 => ∃ kvs k, y = kV k ∧ H5 D = some (.dK kvs) ∧ kvs.length < sizeLine ∧ Nx (upd H5 D (.dK (putK kvs k z))) else Nx H3) := by
  refine dc_it w (nx := fun i H' => Same H1 H' ∧ ∃ as : List Addr, H' D = some (.dK (srcD (ms.take i) as)) ∧ Src H' (ms.take i) as (fun _ => []) ∧ D ∉ as ∧ ∀ a ∈ as, H1 a = none) (body := fun i x H' Nx => g x (wipe σ vs) H' fun σ2 H2 => wipe σ2 vs = wipe σ vs ∧ tt σ2 H2 fun b H3 =>
        if b = true then tk σ2 H3 fun y H4 => tv σ2 H4 fun z H5 => ∃ kvs k, y = kV k ∧ H5 D = some (.dK kvs) ∧ kvs.length < sizeLine ∧ Nx (upd H5 D (.dK (putK kvs k z))) else Nx H3)
    ⟨same_new hD, [], upd_same, ⟨rfl, .nil, fun j m a h _ => by rw [List.take_zero] at h; cases h⟩, by simp, fun _ m => by cases m⟩ (fun i H _ h => hG H h.1) (fun i x H H' hi h hy => ?_) (fun H h => ?_)
  · obtain ⟨s, as, eD, sr, nDa, fr⟩ := h
    have ei : ms[i]? = some ms[i] := List.getElem?_eq_getElem hi
    generalize ms[i] = m at ei
    have sy := hY _ _ _ _ hy
    have tk : ms.take (i + 1) = ms.take i ++ [m] := by rw [List.take_add_one, ei]; rfl
    have nm : m ∉ ms.take i := fun z => by
      have ndt : (ms.take (i + 1)).Nodup := nd.sublist (List.take_sublist _ _)
      rw [tk, List.nodup_append] at ndt
      exact ndt.2.2 m z m (by simp) rfl
    refine turn i m x H H' (fun y z H5 => ∃ kvs k, y = kV k ∧ H5 D = some (.dK kvs) ∧ kvs.length < sizeLine ∧ _) _ ei s hy fun a ha => ?_
    have eD' := sy _ _ eD
    have sa := same_new (o := .lst []) ha
    have nDn : D ≠ a := ne_of_none eD' ha
    have na : a ∉ as := fun z => by
      obtain ⟨j, hj, e⟩ := List.getElem_of_mem z
      have hjm : j < (ms.take i).length := by rw [sr.1]; exact hj
      have := sr.2.2 j _ a (List.getElem?_eq_getElem hjm) (by rw [← e]; exact List.getElem?_eq_getElem hj)
      rw [sy _ _ this] at ha
      cases ha
    refine ⟨_, Sum.inr m, rfl, sa _ _ eD', ?_, fun b o z => ?_, as ++ [a], ?_, ?_, ?_, ?_⟩
    · have := srcD_len (ms.take i) as
      rw [List.length_take] at this
      rw [sizeLine_eq]
      omega
    · rw [upd_ne (ne_of_none z hD)]
      exact sa _ _ (sy _ _ (s b o z))
    · rw [upd_same, tk, srcD_snoc sr.1, putK_new _ (srcD_no nm)]
    · rw [tk]
      refine ⟨by rw [List.length_append, List.length_append, sr.1]; rfl, ?_, fun j m' a' h1 h2 => ?_⟩
      · rw [List.nodup_append]
        refine ⟨sr.2.1, by simp, fun x hx y hy e => ?_⟩
        rw [List.mem_singleton] at hy
        exact na (hy ▸ e ▸ hx)
      · by_cases hj : j < as.length
        · rw [List.getElem?_append_left (by rw [sr.1]; exact hj)] at h1
          rw [List.getElem?_append_left hj] at h2
          have n1 : a' ≠ D := fun z => nDa (z ▸ List.mem_of_getElem? h2)
          rw [upd_ne n1]
          exact sa _ _ (sy _ _ (sr.2.2 j m' a' h1 h2))
        · have : a' = a := by
            rw [List.getElem?_append_right (by omega)] at h2
            cases hz : j - as.length with
            | zero => rw [hz] at h2; exact (Option.some.inj h2).symm
            | succ n => rw [hz] at h2; cases h2
          subst this
          rw [upd_ne nDn.symm, upd_same]
          rfl
    · intro z
      rcases List.mem_append.mp z with z | z
      · exact nDa z
      · rw [List.mem_singleton] at z
        exact nDn z
    · intro b hb
      rcases List.mem_append.mp hb with hb | hb
      · exact fr b hb
      · rw [List.mem_singleton] at hb
        subst hb
        cases h0 : H1 b with
        | none => rfl
        | some o => rw [sy _ _ (s _ _ h0)] at ha; cases ha
  · obtain ⟨s, as, eD, sr, nDa, fr⟩ := h
    rw [List.take_length] at eD sr
    exact hd H as s eD sr fr
end
def spLiveM (C : Addr) : Sp := fun vs H Q _ => ∃ (a : Addr) (t : Str) (p : Parts), vs = [.ref a] ∧ RuleAt H C a t p ∧ PartsOk p ∧ ∀ (d : Addr) (ls : List Str) (H' : Hp), Same H H' → H d = none → H' d = some (.dK (setD ls)) → (∀ m, m ∈ ls ↔ m ∈ p.ms ∧ Lv p m) → Q (.ref d) H'
section
variable {P : Program} {w : World} {K : PySem.W.Frag} {mg : Str → Option Value} {base : Heap}
abbrev nLiveM : List Str := ["rule", "sources", "mood", "sign", "found", "known", "at", "source"]
theorem scLiveM : FnScope nLiveM ["rule"] (defScope sLive) := ⟨rfl, rfl, rfl, by decide +kernel, rfl, by decide +kernel, by decide +kernel⟩
def atLM (σ : List (Option V)) : Nat := match σ[6]? with
  | some (some (V.int n)) => 400 - n.toNat
  | _ => 0
theorem ok_liveM {f C : Addr} {fd : FuncData} (F : Fun K "live_moods" "live_moods" sLive f fd) (T : RuC K C) (hAs : Hv P w K mg base 1 "as_set" ["words"] spAsSetL) (pM : PrF P w K mg base C "moods" "words") (pG : PrF P w K mg base C "good" "chosen") (hL : mg "len" = none) (hLi : mg "list" = none) : FnOk P w K mg base CX0 3 f fd ["rule"] (spLiveM C) := by
  obtain ⟨ppM, gpM, fdM, PM, GM, bM⟩ := pM
  obtain ⟨ppG, gpG, fdG, PG', GG, bG⟩ := pG
  refine F.ok scLiveM (fun vs H Q E h => ?_) (fun cdv A outer s H vs Q E hr h => ?_)
  · obtain ⟨a, t, p, rfl, _⟩ := h
    rfl
  · obtain ⟨a, t, p, rfl, hA, ok, kk⟩ := h
    have hu := hu_of hr
    have hr1 : Room 1 (A.deeper (envOfC "live_moods" (defScope sLive) s.heap.objs.size f cdv)) := hr.mono (by decide)
    have hr2 : Room 2 (A.deeper (envOfC "live_moods" (defScope sLive) s.heap.objs.size f cdv)) := hr.mono (by decide)
    refine ⟨_, pss_cons (ps_setDc (i := 1) (own := [("mood", 2)]) (g := gName 2) (tt := tYes) (by rfl) scLiveM.nd rfl rfl (sw_trueD rfl rfl rfl (by decide +kernel)) (pi_tup (pe_prop (pv 0) T.cl PM GM hr2 bM .nil pass0 (by rfl))) (blkOk_by (N := nLiveM) (sc := defScope sLive) (by decide +kernel)) (fun _ _ _ _ _ => pg_name (i := 2) scLiveM.nd rfl (Or.inl rfl)) (fun _ _ _ _ _ => pts_nil) (fun _ _ _ _ _ => pv 2) (fun _ _ _ _ _ => pe_lst pa_nil))
      (pss_cons (ps_lock (ps_for PassesOwn.never rfl (pi_keys (pe_fld (pv 0) rfl)) (pg_tup rfl (pgs_cons (pg_name (i := 2) scLiveM.nd rfl (Or.inl rfl)) (pgs_cons (pg_name (i := 3) scLiveM.nd rfl (Or.inl rfl)) pgs_nil)))
        (pss_one (ps_expr (pe_bm PySem.F.plainAttrs_list PySem.F.slot_list_append PySem.F.type_list_append mt_append (pe_dget hu (pv 1) (pe_dget hu (pe_fld (pv 0) rfl) (pe_tup (pa_cons (pv 2) (pa_cons (pv 3) pa_nil))) (fun _ _ => rfl)) (fun _ _ => rfl)) (pa_cons (pv 2) pa_nil))))))
      (pss_cons (ps_set (i := 4) scLiveM.nd rfl (Or.inl rfl) (pe_callTy call_list_of (by rfl) hLi (by decide +kernel) (pa_cons (pe_prop (pv 0) T.cl PG' GG hr2 bG .nil pass0 (by rfl)) pa_nil)))
      (pss_cons (ps_set (i := 5) scLiveM.nd rfl (Or.inl rfl) (pe_cl hAs hr1 rfl pass0 (pa_cons (pv 4) pa_nil)))
      (pss_cons (ps_set (i := 6) scLiveM.nd rfl (Or.inl rfl) pe_int)
      (pss_cons (ps_while PassesOwn.never (pt_cmpR op_lt (pv 6) (pe_callB call_len_seq (by rfl) hL PySem.boot_len (pa_cons (pv 4) pa_nil)) (nomark _))
        (pss_cons (ps_for PassesOwn.never rfl (pi_list (pe_dget hu (pv 1) (pe_ix ix_list (pv 4) (pv 6) (fun _ _ => rfl)) (fun _ _ => rfl))) (pg_name (i := 7) scLiveM.nd rfl (Or.inl rfl))
          (pss_one (ps_if (pt_cmp (pc_dnotin hu (pv 7) (pv 5))) (pss_cons (ps_dput hu (pv 5) (pv 7) pe_bl rfl) (pss_one (ps_expr (pe_bm PySem.F.plainAttrs_list PySem.F.slot_list_append PySem.F.type_list_append mt_append (pv 4) (pa_cons (pv 7) pa_nil))))) pss_nil)))
        (pss_one (ps_aug (i := 6) scLiveM.nd rfl (Or.inl rfl) pe_int ip_add))))
      (pss_one (ps_ret (pv 5)))))))), ?_⟩
    obtain ⟨dx, M, G, D0, e1, em, eg, ed0⟩ := id hA
    have nd : p.ms.Nodup := by
      have := ok.mds
      unfold areMoodsL at this
      simp only [Bool.and_eq_true, decide_eq_true_eq] at this
      exact this.2
    have zm : p.ms.length ≤ 300 := by
      have := ok.mds
      unfold areMoodsL at this
      simp only [Bool.and_eq_true, decide_eq_true_eq] at this
      omega
    have zg := goals_few ok
    refine ⟨_, rfl, a, dx, _, rfl, e1, a, dx, _, .ref M, rfl, e1, rfl, M, rfl, ⟨_, SqT.of em⟩, fun D hD => ?_⟩
    refine dcM p.ms nd (by have := walk_tup (K := K) (a := M) (xs := p.ms.map V.str); rw [List.length_map] at this; exact this) (by omega) hD (yat_same _) (fun H' s => SqT.of (s _ _ em)) (fun i m x H' H'' k1 k0 hx s1 hy k2 => ?_) (fun H2 as s2 eD sr fr => ?_)
    · obtain ⟨rfl, hy⟩ := hy
      obtain rfl := map_get hx hy
      exact ⟨rfl, _, rfl, by show 0 ≤ sizeLine; decide, fun a2 n2 => k2 a2 n2⟩
    have e1 := s2 _ _ e1
    have ed0 := s2 _ _ ed0
    have eg := s2 _ _ eg
    have offs : ∀ b o, H2 b = some o → o ≠ .lst [] → b ∉ as := fun b o e n z => by
      obtain ⟨j, hj, ej⟩ := List.getElem_of_mem z
      have hjm : j < p.ms.length := by rw [sr.1]; exact hj
      have := sr.2.2 j _ b (List.getElem?_eq_getElem hjm) (by rw [← ej]; exact List.getElem?_eq_getElem hj)
      rw [e] at this
      exact n (Option.some.inj this)
    have na := offs _ _ e1 (by intro z; cases z)
    have nD0 := offs _ _ ed0 (by intro z; cases z)
    have nD := offs _ _ eD (by intro z; cases z)
    have nG := offs _ _ eg (by intro z; cases z)
    have n0a : a ≠ D0 := ne_of e1 ed0 (by intro z; cases z)
    have nD0D : D ≠ D0 := ne_of eD ed0 (by intro z; cases z)
    have nG0 : G ≠ D0 := ne_of eg ed0 (by intro z; cases z)
    refine ⟨D0, _, ed0, trivial, fun od => ?_⟩
    refine ⟨_, rfl, a, C, dx, _, .ref D0, rfl, by rw [upd_ne n0a]; exact e1, T.cl, T.f5, rfl, D0, od, rfl, .inr ⟨_, upd_same, ?_⟩⟩
    have hlen : (goalsD p.rs).length ≤ 900 := Nat.le_trans (dOf_len _ _ _) zg
    refine for_it walk_keysT (fun i σ H' => ∃ (x2 x3 : Option V) (src : Str → List Str), σ = [some (.ref a), some (.ref D), x2, x3, none, none, none, none] ∧ Src H' p.ms as src ∧ (∀ b o, b ∉ as → upd H2 D0 (.frz od (.dT (goalsD p.rs))) b = some o → H' b = some o) ∧ (∀ g, ∀ x ∈ src g, x ∈ p.ms ∧ ∃ c ∈ p.sg.cps.toList, ledL p x c = g) ∧ (∀ g, (src g).length ≤ i) ∧
        (∀ j, j < i → ∀ z, (goalsD p.rs)[j]? = some z → ∀ m c, z.1 = kT m c → m ∈ src (ledL p m c)))
      ⟨none, none, fun _ => [], rfl, sr.keep (fun b hb o e => by rw [upd_ne (show b ≠ D0 from fun z => nD0 (z ▸ hb))]; exact e), fun _ _ _ e => e, (fun _ _ m => by cases m), fun _ => Nat.le_refl _, fun j hj => absurd hj (Nat.not_lt_zero j)⟩
      (fun i σ H' _ h => ?_) (fun i y σ H3 H4 hi h hy => ?_) (fun σ H3 h => ?_)
    · obtain ⟨_, _, _, _, _, fr2, _⟩ := h
      exact fr2 _ _ nD0 upd_same
    · obtain ⟨rfl, k, v, q, hk, rfl, hq⟩ := hy
      obtain ⟨x2, x3, src, rfl, sr3, fr3, so, ln, co⟩ := h
      obtain ⟨m, c, hm, hc, ek⟩ := goals_key ok (List.mem_of_getElem? hk)
      have ek : k = kT m c := ek
      subst ek
      have hq : H4 q = some (.tup [.str m, .str (sg c)]) := hq
      have hg := ok.goal hm hc
      have eF : H4 D0 = some (.frz od (.dT (goalsD p.rs))) := fr3 _ _ nD0 upd_same
      have e1' : H4 a = some _ := fr3 _ _ na (by rw [upd_ne n0a]; exact e1)
      have eD' : H4 D = some _ := fr3 _ _ nD (by rw [upd_ne nD0D]; exact eD)
      refine ⟨q, _, rfl, SqT.of hq, rfl, _, _, rfl, _, _, rfl, rfl, ?_⟩
      refine ⟨_, rfl, _, rfl, a, C, dx, _, .ref D0, rfl, e1', T.cl, T.f5, rfl, _, rfl, _, rfl, (by show 2 ≤ sizeLine; decide), fun ta hta => ⟨D0, .str (ledL p m c), rfl, ?_, ?_⟩⟩
      · have : DGet (upd H4 ta (.tup ((kT m c).map kV))) D0 (.ref ta) (valV (goalsD p.rs) (kT m c)) := .inr ⟨_, kT m c, ta, .inr ⟨od, keep1 eF hta⟩, rfl, upd_same, rfl⟩
        rw [hg.2] at this
        exact this
      have sa := same_new (o := .tup ((kT m c).map kV)) hta
      have sr5 := sr3.keep (fun b hb o e => sa b o e)
      have fr5 : ∀ b o, b ∉ as → upd H2 D0 (.frz od (.dT (goalsD p.rs))) b = some o → upd H4 ta (.tup ((kT m c).map kV)) b = some o := fun b o n e => sa _ _ (fr3 b o n e)
      have eD5 := sa _ _ eD'
      generalize eHn : upd H4 ta (.tup ((kT m c).map kV)) = Hn at sr5 fr5 eD5
      have eHn' : upd H4 ta (.tup [.str m, .str (sg c)]) = Hn := eHn
      show ∃ _, _
      rw [eHn']
      clear eHn eHn' hta sa
      obtain ⟨j, hj, ej⟩ := List.getElem_of_mem hg.1
      have hj1 : p.ms[j]? = some (ledL p m c) := by rw [← ej]; exact List.getElem?_eq_getElem hj
      obtain ⟨ag, hj2⟩ : ∃ ag, as[j]? = some ag := ⟨as[j]'(by rw [← sr.1]; exact hj), List.getElem?_eq_getElem _⟩
      have eag := sr5.2.2 j _ ag hj1 hj2
      have dg := DGet.k (k := Sum.inr (ledL p m c)) eD5
      rw [srcD_get nd hj1 hj2] at dg
      have l1 := ln (ledL p m c)
      refine ⟨D, .ref ag, rfl, dg, .inl ⟨rfl, _, SqL.of eag⟩, _, rfl, ag, _, _, rfl, rfl, eag, by rw [List.length_map, sizeLine_eq]; omega, ?_⟩
      refine ⟨_, _, putS src (ledL p m c) m, rfl, ?_, fun b o n e => ?_, fun g x hx => ?_, fun g => ?_, fun j' hj' z hz m' c' e => ?_⟩
      · have := sr5.put nd (x := m) hj1 hj2
        rw [List.map_append] at this
        exact this
      · rw [upd_ne (show b ≠ ag from fun z => n (by rw [z]; exact List.mem_of_getElem? hj2))]
        exact fr5 b o n e
      · by_cases e : g = ledL p m c
        · subst e
          rw [putS_at] at hx
          rcases List.mem_append.mp hx with hx | hx
          · exact so _ x hx
          · rw [List.mem_singleton] at hx
            rw [hx]
            exact ⟨hm, c, hc, rfl⟩
        · rw [putS_ne e] at hx
          exact so g x hx
      · have := ln g
        by_cases e : g = ledL p m c
        · subst e
          rw [putS_at, List.length_append]
          show _ + 1 ≤ _
          omega
        · rw [putS_ne e]
          omega
      · by_cases hji : j' < i
        · have := co j' hji z hz m' c' e
          by_cases e2 : ledL p m' c' = ledL p m c
          · rw [e2, putS_at]
            rw [e2] at this
            exact List.mem_append_left _ this
          · rw [putS_ne e2]
            exact this
        · have : j' = i := by omega
          subst this
          rw [hk] at hz
          obtain rfl := Option.some.inj hz
          have e : kT m c = kT m' c' := e
          injection e with q1 q2
          injection q2 with q2 _
          injection q1 with q1
          injection q2 with q2
          have : m' = m := q1.symm
          subst this
          have e3 : ledL p m' c' = ledL p m' c := by
            have e4 : kT m' c' = kT m' c := by
              show [Sum.inr m', Sum.inr (sg c')] = [Sum.inr m', Sum.inr (sg c)]
              rw [← q2]
            unfold ledL gf
            rw [e4]
          rw [e3, putS_at]
          simp
    · obtain ⟨x2, x3, src, rfl, sr3, fr3, so, ln, co⟩ := h
      refine ⟨fr3 _ _ nD0 upd_same, ?_⟩
      have cs : ∀ m ∈ p.ms, ∀ c ∈ p.sg.cps.toList, m ∈ src (ledL p m c) := fun m hm c hc => by
        have hg := (ok.goal hm hc).2
        obtain ⟨z, hz, ez⟩ : ∃ z ∈ goalsD p.rs, z.1 = kT m c := by
          unfold valV at hg
          cases hf : (goalsD p.rs).find? (fun kv => decide (kv.1 = kT m c)) with
          | none => rw [hf] at hg; cases hg
          | some z =>
            have h := List.find?_some hf
            exact ⟨z, List.mem_of_find?_eq_some hf, of_decide_eq_true h⟩
        obtain ⟨j, hj, ej⟩ := List.getElem_of_mem hz
        exact co j hj z (by rw [← ej]; exact List.getElem?_eq_getElem hj) m c ez
      have fr4 : ∀ b o, b ∉ as → H2 b = some o → upd H3 D0 (.dT (goalsD p.rs)) b = some o := fun b o n e => by
        by_cases hb : b = D0
        · subst hb
          rw [upd_same]
          rw [ed0] at e
          exact e
        · rw [upd_ne hb]
          exact fr3 b o n (by rw [upd_ne hb]; exact e)
      have sr4 : Src (upd H3 D0 (.dT (goalsD p.rs))) p.ms as src := sr3.keep fun b hb o e => by
        rw [upd_ne (show b ≠ D0 from fun z => nD0 (z ▸ hb))]
        exact e
      generalize upd H3 D0 (.dT (goalsD p.rs)) = H4 at fr4 sr4 ⊢
      have s4 : Same H H4 := fun b o e => fr4 b o (fun z => by rw [fr b z] at e; cases e) (s2 _ _ e)
      have e1 := fr4 _ _ na e1
      have eD := fr4 _ _ nD eD
      have eg := fr4 _ _ nG eg
      clear fr3 sr3 fr4 co offs sr s2 ed0
      refine ⟨_, rfl, a, dx, _, rfl, e1, a, dx, _, .ref G, rfl, e1, rfl, G, _, rfl, .inr (SqT.of eg), fun L hL => ?_⟩
      have s5 := same_new (o := .lst (p.gs.map V.str)) hL
      have eL := upd_same (a := L) (H := H4) (o := .lst (p.gs.map V.str))
      have fL : ∀ b o, H4 b = some o → b ≠ L := fun b o e => ne_of_none e hL
      generalize upd H4 L (.lst (p.gs.map V.str)) = H5 at s5 eL ⊢
      have gi := good_in ok
      have lg : p.gs.length ≤ p.ms.length := nodup_len gi.1 gi.2
      refine ⟨_, rfl, L, p.gs, rfl, eL, by omega, fun d H6 s6 d0 ed => ?_⟩
      have fd' : ∀ b o, H4 b = some o → b ≠ d := fun b o e => ne_of_none (s5 _ _ e) d0
      have eL := s6 _ _ eL
      have nld : L ≠ d := ne_of eL ed (by intro z; cases z)
      have s46 := s5.trans s6
      have hd0 : H d = none := by
        cases h0 : H d with
        | none => rfl
        | some o => rw [s5 _ _ (s4 _ _ h0)] at d0; cases d0
      have hL0 : H L = none := by
        cases h0 : H L with
        | none => rfl
        | some o => rw [s4 _ _ h0] at hL; cases hL
      have fo0 : FndM p src p.gs 0 := ⟨gi.1, fun m hm => ⟨gi.2 m hm, m, .first, hm⟩, fun _ h => h, fun i m hi => absurd hi (Nat.not_lt_zero i)⟩
      refine while_by (fun σ H' => ∃ (n : Nat) (x2 x3 v7 : Option V) (ls : List Str), σ = [some (.ref a), some (.ref D), x2, x3, some (.ref L), some (.ref d), some (.int (n : Int)), v7] ∧ (∀ b o, b ≠ L → b ≠ d → H6 b = some o → H' b = some o) ∧ H' L = some (.lst (ls.map V.str)) ∧ H' d = some (.dK (setD ls)) ∧ FndM p src ls n ∧ n ≤ ls.length) (fun σ _ => atLM σ)
        ⟨0, _, _, none, p.gs, rfl, fun _ _ _ _ e => e, eL, ed, fo0, Nat.zero_le _⟩ (fun σ H7 h => ?_) ?mono
      case mono =>
        rintro σ H Q Q' m ⟨a1, a2, a3, a4, a5, a6, a7, a8, a9, a10, a11, a12, a13, a14, q⟩
        exact ⟨a1, a2, a3, a4, a5, a6, a7, a8, a9, a10, a11, a12, a13, a14, m _ _ q⟩
      obtain ⟨n, x2', x3', v7, ls, rfl, ks, el7, ed7, fo, hn⟩ := h
      have fw := fo.few
      refine ⟨_, rfl, _, rfl, L, _, rfl, .inl (SqL.of el7), _, _, rfl, rfl, _, rfl, ite2 (fun c => ?_) (fun c => ?_)⟩
      · have c1 : (n : Int) < ((ls.map V.str).length : Int) := of_decide_eq_true c
        rw [List.length_map] at c1
        have hlt : n < ls.length := by omega
        clear c c1
        have hm : ls[n]? = some ls[n] := List.getElem?_eq_getElem hlt
        generalize ls[n] = g at hm
        have gl := fo.sound g (List.mem_of_getElem? hm)
        obtain ⟨j, hj, ej⟩ := List.getElem_of_mem gl.1
        have hj1 : p.ms[j]? = some g := by rw [← ej]; exact List.getElem?_eq_getElem hj
        obtain ⟨ag, hj2⟩ : ∃ ag, as[j]? = some ag := ⟨as[j]'(by rw [← sr4.1]; exact hj), List.getElem?_eq_getElem _⟩
        have eag4 := sr4.2.2 j _ ag hj1 hj2
        have nagL := fL _ _ eag4
        have nagd := fd' _ _ eag4
        have eag := s46 _ _ eag4
        have eD7 := ks _ _ (fL _ _ eD) (fd' _ _ eD) (s46 _ _ eD)
        have dg := DGet.k (k := Sum.inr g) eD7
        rw [srcD_get nd hj1 hj2] at dg
        refine ⟨_, rfl, _, rfl, _, rfl, L, _, _, V.str g, rfl, rfl, SqL.of el7, atI_nat (by rw [List.getElem?_map, hm]; rfl), D, .ref ag, rfl, dg, ag, rfl, ⟨_, SqL.of (ks _ _ nagL nagd eag)⟩, ?_⟩
        refine for_it (walk_listL (K := K) (a := ag) (src g) V.str) (fun i σ H' => ∃ (v7 : Option V) (ls' : List Str), σ = [some (.ref a), some (.ref D), x2', x3', some (.ref L), some (.ref d), some (.int (n : Int)), v7] ∧ (∀ b o, b ≠ L → b ≠ d → H6 b = some o → H' b = some o) ∧ H' L = some (.lst (ls'.map V.str)) ∧ H' d = some (.dK (setD ls')) ∧ FndM p src ls' n ∧ n < ls'.length ∧ ls'[n]? = some g ∧ ∀ x ∈ (src g).take i, x ∈ ls')
          ⟨v7, ls, rfl, ks, el7, ed7, fo, hlt, hm, fun _ z => by cases z⟩ (fun i σ H' _ h => ?_) (fun i y σ H8 H9 hi h hy => ?_) (fun σ H8 h => ?_)
        · obtain ⟨_, _, _, ks', _⟩ := h
          exact SqL.of (ks' _ _ nagL nagd eag)
        · obtain ⟨rfl, hy⟩ := hy
          obtain ⟨v7, ls', rfl, ks', el', ed', fo', hlt', hm', cl⟩ := h
          have hx : (src g)[i]? = some (src g)[i] := List.getElem?_eq_getElem hi
          obtain rfl := map_get hx hy
          generalize (src g)[i] = x at hx
          have hxs := List.mem_of_getElem? hx
          obtain ⟨hxm, c, hc, elx⟩ := so g x hxs
          have lvx : Lv p x := .back hc (by rw [elx]; exact gl.2)
          have tk : (src g).take (i + 1) = (src g).take i ++ [x] := by rw [List.take_add_one, hx]; rfl
          have fw' := fo'.few
          refine ⟨_, rfl, _, rfl, d, _, rfl, DGet.k (k := Sum.inr x) ed', _, rfl, ?_⟩
          rw [setD_val]
          by_cases hin : x ∈ ls'
          · rw [decide_eq_true hin]
            refine iteF ⟨_, ls', rfl, ks', el', ed', fo', hlt', hm', fun y' hy' => ?_⟩
            rw [tk] at hy'
            rcases List.mem_append.mp hy' with hy' | hy'
            · exact cl y' hy'
            · rw [List.mem_singleton] at hy'
              rw [hy']
              exact hin
          · rw [decide_eq_false hin]
            refine iteT ?_
            have eset : setD (ls' ++ [x]) = putK (setD ls') (Sum.inr x) (.bl true) := dOf_snoc _ _ _ _
            refine ⟨_, rfl, _, rfl, d, upd H9 d (.dK (setD (ls' ++ [x]))), rfl, ?_, ?_⟩
            · rw [eset]
              refine DPut.k (k := Sum.inr x) ed' ?_
              have := dOf_len (fun x => (Sum.inr x : Key)) (fun _ => V.bl true) ls'
              have h2 : (setD ls').length ≤ ls'.length := this
              rw [sizeLine_eq]
              omega
            have el8 : upd H9 d (.dK (setD (ls' ++ [x]))) L = some (.lst (ls'.map V.str)) := by rw [upd_ne nld]; exact el'
            refine ⟨_, rfl, .inl ⟨rfl, _, SqL.of el8⟩, _, rfl, L, _, _, rfl, rfl, el8, ?_, ?_⟩
            · rw [List.length_map, sizeLine_eq]
              omega
            · refine ⟨_, ls' ++ [x], rfl, fun b o n1 n2 e => by rw [upd_ne n1, upd_ne n2]; exact ks' b o n1 n2 e, by rw [upd_same, List.map_append]; rfl, by rw [upd_ne nld.symm, upd_same], fo'.put ⟨hxm, lvx⟩ hin (by omega), by rw [List.length_append]; omega, by rw [List.getElem?_append_left hlt']; exact hm', fun y' hy' => ?_⟩
              rw [tk] at hy'
              rcases List.mem_append.mp hy' with hy' | hy'
              · exact List.mem_append_left _ (cl y' hy')
              · rw [List.mem_singleton] at hy'
                rw [hy']
                simp
        · obtain ⟨v7, ls', rfl, ks', el', ed', fo', hlt', hm', cl⟩ := h
          have fw' := fo'.few
          rw [List.take_length] at cl
          refine ⟨_, rfl, _, _, rfl, rfl, ⟨n + 1, _, _, _, ls', by rw [show ((n + 1 : Nat) : Int) = (n : Int) + 1 by omega]; rfl, ks', el', ed', ⟨fo'.nd, fo'.sound, fo'.base, fun i m' hi e x hx => ?_⟩, by omega⟩, ?_⟩
          · by_cases hin : i < n
            · exact fo'.closed i m' hin e x hx
            · have : i = n := by omega
              subst this
              rw [hm'] at e
              obtain rfl := Option.some.inj e
              exact cl x hx
          · show 400 - ((n : Int) + 1).toNat < 400 - (n : Int).toNat
            omega
      · have c1 : ¬ (n : Int) < ((ls.map V.str).length : Int) := fun z => c (decide_eq_true z)
        rw [List.length_map] at c1
        have : n = ls.length := by omega
        subst this
        exact ⟨_, rfl, kk d ls _ (fun b o e => ks b o (fun z => by rw [z, hL0] at e; cases e) (fun z => by rw [z, hd0] at e; cases e) (s46 _ _ (s4 _ _ e))) hd0 ed7 (fo.all ok cs)⟩
end
end My
namespace My
open PySem PySem.Spec PyProof.Rows L2 PySem.GX L2H LamX


/-- just these come and are live, each once -/
def LiveL (p : Parts) (ws : List Str) : Prop := ws.Nodup ∧ ∀ m, m ∈ ws ↔ Come p m ∧ Lv p m
theorem op_neNilK {X : Cx} {K : PySem.W.Frag} (h : X.K = K) (hu : X.A.units < cLine) : OpR X (compareOp .NotEq) (rEqNil K true) := by subst h; exact op_neNil hu
def spLiveW : Sp := fun vs H Q _ => ∃ (q : Addr) (p : Parts), vs = [.ref q] ∧ BxF H q p p.ms ∧ PartsOk p ∧ ∀ (l : Addr) (ws : List Str) (H' : Hp), Same H H' → H l = none → H' l = some (.lst (ws.map V.str)) → LiveL p ws → ws.length ≤ p.ms.length → Q (.ref l) H'
def lcScope : Scope := { kind := .function, names := [(".0", .local), ("_law_here", .local), ("_law_reached", .globalImplicit), ("_law_box_here", .cell)], isGenerator := false, isCoroutine := false }
section
variable {P : Program} {w : World} {K : PySem.W.Frag} {mg : Str → Option Value} {base : Heap}
abbrev nLiveW : List Str := ["_law_box_here", "_law_come", "_law_here", "_law_aim_here"]
theorem scLiveW : FnScope nLiveW ["_law_box_here"] (defScope sLiveW) := ⟨rfl, rfl, rfl, by decide +kernel, rfl, by decide +kernel, by decide +kernel⟩
theorem ok_liveW {f : Addr} {fd : FuncData} (F : Fun K "_law_live" "_law_live" sLiveW f fd) (hRe : Hv P w K mg base 1 "_law_reached" ["_law_box_here", "_law_begin"] spReachedB) : FnOk P w K mg base CX0 2 f fd ["_law_box_here"] spLiveW := by
  refine F.ok scLiveW (fun vs H Q E h => ?_) (fun cdv A outer s H vs Q E hr h => ?_)
  · obtain ⟨q, p, rfl, _⟩ := h
    rfl
  · obtain ⟨q, p, rfl, hB, ok, kk⟩ := h
    have hu := hu_of hr
    have hu0 : (A.deeper (envOfC "_law_live" (defScope sLiveW) s.heap.objs.size f cdv)).units < cLine := by omega
    have hr1 : Room 1 (A.deeper (envOfC "_law_live" (defScope sLiveW) s.heap.objs.size f cdv)) := hr.mono (by decide)
    refine ⟨_, pss_cons (ps_set (i := 1) scLiveW.nd rfl (Or.inl rfl) (pe_cl hRe hr1 rfl pass0 (pa_cons (pv 0) (pa_cons (pe_ix ix_list (pe_ix ix_tup (pv 0) pe_int (fun _ _ => rfl)) pe_int (fun _ _ => rfl)) pa_nil))))
      (pss_one (ps_ret (pe_lc (own := [("_law_here", 2)]) (g := gName 2) rfl scLiveW.nd (pi_list (pv 1)) (blkOk_by (N := nLiveW) (sc := defScope sLiveW) (by decide +kernel)) (fun _ _ _ _ _ => pg_name (i := 2) scLiveW.nd rfl (Or.inl rfl))
        (fun _ _ _ _ _ => pts_one (pt_cmpR (op_neNilK (K := K) rfl hu0) (pe_lc (own := [("_law_aim_here", 3)]) (g := gName 3) rfl scLiveW.nd (pi_listK (K := K) rfl (pe_cl hRe hr1 rfl pass0 (pa_cons (pv 0) (pa_cons (pv 2) pa_nil)))) (blkOk_by (N := nLiveW) (sc := lcScope) (by decide +kernel)) (fun _ _ _ _ _ => pg_name (i := 3) scLiveW.nd rfl (Or.inl rfl))
            (fun _ _ _ _ _ => pts_one (pt_cmpR (op_in_seqK (K := K) rfl) (pv 3) (pe_ix (ix_tupK (K := K) rfl) (pv 0) pe_int (fun _ _ => rfl)) (by rfl))) (fun _ _ _ _ _ => pv 3)) (pe_lst pa_nil) (nomark _)))
        (fun _ _ _ _ _ => pv 2)))), ?_⟩
    obtain ⟨lw, lf, g, kvs, eq, ew, ef, eg, cv⟩ := id hB
    obtain ⟨ms, ex⟩ := ok.first
    have e1f : (p.ms.map V.str)[0]? = some (.str (firstL p)) := by rw [ex]; rfl
    have f1m : firstL p ∈ p.ms := by rw [ex]; simp
    clear ex cv
    have eif : ∀ b : Bool, (if false = true then !b else b) = b := fun _ => rfl
    have eneg : ∀ b : Bool, (if true = true then !b else b) = !b := fun _ => rfl
    refine ⟨_, rfl, _, rfl, q, _, _, V.ref lw, rfl, rfl, SqT.of eq, atI_nat (j := 1) rfl, lw, _, _, V.str (firstL p), rfl, rfl, SqL.of ew, atI_nat (j := 0) e1f, q, p, firstL p, rfl, hB, ok, f1m, fun l ws H1 s1 nl el cl few => ?_⟩
    have z300 : p.ms.length ≤ 300 := by
      have := ok.mds
      unfold areMoodsL at this
      simp only [Bool.and_eq_true, decide_eq_true_eq] at this
      omega
    refine ⟨_, rfl, l, rfl, ⟨_, SqL.of el⟩, fun D hD => ?_⟩
    have hD0 : H D = none := by
      cases h0 : H D with
      | none => rfl
      | some o => rw [s1 _ _ h0] at hD; cases hD
    refine lcR (walk_listL (K := K) (a := l) ws V.str) (fun i ys _ => ∃ vs : List Str, ys = vs.map V.str ∧ vs.Nodup ∧ ∀ m, m ∈ vs ↔ m ∈ ws.take i ∧ Lv p m) (fun _ _ _ _ _ h => h) ⟨[], rfl, .nil, fun m => ⟨(fun z => by cases z), fun z => by rw [List.take_zero] at z; cases z.1⟩⟩ (by omega) hD (yat_same _) (fun H' s' => SqL.of (s' _ _ el)) (fun j x ys H4 H5 k hj sj eD hI hy k1 k0 => ?_) (fun ys H8 hl8 s8 e8 hI => ?_)
    · obtain ⟨rfl, hy⟩ := hy
      obtain ⟨vs, rfl, nd, hvs⟩ := hI
      have hm : ws[j]? = some ws[j] := List.getElem?_eq_getElem hj
      obtain rfl := map_get hm hy
      generalize ws[j] = m at hm
      have hmw := List.mem_of_getElem? hm
      have cm := come_b.mp ((cl.2 m).mp hmw)
      have hmm := cm.mem ok
      have tk : ws.take (j + 1) = ws.take j ++ [m] := by rw [List.take_add_one, hm]; rfl
      have nm : m ∉ ws.take j := fun z => by
        have ndt : (ws.take (j + 1)).Nodup := cl.1.sublist (List.take_sublist _ _)
        rw [tk, List.nodup_append] at ndt
        exact ndt.2.2 m z m (by simp) rfl
      have sA := s1.trans sj
      refine ⟨rfl, _, rfl, _, rfl, q, p, m, rfl, hB.same sA, ok, hmm, fun l2 ws2 H3 s3 nl2 el2 cl2 few2 => ⟨l2, rfl, ⟨_, SqL.of el2⟩, fun D2 hD2 => ?_⟩⟩
      have sB := sA.trans s3
      refine lcR (walk_listL (K := K) (a := l2) ws2 V.str) (fun i ys _ => ys.isEmpty = true ↔ ∀ g ∈ ws2.take i, g ∉ p.gs) (fun _ _ _ _ _ h => h) ⟨(fun _ _ m => by rw [List.take_zero] at m; cases m), fun _ => rfl⟩ (by omega) hD2 (yat_same _) (fun H' s' => SqL.of (s' _ _ el2)) (fun i2 x2 ys2 H6 H7 k' hi2 si eD2 hI2 hy2 c1 c0 => ?_) (fun ys2 H9 hl9 s9 e9 hI2 => ?_)
      · obtain ⟨rfl, hy2⟩ := hy2
        have hg : ws2[i2]? = some ws2[i2] := List.getElem?_eq_getElem hi2
        obtain rfl := map_get hg hy2
        generalize ws2[i2] = g2 at hg
        have tk2 : ws2.take (i2 + 1) = ws2.take i2 ++ [g2] := by rw [List.take_add_one, hg]; rfl
        refine ⟨rfl, _, rfl, _, rfl, q, _, _, V.ref lf, rfl, rfl, SqT.of (si _ _ (sB _ _ eq)), atI_nat (j := 2) rfl, lf, _, rfl, .inl (SqL.of (si _ _ (sB _ _ ef))), rfl, flat_strs _, _, rfl, ?_⟩
        rw [eif, in_strs]
        by_cases hgg : g2 ∈ p.gs
        · rw [decide_eq_true hgg]
          refine iteT ⟨_, rfl, c1 _ _ (Same.refl _) ?_⟩
          rw [tk2]
          refine ⟨fun h => ?_, fun h => absurd hgg (h g2 (by simp))⟩
          cases ys2 <;> cases h
        · rw [decide_eq_false hgg]
          refine iteF (c0 _ (Same.refl _) ?_)
          rw [hI2, tk2]
          refine ⟨fun h b' m' => ?_, fun h b' m' => h b' (List.mem_append_left _ m')⟩
          rcases List.mem_append.mp m' with m' | m'
          · exact h b' m'
          · rw [List.mem_singleton] at m'
            rw [m']
            exact hgg
      · refine ⟨by show 0 ≤ sizeLine; decide, fun l0 h0' => ⟨D2, l0, _, rfl, rfl, SqL.of (keep1 e9 h0'), SqL.of upd_same, _, rfl, ?_⟩⟩
        rw [eneg]
        rw [List.take_length] at hI2
        have hlv : (!ys2.isEmpty) = true ↔ Lv p m := by
          rw [Bool.not_eq_true', ← Bool.not_eq_true, hI2]
          constructor
          · intro h
            apply Classical.byContradiction
            intro n
            exact h fun g2 hg2 hgg => n ⟨g2, (cl2.2 g2).mp hg2, hgg⟩
          · rintro ⟨g2, hg2, hgg⟩ h
            exact h g2 ((cl2.2 g2).mpr hg2) hgg
        have sC := (s3.trans s9).trans (same_new (o := .lst []) h0')
        refine ite2 (fun c => ⟨_, rfl, k1 _ _ sC ⟨vs ++ [m], by rw [List.map_append]; rfl, ?_, fun x => ?_⟩⟩) (fun c => k0 _ sC ⟨vs, rfl, nd, fun x => ?_⟩)
        · rw [List.nodup_append]
          refine ⟨nd, by simp, fun x hx y hy e => ?_⟩
          rw [List.mem_singleton] at hy
          exact nm (hy ▸ e ▸ ((hvs x).mp hx).1)
        · rw [tk, List.mem_append, hvs, List.mem_append, List.mem_singleton]
          constructor
          · rintro (⟨a, b⟩ | rfl)
            · exact ⟨.inl a, b⟩
            · exact ⟨.inr rfl, hlv.mp c⟩
          · rintro ⟨a | rfl, b⟩
            · exact .inl ⟨a, b⟩
            · exact .inr rfl
        · rw [tk, hvs, List.mem_append, List.mem_singleton]
          constructor
          · rintro ⟨a, b⟩
            exact ⟨.inl a, b⟩
          · rintro ⟨a | rfl, b⟩
            · exact ⟨a, b⟩
            · exact absurd (hlv.mpr b) c
    · obtain ⟨vs, rfl, nd, hvs⟩ := hI
      rw [List.take_length] at hvs
      refine kk D vs H8 (s1.trans s8) hD0 e8 ⟨nd, fun m => ?_⟩ ?_
      · rw [hvs, cl.2, come_b]
      · exact nodup_len nd fun x hx => (come_b.mp ((cl.2 x).mp ((hvs x).mp hx).1)).mem ok
end
end My
namespace My
open PySem PySem.Spec PyProof.Rows L2 PySem.GX L2H LamX
theorem eqv_yes (a b : Bool) : PyData.eqv (.list [.bool a, .bool b]) (.list [.bool true, .bool true]) = (a && b) := by
  cases a <;> cases b <;> rfl
theorem hgt_some {hs : List Hgt} {ab : Str × Str} (h : ab ∈ hs.map (·.1)) : hgt hs ab = some (hv hs ab.1 ab.2) := by
  unfold hv
  show hgt hs ab = some ((hgt hs ab).getD 0)
  cases e : hgt hs ab with
  | none => exact absurd h (hgt_none.mp e)
  | some n => rfl
/-- the heights of a pair and of those to which it is led fit, among some moods -/
def StepG (p : Parts) (ws : List Str) (hs : List Hgt) (a b : Str) : Prop :=
  (hv hs a b = 0 → (a ∈ p.gs ↔ b ∈ p.gs) ∧ ∀ c ∈ p.sg.cps.toList, (ledL p a c ∈ ws ↔ ledL p b c ∈ ws) ∧ (ledL p a c ∈ ws → ¬ hv hs (ledL p a c) (ledL p b c) > 0)) ∧
  (hv hs a b > 0 → ∀ c ∈ p.sg.cps.toList, ledL p a c ∈ ws → ledL p b c ∈ ws → ¬ hv hs (ledL p a c) (ledL p b c) ≥ hv hs a b)
/-- for one sign -/
def StepC (p : Parts) (ws : List Str) (hs : List Hgt) (a b : Str) (c : Nat) : Prop :=
  (hv hs a b = 0 → (ledL p a c ∈ ws ↔ ledL p b c ∈ ws) ∧ (ledL p a c ∈ ws → ¬ hv hs (ledL p a c) (ledL p b c) > 0)) ∧
  (hv hs a b > 0 → ledL p a c ∈ ws → ledL p b c ∈ ws → ¬ hv hs (ledL p a c) (ledL p b c) ≥ hv hs a b)
theorem GoodH.in_iff {ws : List Str} {most : Int} {hs : List Hgt} (g : GoodH ws most hs) (a b : Str) : (a, b) ∈ hs.map (·.1) ↔ hv hs a b > 0 := by
  constructor
  · intro m
    unfold hv
    cases e : hgt hs (a, b) with
    | none => exact absurd m (hgt_none.mp e)
    | some n =>
      unfold hgt at e
      cases f : hs.find? fun z => decide (z.1 = (a, b)) with
      | none => rw [f] at e; cases e
      | some z =>
        rw [f] at e
        obtain rfl := Option.some.inj e
        obtain ⟨_, _, h1, _⟩ := g.inn z (List.mem_of_find?_eq_some f)
        show z.2 > 0
        omega
  · intro h
    apply Classical.byContradiction
    intro n
    unfold hv at h
    rw [hgt_none.mpr n] at h
    exact absurd h (by decide)
theorem GoodH.no_iff {ws : List Str} {most : Int} {hs : List Hgt} (g : GoodH ws most hs) (a b : Str) : (a, b) ∉ hs.map (·.1) ↔ hv hs a b = 0 := by
  rw [g.in_iff]
  constructor
  · intro h
    by_cases m : (a, b) ∈ hs.map (·.1)
    · exact absurd ((g.in_iff a b).mp m) h
    · unfold hv
      rw [hgt_none.mpr m]
      rfl
  · intro h z
    omega
theorem GoodH.get {ws : List Str} {most : Int} {hs : List Hgt} (g : GoodH ws most hs) (a b : Str) : (valV (hsD hs) (k2 a b)).isSome = decide (hv hs a b > 0) := by
  rw [hs_val]
  by_cases m : (a, b) ∈ hs.map (·.1)
  · rw [decide_eq_true ((g.in_iff a b).mp m)]
    cases e : hgt hs (a, b) with
    | none => exact absurd m (hgt_none.mp e)
    | some n => rfl
  · rw [decide_eq_false (fun z => m ((g.in_iff a b).mpr z)), hgt_none.mpr m]
    rfl
theorem GoodH.ge {ws : List Str} {most : Int} {hs : List Hgt} (g : GoodH ws most hs) (a b : Str) : hv hs a b = 0 ∨ hv hs a b > 0 := by
  by_cases m : (a, b) ∈ hs.map (·.1)
  · exact .inr ((g.in_iff a b).mp m)
  · exact .inl ((g.no_iff a b).mp m)
theorem step_iff {p : Parts} {ws : List Str} {hs : List Hgt} {a b : Str} : StepG p ws hs a b ↔ (hv hs a b = 0 → (a ∈ p.gs ↔ b ∈ p.gs)) ∧ ∀ c ∈ p.sg.cps.toList, StepC p ws hs a b c :=
  ⟨fun h => ⟨fun z => (h.1 z).1, fun c hc => ⟨fun z => (h.1 z).2 c hc, fun z => h.2 z c hc⟩⟩, fun h => ⟨fun z => ⟨h.1 z, fun c hc => (h.2 c hc).1 z⟩, fun z c hc => (h.2 c hc).2 z⟩⟩
end My
namespace My
open PySem PySem.Spec PyProof.Rows L2 PySem.GX L2H LamX
/-- the paper shows it, among some moods -/
def FitG (p : Parts) (ws : List Str) (most : Int) (o : Option (List Itt)) : Prop := ∃ hs : List Hgt, o = some (hs.map triT) ∧ GoodH ws most hs ∧ ∀ a ∈ ws, ∀ b ∈ ws, StepG p ws hs a b
theorem fit_iff {p : Parts} {ws : List Str} {most : Int} {o : Option (List Itt)} {hs : List Hgt} (e : o = some (hs.map triT)) (g : GoodH ws most hs) : FitG p ws most o ↔ ∀ a ∈ ws, ∀ b ∈ ws, StepG p ws hs a b := by
  constructor
  · rintro ⟨qs, e2, _, h⟩
    rw [e] at e2
    obtain rfl := map_tri (Option.some.inj e2)
    exact h
  · exact fun h => ⟨hs, e, g, h⟩
end My
namespace My
open PySem PySem.Spec PyProof.Rows L2 PySem.GX L2H LamX
theorem fit_congr {p : Parts} {ws ws' : List Str} {n : Int} {o : Option (List Itt)} (h : ∀ m, m ∈ ws ↔ m ∈ ws') : FitG p ws n o ↔ FitG p ws' n o := by
  have half : ∀ {ws ws' : List Str}, (∀ m, m ∈ ws ↔ m ∈ ws') → FitG p ws n o → FitG p ws' n o := by
    rintro ws ws' h ⟨hs, e, g, k⟩
    refine ⟨hs, e, ⟨g.nd, fun z hz => let ⟨a, b, r⟩ := g.inn z hz; ⟨(h _).mp a, (h _).mp b, r⟩⟩, fun a ha b hb => ?_⟩
    have st := k a ((h a).mpr ha) b ((h b).mpr hb)
    exact ⟨fun z => ⟨(st.1 z).1, fun c hc => ⟨by rw [← h, ← h]; exact ((st.1 z).2 c hc).1, fun hx => ((st.1 z).2 c hc).2 ((h _).mpr hx)⟩⟩, fun z c hc h1 h2 => st.2 z c hc ((h _).mpr h1) ((h _).mpr h2)⟩
  exact ⟨half h, half fun m => (h m).symm⟩
/-- the paper shows it for live moods -/
def HoldsW (p : Parts) (n : Int) (o : Option (List Itt)) : Prop := ∃ ws, LiveL p ws ∧ FitG p ws (n - 1) o
theorem fit_holdsW {p : Parts} {ws : List Str} {n : Int} {o : Option (List Itt)} (cl : LiveL p ws) : FitG p ws (n - 1) o ↔ HoldsW p n o :=
  ⟨fun h => ⟨ws, cl, h⟩, fun ⟨ws', cl', h⟩ => (fit_congr fun m => (cl.2 m).trans (cl'.2 m).symm).mpr h⟩
def spWindows (C : Addr) : Sp := fun vs H Q _ => ∃ (t : Str) (p : Parts) (nv v : V) (no : Option Int) (o : Option (List Itt)), vs = [.str t, nv, v] ∧ t.length ≤ 1000000 ∧ PyData.strOk t = true ∧ parseL t = some p ∧ NuAt H nv no ∧ PapH H v o ∧
  ∀ (b : Bool) (H' : Hp), Same H H' → (b = true ↔ ∃ n, no = some n ∧ 1 ≤ n ∧ n ≤ 1000 ∧ HoldsW p n o) → Q (.bl b) H'
/-- the heights to which a pair is led -/
def glsW (p : Parts) (ls : List Str) (hs : List Hgt) (a b : Str) : List Int := p.sg.cps.toList.filterMap fun c => if decide (ledL p a c ∈ ls) && decide (ledL p b c ∈ ls) then some (hv hs (ledL p a c) (ledL p b c)) else none
theorem gls_mem {p : Parts} {ls : List Str} {hs : List Hgt} {a b : Str} {n : Int} : n ∈ glsW p ls hs a b ↔ ∃ c ∈ p.sg.cps.toList, ledL p a c ∈ ls ∧ ledL p b c ∈ ls ∧ n = hv hs (ledL p a c) (ledL p b c) := by
  unfold glsW
  rw [List.mem_filterMap]
  constructor
  · rintro ⟨c, hc, e⟩
    by_cases h : (decide (ledL p a c ∈ ls) && decide (ledL p b c ∈ ls)) = true
    · rw [if_pos h] at e
      rw [Bool.and_eq_true] at h
      exact ⟨c, hc, of_decide_eq_true h.1, of_decide_eq_true h.2, (Option.some.inj e).symm⟩
    · rw [if_neg h] at e
      cases e
  · rintro ⟨c, hc, h1, h2, rfl⟩
    exact ⟨c, hc, by rw [decide_eq_true h1, decide_eq_true h2]; rfl⟩
/-- what is tested for a pair -/
def JudW (p : Parts) (ls : List Str) (hs : List Hgt) (a b : Str) : Prop := (hv hs a b = 0 → (a ∈ p.gs ↔ b ∈ p.gs) ∧ (∀ n ∈ glsW p ls hs a b, ¬ n > 0) ∧ ∀ c ∈ p.sg.cps.toList, (ledL p a c ∈ ls ↔ ledL p b c ∈ ls)) ∧ (hv hs a b > 0 → ∀ n ∈ glsW p ls hs a b, ¬ n ≥ hv hs a b)
theorem jud_iff {p : Parts} {ls ws : List Str} {hs : List Hgt} {a b : Str} (hl : ∀ c ∈ p.sg.cps.toList, (ledL p a c ∈ ls ↔ ledL p a c ∈ ws) ∧ (ledL p b c ∈ ls ↔ ledL p b c ∈ ws)) : JudW p ls hs a b ↔ StepG p ws hs a b := by
  constructor
  · rintro ⟨h1, h2⟩
    refine ⟨fun z => ⟨(h1 z).1, fun c hc => ⟨?_, fun hx => ?_⟩⟩, fun z c hc hx hy => ?_⟩
    · rw [← (hl c hc).1, ← (hl c hc).2]
      exact (h1 z).2.2 c hc
    · have ha := (hl c hc).1.mpr hx
      exact (h1 z).2.1 _ (gls_mem.mpr ⟨c, hc, ha, ((h1 z).2.2 c hc).mp ha, rfl⟩)
    · exact h2 z _ (gls_mem.mpr ⟨c, hc, (hl c hc).1.mpr hx, (hl c hc).2.mpr hy, rfl⟩)
  · rintro ⟨h1, h2⟩
    refine ⟨fun z => ⟨(h1 z).1, fun n hn => ?_, fun c hc => ?_⟩, fun z n hn => ?_⟩
    · obtain ⟨c, hc, x1, x2, rfl⟩ := gls_mem.mp hn
      exact ((h1 z).2 c hc).2 ((hl c hc).1.mp x1)
    · rw [(hl c hc).1, (hl c hc).2]
      exact ((h1 z).2 c hc).1
    · obtain ⟨c, hc, x1, x2, rfl⟩ := gls_mem.mp hn
      exact h2 z c hc ((hl c hc).1.mp x1) ((hl c hc).2.mp x2)
/-- the pair is tested -/
def tStepW (C : Addr) (K : PySem.W.Frag) : TS := fun D σ H => ∃ (x0 x1 x2 x5 x10 x11 x12 x13 x14 x15 x16 x17 x18 : Option V) (r d W L dx M G D0 : Addr) (t : Str) (p : Parts) (hs : List Hgt) (ls ws : List Str) (a b : Str), σ = [x0, x1, x2, some (.ref r), some (.ref L), x5, some (.ref d), some (.ref W), some (.str a), some (.str b), x10, x11, x12, x13, x14, x15, x16, x17, x18] ∧ H r = some (.ins C dx (rFs t p M G D0)) ∧ H D0 = some (.dT (goalsD p.rs)) ∧ H d = some (.dT (hsD hs)) ∧ H W = some (.dK (setD p.gs)) ∧ H L = some (.dK (setD ls)) ∧ PartsOk p ∧ a ∈ p.ms ∧ b ∈ p.ms ∧
  (∀ c ∈ p.sg.cps.toList, (ledL p a c ∈ ls ↔ ledL p a c ∈ ws) ∧ (ledL p b c ∈ ls ↔ ledL p b c ∈ ws)) ∧ (hv hs a b = 0 ∨ hv hs a b > 0) ∧
  (¬ StepG p ws hs a b → ∀ H', Same H H' → D.rt (.bl false) H') ∧ (StepG p ws hs a b → ∀ (y10 y11 y12 : Option V) (H' : Hp), Same H H' → D.nx [x0, x1, x2, some (.ref r), some (.ref L), x5, some (.ref d), some (.ref W), some (.str a), some (.str b), y10, y11, y12, x13, x14, x15, x16, x17, x18] H')
/-- the heights are tested -/
def tJudgeW (K : PySem.W.Frag) : TS := fun D σ H => ∃ (x0 x1 x2 x3 x5 x12 x13 x14 x15 x16 x17 x18 : Option V) (d W L Dl Dg : Addr) (p : Parts) (hs : List Hgt) (ls : List Str) (a b : Str) (bs : List Addr), σ = [x0, x1, x2, x3, some (.ref L), x5, some (.ref d), some (.ref W), some (.str a), some (.str b), some (.ref Dl), some (.ref Dg), x12, x13, x14, x15, x16, x17, x18] ∧ H d = some (.dT (hsD hs)) ∧ H W = some (.dK (setD p.gs)) ∧ H L = some (.dK (setD ls)) ∧ H Dl = some (.lst (bs.map V.ref)) ∧ Pr2 H bs (p.sg.cps.toList.map fun c => (ledL p a c, ledL p b c)) ∧ p.sg.cps.toList.length ≤ 3 ∧ H Dg = some (.lst ((glsW p ls hs a b).map V.int)) ∧ (glsW p ls hs a b).length ≤ 3 ∧ (hv hs a b = 0 ∨ hv hs a b > 0) ∧
  (¬ JudW p ls hs a b → ∀ H', Same H H' → D.rt (.bl false) H') ∧
  (JudW p ls hs a b → ∀ (y12 : Option V) (H' : Hp), Same H H' → D.nx [x0, x1, x2, x3, some (.ref L), x5, some (.ref d), some (.ref W), some (.str a), some (.str b), some (.ref Dl), some (.ref Dg), y12, x13, x14, x15, x16, x17, x18] H')
section
variable {P : Program} {w : World} {K : PySem.W.Frag} {mg : Str → Option Value} {base : Heap}
abbrev nWin : List Str := ["text", "number", "paper", "rule", "live", "moods", "heights", "good", "p", "q", "leads", "goals", "height", "mood", "sign", "pair", "goal", "left", "right"]
theorem scWin : FnScope nWin ["text", "number", "paper"] (defScope sWindows) := ⟨rfl, rfl, rfl, by decide +kernel, rfl, by decide +kernel, by decide +kernel⟩
theorem ok_windows {f C : Addr} {fd : FuncData} {tk : Tok} (F : Fun K "shows_windows" "shows_windows" sWindows f fd) (T : RuC K C) (hRo : Hv P w K mg base 7 "rule_of" ["text"] (spRuleOf C)) (hIn : Hv P w K mg base 1 "in_bounds" ["value", "low", "high"] (spInB K)) (hLv : Hv P w K mg base 3 "live_moods" ["rule"] (spLiveM C)) (hCo : Hv P w K mg base 3 "coming_moods" ["rule"] (spComing C)) (hRh : Hv P w K mg base 2 "read_heights" ["moods", "most", "paper"] spReadH) (hAs : Hv P w K mg base 1 "as_set" ["words"] spAsSet)
    (pG : PrF P w K mg base C "good" "chosen") (pS : PrF P w K mg base C "signs" "letters") (hAny : mg "any" = none) (gM : mg "MOST_LOOK" = some (.int 1000 tk)) : FnOk P w K mg base CX0 8 f fd ["text", "number", "paper"] (spWindows C) := by
  obtain ⟨ppG, gpG, fdG, PG', GG, bG⟩ := pG
  obtain ⟨ppS, gpS, fdS, PS', GS, bS⟩ := pS
  refine F.ok scWin (fun vs H Q E h => ?_) (fun cdv A outer s H vs Q E hr h => ?_)
  · obtain ⟨t, p, nv, v, no, o, rfl, _⟩ := h
    rfl
  · obtain ⟨t, p, nv, v, no, o, rfl, zt, ot, pt, hN, hP, kk⟩ := h
    have hu := hu_of hr
    have hr1 : Room 1 (A.deeper (envOfC "shows_windows" (defScope sWindows) s.heap.objs.size f cdv)) := hr.mono (by decide)
    have hr2 : Room 2 (A.deeper (envOfC "shows_windows" (defScope sWindows) s.heap.objs.size f cdv)) := hr.mono (by decide)
    have hr3 : Room 3 (A.deeper (envOfC "shows_windows" (defScope sWindows) s.heap.objs.size f cdv)) := hr.mono (by decide)
    refine ⟨_, pss_cons (ps_set (i := 3) scWin.nd rfl (Or.inr rfl) (pe_cl hRo hr rfl pass0 (pa_cons (pv 0) pa_nil)))
      (pss_cons (ps_if (PW.pt (pw_or (pt_cmpR op_isN (pv 3) pe_non (nomark _)) (pw_or1 (pt_not (pt_val (pe_cl hIn hr1 rfl pass0 (pa_cons (pv 1) (pa_cons pe_int (pa_cons (pe_glob (v := .int 1000) rfl gM ⟨_, rfl⟩) pa_nil))))))))) (pss_one (ps_ret pe_bl)) pss_nil)
      (pss_cons (ps_set (i := 4) scWin.nd rfl (Or.inr rfl) (pe_cl hLv hr3 rfl pass0 (pa_cons (pv 3) pa_nil)))
      (pss_cons (ps_setLc (i := 5) (own := [("mood", 13)]) (g := gName 13) (by rfl) scWin.nd rfl rfl (sw_true rfl rfl rfl (by decide +kernel)) (pi_list (pe_cl hCo hr3 rfl pass0 (pa_cons (pv 3) pa_nil))) (blkOk_by (N := nWin) (sc := defScope sWindows) (by decide +kernel)) (fun _ _ _ _ _ => pg_name (i := 13) scWin.nd rfl (Or.inl rfl)) (fun _ _ _ _ _ => pts_one (pt_cmp (pc_din hu (pv 13) (pv 4)))) (fun _ _ _ _ _ => pv 13))
      (pss_cons (ps_set (i := 6) scWin.nd rfl (Or.inr rfl) (pe_cl hRh hr2 rfl pass0 (pa_cons (pv 5) (pa_cons (pe_op op_sub (pv 1) pe_int) (pa_cons (pv 2) pa_nil)))))
      (pss_cons (ps_if (pt_cmpR op_isN (pv 6) pe_non (nomark _)) (pss_one (ps_ret pe_bl)) pss_nil)
      (pss_cons (ps_set (i := 7) scWin.nd rfl (Or.inl rfl) (pe_cl hAs hr1 rfl pass0 (pa_cons (pe_prop (pv 3) T.cl PG' GG hr2 bG .nil pass0 (by rfl)) pa_nil)))
      (pss_cons (ps_for PassesOwn.never rfl (pi_list (pv 5)) (pg_name (i := 8) scWin.nd rfl (Or.inr rfl)) (pss_one (ps_for PassesOwn.never rfl (pi_list (pv 5)) (pg_name (i := 9) scWin.nd rfl (Or.inr rfl))
        (PSs_impL (t' := tStepW C K) (pss_cons (ps_setLc (i := 10) (own := [("sign", 14)]) (g := gName 14) (tt := tYes) (by rfl) scWin.nd rfl rfl (sw_true rfl rfl rfl (by decide +kernel)) (pi_str (pe_prop (pv 3) T.cl PS' GS hr2 bS .nil pass0 (by rfl))) (blkOk_by (N := nWin) (sc := defScope sWindows) (by decide +kernel)) (fun _ _ _ _ _ => pg_name (i := 14) scWin.nd rfl (Or.inl rfl)) (fun _ _ _ _ _ => pts_nil) (fun _ _ _ _ _ => pe_tup (pa_cons (pe_dget hu (pe_fldK (K := K) rfl (pv 3) rfl) (pe_tup (pa_cons (pv 8) (pa_cons (pv 14) pa_nil))) (fun _ _ => rfl)) (pa_cons (pe_dget hu (pe_fldK (K := K) rfl (pv 3) rfl) (pe_tup (pa_cons (pv 9) (pa_cons (pv 14) pa_nil))) (fun _ _ => rfl)) pa_nil))))
        (pss_cons (ps_setLc (i := 11) (own := [("pair", 15)]) (g := gName 15) (by rfl) scWin.nd rfl rfl (sw_true rfl rfl rfl (by decide +kernel)) (pi_list (pv 10)) (blkOk_by (N := nWin) (sc := defScope sWindows) (by decide +kernel)) (fun _ _ _ _ _ => pg_name (i := 15) scWin.nd rfl (Or.inl rfl)) (fun _ _ _ _ _ => pts_one (PW.pt (pw_and (pt_cmp (pc_din hu (pe_ix (ix_tupK (K := K) rfl) (pv 15) pe_int (fun _ _ => rfl)) (pv 4))) (pw_and1 (pt_cmp (pc_din hu (pe_ix (ix_tupK (K := K) rfl) (pv 15) pe_int (fun _ _ => rfl)) (pv 4))))))) (fun _ _ _ _ _ => pe_dget2 hu (pv 6) (pv 15) pe_int ⟨rfl, rfl, rfl, rfl⟩))
        (PSs_impL (t' := tJudgeW K) (pss_cons (ps_set (i := 12) scWin.nd rfl (Or.inr rfl) (pe_dget2 hu (pv 6) (pe_tup (pa_cons (pv 8) (pa_cons (pv 9) pa_nil))) pe_int ⟨rfl, rfl, rfl, rfl⟩))
        (pss_cons (ps_if (PW.pt (pw_and (pt_cmpR op_eq (pv 12) pe_int (nomark _)) (pw_and1 (PW.pt (pw_or (pt_cmpR op_ne (pe_cmp (pc_din hu (pv 8) (pv 7))) (pe_cmp (pc_din hu (pv 9) (pv 7))) (nomark _)) (pw_or1 (pt_val (pe_callB (cr_any rfl) (by rfl) hAny (by decide +kernel) (pa_cons (pe_lc (own := [("goal", 16)]) (g := gName 16) (tt := tYes) rfl scWin.nd (pi_list (pv 11)) (blkOk_by (N := nWin) (sc := defScope sWindows) (by decide +kernel)) (fun _ _ _ _ _ => pg_name (i := 16) scWin.nd rfl (Or.inl rfl)) (fun _ _ _ _ _ => pts_nil) (fun _ _ _ _ _ => pe_cmpR op_gt (pv 16) pe_int (nomark _))) pa_nil))))))))) (pss_one (ps_ret pe_bl)) pss_nil)
        (pss_cons (ps_if (PW.pt (pw_and (pt_cmpR op_eq (pv 12) pe_int (nomark _)) (pw_and1 (pt_val (pe_callB (cr_any rfl) (by rfl) hAny (by decide +kernel) (pa_cons (pe_lc (own := [("left", 17), ("right", 18)]) (g := gTup K 2 (gCons (gName 17) (gCons (gName 18) gNil))) (tt := tYes) rfl scWin.nd (pi_list (pv 10)) (blkOk_by (N := nWin) (sc := defScope sWindows) (by decide +kernel)) (fun _ _ _ _ _ => pg_tup rfl (pgs_cons (pg_name (i := 17) scWin.nd rfl (Or.inl rfl)) (pgs_cons (pg_name (i := 18) scWin.nd rfl (Or.inl rfl)) pgs_nil))) (fun _ _ _ _ _ => pts_nil) (fun _ _ _ _ _ => pe_cmpR op_ne (pe_cmp (pc_din hu (pv 17) (pv 4))) (pe_cmp (pc_din hu (pv 18) (pv 4))) (nomark _))) pa_nil)))))) (pss_one (ps_ret pe_bl)) pss_nil)
        (pss_one (ps_if (PW.pt (pw_and (pt_cmpR op_gt (pv 12) pe_int (nomark _)) (pw_and1 (pt_val (pe_callB (cr_any rfl) (by rfl) hAny (by decide +kernel) (pa_cons (pe_lc (own := [("goal", 16)]) (g := gName 16) (tt := tYes) rfl scWin.nd (pi_list (pv 11)) (blkOk_by (N := nWin) (sc := defScope sWindows) (by decide +kernel)) (fun _ _ _ _ _ => pg_name (i := 16) scWin.nd rfl (Or.inl rfl)) (fun _ _ _ _ _ => pts_nil) (fun _ _ _ _ _ => pe_cmpR op_ge (pv 16) (pv 12) (nomark _))) pa_nil)))))) (pss_one (ps_ret pe_bl)) pss_nil))))) ?iJ))) ?iSt))))
      (pss_one (ps_ret pe_bl))))))))), ?_⟩
    case iJ =>
      rintro D σ H ⟨x0, x1, x2, x3, x5, x12, x13, x14, x15, x16, x17, x18, d, W, L, Dl, Dg, p, hs, ls, a, b, bs, rfl, ed, ew, eL, el, prb, l3, eg, lg, hge, kf, kt⟩
      have hbl := prb.len
      rw [List.length_map] at hbl
      refine ⟨_, rfl, d, rfl, .inr ⟨_, .inl ed⟩, _, rfl, _, rfl, (by show 2 ≤ sizeLine; decide), fun tp htp => ⟨_, DGet.t (k := k2 a b) (keep1 ed htp) upd_same, ?_⟩⟩
      rw [hs_val, hv_get]
      have s8 := same_new (o := .tup [.str a, .str b]) htp
      generalize upd H tp (.tup [.str a, .str b]) = H8 at s8 ⊢
      have ew8 := s8 _ _ ew
      have eL8 := s8 _ _ eL
      have el8 := s8 _ _ el
      have eg8 := s8 _ _ eg
      have prb8 := prb.same s8
      clear htp
      have hJ : JudW p ls hs a b ↔ (hv hs a b = 0 → (a ∈ p.gs ↔ b ∈ p.gs) ∧ (∀ n ∈ glsW p ls hs a b, ¬ n > 0) ∧ ∀ c ∈ p.sg.cps.toList, (ledL p a c ∈ ls ↔ ledL p b c ∈ ls)) ∧ (hv hs a b > 0 → ∀ n ∈ glsW p ls hs a b, ¬ n ≥ hv hs a b) := Iff.rfl
      generalize JudW p ls hs a b = J at hJ kf kt
      generalize glsW p ls hs a b = gls at *
      generalize hh : hv hs a b = h at *
      refine ⟨_, rfl, rfl, _, rfl, ?_⟩
      rcases hge with h0 | h0
      · subst h0
        refine ite2 (fun _ => ?_) (fun c => absurd (decide_eq_true rfl) c)
        refine ⟨_, rfl, _, rfl, W, _, rfl, DGet.k (k := Sum.inr a) ew8, _, rfl, _, rfl, W, _, rfl, DGet.k (k := Sum.inr b) ew8, rfl, _, rfl, ?_⟩
        rw [setD_val, setD_val]
        by_cases hg : (a ∈ p.gs ↔ b ∈ p.gs)
        rotate_left
        · refine ite2 (fun _ => kf (fun z => hg ((hJ.mp z).1 rfl).1) _ s8) (fun c => absurd ?_ c)
          have : ¬ (V.bl (decide (a ∈ p.gs)) = V.bl (decide (b ∈ p.gs))) := fun z => by
            injection z with z
            exact hg (decide_eq_decide.mp z)
          rw [decide_eq_false this]
          rfl
        have hb2 : decide (a ∈ p.gs) = decide (b ∈ p.gs) := decide_eq_decide.mpr hg
        rw [hb2]
        refine ite2 (fun c => ?_) (fun _ => ?_)
        · rw [decide_eq_true rfl] at c
          cases c
        refine ⟨_, rfl, Dg, rfl, ⟨_, SqL.of eg8⟩, fun D2 hD2 => ?_⟩
        refine lcG gls (fun n => some (V.bl (decide (n > 0)))) (walk_listL (K := K) (a := Dg) gls V.int) (by omega) hD2 (yat_same _) (fun H' s' => SqL.of (s' _ _ eg8)) (fun i c y H4 H5 k1 hc sj hy k2 => ?_) (fun H9 s9 e9 => ?_)
        · obtain ⟨rfl, hy⟩ := hy
          obtain rfl := map_get hc hy
          exact ⟨rfl, _, rfl, _, _, rfl, rfl, k2 _ (Same.refl _)⟩
        rw [List.filterMap_eq_map'] at e9
        refine ⟨D2, gls.map fun n => decide (n > 0), rfl, SqL.of (by rw [List.map_map]; exact e9), _, rfl, ite2 (fun c => ?_) (fun c => ?_)⟩
        · refine kf (fun z => ?_) _ (s8.trans s9)
          obtain ⟨x, hx, hx2⟩ := List.any_eq_true.mp c
          obtain ⟨n, hn, rfl⟩ := List.mem_map.mp hx
          exact ((hJ.mp z).1 rfl).2.1 n hn (of_decide_eq_true hx2)
        have hno : ∀ n ∈ gls, ¬ n > 0 := fun n hn z => c (List.any_eq_true.mpr ⟨_, List.mem_map.mpr ⟨n, hn, rfl⟩, decide_eq_true z⟩)
        have el9 := s9 _ _ el8
        have eL9 := s9 _ _ eL8
        have prb9 := prb8.same s9
        have s89 := s8.trans s9
        clear e9 hD2 c
        refine ⟨_, rfl, rfl, _, rfl, ite2 (fun _ => ?_) (fun c => absurd (decide_eq_true rfl) c)⟩
        refine ⟨_, rfl, Dl, rfl, ⟨_, SqL.of el9⟩, fun D3 hD3 => ?_⟩
        refine lcR (walk_listL (K := K) (a := Dl) bs V.ref) (fun i ys _ => ∃ zs : List Bool, ys = zs.map V.bl ∧ (zs.any id = true ↔ ∃ c ∈ p.sg.cps.toList.take i, ¬ (ledL p a c ∈ ls ↔ ledL p b c ∈ ls))) (fun _ _ _ _ _ h => h) ⟨[], rfl, (fun z => by cases z), fun ⟨c, hc, _⟩ => by rw [List.take_zero] at hc; cases hc⟩ (by omega) hD3 (yat_same _) (fun H' s' => SqL.of (s' _ _ el9)) (fun j x ys H4 H5 k hj sj eD hI hy k1 k0 => ?_) (fun ys HA hlA sA eA hI => ?_)
        · obtain ⟨rfl, hy⟩ := hy
          obtain ⟨zs, rfl, hzs⟩ := hI
          have hbj : bs[j]? = some bs[j] := List.getElem?_eq_getElem hj
          obtain rfl := map_get hbj hy
          generalize bs[j] = bj at hbj
          obtain ⟨g', hg', eb⟩ := prb9.get hbj
          rw [List.getElem?_map] at hg'
          cases hc : p.sg.cps.toList[j]? with
          | none => rw [hc] at hg'; cases hg'
          | some c =>
            rw [hc] at hg'
            obtain rfl := Option.some.inj hg'
            have tk : p.sg.cps.toList.take (j + 1) = p.sg.cps.toList.take j ++ [c] := by rw [List.take_add_one, hc]; rfl
            have eLj := sj _ _ eL9
            refine ⟨bj, _, rfl, SqT.of (sj _ _ eb), rfl, _, _, rfl, _, _, rfl, rfl, rfl, ?_⟩
            refine ⟨_, rfl, _, rfl, L, _, rfl, DGet.k (k := Sum.inr (ledL p a c)) eLj, _, rfl, _, rfl, L, _, rfl, DGet.k (k := Sum.inr (ledL p b c)) eLj, rfl, ?_⟩
            rw [setD_val, setD_val]
            refine k1 _ _ (Same.refl _) ⟨zs ++ [!decide (V.bl (decide (ledL p a c ∈ ls)) = V.bl (decide (ledL p b c ∈ ls)))], by rw [List.map_append]; rfl, ?_⟩
            have hx : (!decide (V.bl (decide (ledL p a c ∈ ls)) = V.bl (decide (ledL p b c ∈ ls)))) = true ↔ ¬ (ledL p a c ∈ ls ↔ ledL p b c ∈ ls) := by
              rw [Bool.not_eq_true', decide_eq_false_iff_not]
              refine not_congr ⟨fun z => ?_, fun z => by rw [decide_eq_decide.mpr z]⟩
              injection z with z
              exact decide_eq_decide.mp z
            rw [List.any_append, Bool.or_eq_true, hzs, tk]
            constructor
            · rintro (⟨c', h1, h2⟩ | h1)
              · exact ⟨c', List.mem_append_left _ h1, h2⟩
              · exact ⟨c, by simp, hx.mp (by simpa using h1)⟩
            · rintro ⟨c', h1, h2⟩
              rcases List.mem_append.mp h1 with h1 | h1
              · exact .inl ⟨c', h1, h2⟩
              · rw [List.mem_singleton] at h1
                subst h1
                exact .inr (by simpa using hx.mpr h2)
        obtain ⟨zs, rfl, hzs⟩ := hI
        rw [hbl, List.take_length] at hzs
        refine ⟨D3, zs, rfl, SqL.of eA, _, rfl, ite2 (fun c => ?_) (fun c => ?_)⟩
        · obtain ⟨c', hc', n'⟩ := hzs.mp c
          exact kf (fun z => n' (((hJ.mp z).1 rfl).2.2 c' hc')) _ (s89.trans sA)
        refine ⟨_, rfl, _, _, rfl, rfl, _, rfl, ite2 (fun c2 => absurd (of_decide_eq_true c2) (by decide)) (fun _ => iteF ?_)⟩
        refine kt (hJ.mpr ⟨fun _ => ⟨hg, hno, fun c' hc' => ?_⟩, fun z => absurd z (by decide)⟩) _ _ (s89.trans sA)
        apply Classical.byContradiction
        exact fun n' => c (hzs.mpr ⟨c', hc', n'⟩)
      · have hn0 : ¬ h = 0 := fun z => by omega
        have no : ∀ {A B : Prop}, B → (if decide (V.int h = V.int 0) = true then A else B) := fun z => by
          rw [decide_eq_false (fun z => hn0 (by injection z))]
          exact z
        refine ite2 (fun c => absurd ?_ hn0) (fun _ => iteF ?_)
        · have := of_decide_eq_true c
          injection this
        refine ⟨_, rfl, rfl, _, rfl, ite2 (fun c => absurd ?_ hn0) (fun _ => iteF ?_)⟩
        · have := of_decide_eq_true c
          injection this
        refine ⟨_, rfl, _, _, rfl, rfl, _, rfl, ite2 (fun c => ?_) (fun c => absurd (decide_eq_true h0) c)⟩
        refine ⟨_, rfl, Dg, rfl, ⟨_, SqL.of eg8⟩, fun D2 hD2 => ?_⟩
        refine lcG gls (fun n => some (V.bl (decide (n ≥ h)))) (walk_listL (K := K) (a := Dg) gls V.int) (by omega) hD2 (yat_same _) (fun H' s' => SqL.of (s' _ _ eg8)) (fun i c y H4 H5 k1 hc sj hy k2 => ?_) (fun H9 s9 e9 => ?_)
        · obtain ⟨rfl, hy⟩ := hy
          obtain rfl := map_get hc hy
          exact ⟨rfl, _, rfl, _, rfl, _, _, rfl, rfl, k2 _ (Same.refl _)⟩
        rw [List.filterMap_eq_map'] at e9
        refine ⟨D2, gls.map fun n => decide (n ≥ h), rfl, SqL.of (by rw [List.map_map]; exact e9), _, rfl, ite2 (fun c => ?_) (fun c => ?_)⟩
        · refine kf (fun z => ?_) _ (s8.trans s9)
          obtain ⟨x, hx, hx2⟩ := List.any_eq_true.mp c
          obtain ⟨n, hn, rfl⟩ := List.mem_map.mp hx
          exact (hJ.mp z).2 h0 n hn (of_decide_eq_true hx2)
        · exact kt (hJ.mpr ⟨fun z => absurd z hn0, fun _ n hn z => c (List.any_eq_true.mpr ⟨_, List.mem_map.mpr ⟨n, hn, rfl⟩, decide_eq_true z⟩)⟩) _ _ (s8.trans s9)
    case iSt =>
      rintro D σ H ⟨x0, x1, x2, x5, x10, x11, x12, x13, x14, x15, x16, x17, x18, r, d, W, L, dx, M, G, D0, t, p, hs, ls, ws, a, b, rfl, e1, ed0, ed, ew, eL, ok, ha, hb, hl, hge, kf, kt⟩
      have hx3 : p.sg.cps.size ≤ 3 := by
        have := ok.sgs
        rw [areS1] at this
        simp only [Bool.and_eq_true, decide_eq_true_eq] at this
        exact this.1.1.2
      have hcs : p.sg.cps.toList.length = p.sg.cps.size := Array.length_toList
      refine ⟨_, rfl, r, dx, _, rfl, e1, r, dx, _, .str p.sg, rfl, e1, rfl, p.sg, rfl, fun D1 hD1 => ?_⟩
      refine lcR walk_str (fun i ys H' => ∃ bs : List Addr, ys = bs.map V.ref ∧ Pr2 H' bs ((p.sg.cps.toList.take i).map fun c => (ledL p a c, ledL p b c))) (fun i ys H H' s ⟨bs, e, h⟩ => ⟨bs, e, h.same s⟩) ⟨[], rfl, trivial⟩ (by omega) hD1 (fun i H x H' h => by rw [h.1]; exact Same.refl _) (fun _ _ => trivial) (fun j x ys H4 H5 k hj sj eD hI hy k1 _ => ?_) (fun ys H7 hl7 s7 e7 hI => ?_)
      · obtain ⟨rfl, c', hc, rfl⟩ := hy
        obtain ⟨bs, rfl, prb⟩ := hI
        rw [← Array.getElem?_toList] at hc
        have hc1 : c' ∈ p.sg.cps.toList := List.mem_of_getElem? hc
        have g1 := (ok.goal ha hc1).2
        have g2 := (ok.goal hb hc1).2
        refine ⟨rfl, ?_⟩
        refine ⟨_, rfl, r, C, dx, _, .ref D0, rfl, sj _ _ e1, T.cl, T.f5, rfl, _, rfl, _, rfl, (by show 2 ≤ sizeLine; decide), fun ta hta => ⟨D0, .str (ledL p a c'), rfl, ?_, ?_⟩⟩
        · have := DGet.t (k := kT a c') (keep1 (sj _ _ ed0) hta) (upd_same (o := .tup ((kT a c').map kV)))
          rw [g1] at this
          exact this
        have sa : Same H5 (upd H5 ta (.tup ((kT a c').map kV))) := same_new hta
        show ∃ _, _
        generalize eHn : upd H5 ta (.tup ((kT a c').map kV)) = Hn at sa
        have eHn' : upd H5 ta (.tup [.str a, .str (sg c')]) = Hn := eHn
        rw [eHn']
        clear eHn eHn' hta
        have sb := sj.trans sa
        refine ⟨_, rfl, r, C, dx, _, .ref D0, rfl, sb _ _ e1, T.cl, T.f5, rfl, _, rfl, _, rfl, (by show 2 ≤ sizeLine; decide), fun tb htb => ⟨D0, .str (ledL p b c'), rfl, ?_, (by show 2 ≤ sizeLine; decide), fun tq htq => ?_⟩⟩
        · have := DGet.t (k := kT b c') (keep1 (sb _ _ ed0) htb) (upd_same (o := .tup ((kT b c').map kV)))
          rw [g2] at this
          exact this
        have etq := upd_same (a := tq) (H := upd Hn tb (.tup [.str b, .str (sg c')])) (o := .tup [.str (ledL p a c'), .str (ledL p b c')])
        have s8 := (sa.trans (same_new htb)).trans (same_new (o := .tup [.str (ledL p a c'), .str (ledL p b c')]) htq)
        have ntq : tq ≠ D1 := ne_of etq (s8 _ _ eD) (by intro z; cases z)
        refine k1 (.ref tq) _ s8 ⟨bs ++ [tq], by rw [List.map_append]; rfl, ?_⟩
        rw [List.take_add_one, hc, List.map_append]
        exact (prb.same (same_del s8)).app ⟨by rw [del_ne ntq]; exact etq, trivial⟩
      obtain ⟨bs, rfl, prb⟩ := hI
      have prb := prb.same (del_same_of H7 D1)
      rw [← hcs, List.take_length] at prb
      have hbl := prb.len
      rw [List.length_map] at hbl
      have eL7 := s7 _ _ eL
      have ed7 := s7 _ _ ed
      have ew7 := s7 _ _ ew
      refine ⟨_, rfl, D1, rfl, ⟨_, SqL.of e7⟩, fun D2 hD2 => ?_⟩
      refine lcR (walk_listL (K := K) (a := D1) bs V.ref) (fun i ys _ => ys = ((p.sg.cps.toList.take i).filterMap fun c => if decide (ledL p a c ∈ ls) && decide (ledL p b c ∈ ls) then some (hv hs (ledL p a c) (ledL p b c)) else none).map V.int) (fun _ _ _ _ _ h => h) rfl (by omega) hD2 (yat_same _) (fun H' s' => SqL.of (s' _ _ e7)) (fun j x ys H4 H5 k hj sj eD hI hy k1 k0 => ?_) (fun ys H8 hl8 s8 e8 hI => ?_)
      · obtain ⟨rfl, hy⟩ := hy
        have hbj : bs[j]? = some bs[j] := List.getElem?_eq_getElem hj
        obtain rfl := map_get hbj hy
        generalize bs[j] = bj at hbj
        obtain ⟨g', hg', eb⟩ := prb.get hbj
        rw [List.getElem?_map] at hg'
        cases hc : p.sg.cps.toList[j]? with
        | none => rw [hc] at hg'; cases hg'
        | some c =>
          rw [hc] at hg'
          obtain rfl := Option.some.inj hg'
          have tk : p.sg.cps.toList.take (j + 1) = p.sg.cps.toList.take j ++ [c] := by rw [List.take_add_one, hc]; rfl
          have eLj := sj _ _ eL7
          have ebj := sj _ _ eb
          have stop : (decide (ledL p a c ∈ ls) && decide (ledL p b c ∈ ls)) = false → k none H5 := fun z => k0 _ (Same.refl _) (by rw [hI, tk, List.filterMap_append, show ([c].filterMap fun c => if decide (ledL p a c ∈ ls) && decide (ledL p b c ∈ ls) then some (hv hs (ledL p a c) (ledL p b c)) else none) = [] from by rw [List.filterMap_cons, z]; rfl, List.append_nil])
          refine ⟨rfl, _, rfl, bj, _, _, V.str (ledL p a c), rfl, rfl, SqT.of ebj, atI_nat (j := 0) rfl, _, rfl, L, _, rfl, DGet.k (k := Sum.inr (ledL p a c)) eLj, _, rfl, ?_⟩
          rw [setD_val]
          by_cases m1 : ledL p a c ∈ ls
          rotate_left
          · rw [decide_eq_false m1] at stop ⊢
            exact iteF (stop rfl)
          rw [decide_eq_true m1] at stop ⊢
          refine iteT ⟨_, rfl, bj, _, _, V.str (ledL p b c), rfl, rfl, SqT.of ebj, atI_nat (j := 1) rfl, _, rfl, L, _, rfl, DGet.k (k := Sum.inr (ledL p b c)) eLj, _, rfl, ?_⟩
          rw [setD_val]
          by_cases m2 : ledL p b c ∈ ls
          rotate_left
          · rw [decide_eq_false m2] at stop ⊢
            exact iteF (stop rfl)
          rw [decide_eq_true m2]
          refine iteT ⟨_, rfl, d, rfl, .inr ⟨_, .inl (sj _ _ ed7)⟩, _, rfl, _, DGet.t (k := My.k2 (ledL p a c) (ledL p b c)) (sj _ _ ed7) ebj, ?_⟩
          rw [hs_val, hv_get]
          refine k1 _ _ (Same.refl _) ?_
          rw [hI, tk, List.filterMap_append, List.map_append]
          simp [m1, m2]
      rw [hbl, List.take_length] at hI
      have e8 : H8 D2 = some (.lst ((glsW p ls hs a b).map V.int)) := by rw [hI] at e8; exact e8
      have lg : (glsW p ls hs a b).length ≤ 3 := by
        unfold glsW
        refine Nat.le_trans (List.length_filterMap_le _ _) ?_
        omega
      have s78 := s7.trans s8
      exact ⟨_, _, _, _, _, _, _, _, _, _, _, _, d, W, L, D1, D2, p, hs, ls, a, b, bs, rfl, s8 _ _ ed7, s8 _ _ ew7, s8 _ _ eL7, s8 _ _ e7, prb.same s8, by omega, e8, lg, hge, fun n H' s' => kf (fun z => n ((jud_iff hl).mpr z)) H' (s78.trans s'), fun z y12 H' s' => kt ((jud_iff hl).mp z) _ _ _ H' (s78.trans s')⟩
    have ok := parts_ok pt
    have zm : p.ms.length ≤ 300 := by
      have := ok.mds
      unfold areMoodsL at this
      simp only [Bool.and_eq_true, decide_eq_true_eq] at this
      omega
    have zg : p.gs.length ≤ 300 := by
      have gi := good_in ok
      have := nodup_len gi.1 gi.2
      omega
    refine ⟨_, rfl, t, p, rfl, zt, ot, pt, fun r H1 s1 hA => ?_⟩
    refine ⟨_, rfl, rfl, _, rfl, iteF ?_⟩
    obtain ⟨dn, shn, ibn⟩ := (hN.keep (H' := H1)).sh (K := K)
    refine ⟨_, rfl, nv, dn, 1, 1000, rfl, shn, _, rfl, ?_⟩
    rw [ibn]
    by_cases hn : ∃ n, no = some n ∧ 1 ≤ n ∧ n ≤ 1000
    rotate_left
    · have hz : nuB no 1 1000 = false := by
        cases no with
        | none => rfl
        | some k =>
          show (decide (1 ≤ k) && decide (k ≤ 1000)) = false
          rw [Bool.and_eq_false_iff, decide_eq_false_iff_not, decide_eq_false_iff_not]
          by_cases h1 : 1 ≤ k
          · exact .inr fun h2 => hn ⟨k, rfl, h1, h2⟩
          · exact .inl h1
      rw [hz]
      exact iteT (kk false _ s1 ⟨(fun z => by cases z), fun ⟨n, e, a, b, _⟩ => absurd ⟨n, e, a, b⟩ hn⟩)
    obtain ⟨n, rfl, n0, n1⟩ := hn
    have hz : nuB (some n) 1 1000 = true := by
      show (decide (1 ≤ n) && decide (n ≤ 1000)) = true
      rw [decide_eq_true n0, decide_eq_true n1]
      rfl
    rw [hz]
    refine iteF ?_
    have e3 : nv = .int n := by cases hN; rfl
    subst e3
    refine ⟨_, rfl, r, t, p, rfl, hA, ok, fun L ls H2 s2 nL eL hls => ?_⟩
    have hA2 := hA.same s2
    refine ⟨_, rfl, r, t, p, rfl, hA2, ok, fun lc cs H3 s3 nlc elc clc fewc => ⟨lc, rfl, ⟨_, SqL.of elc⟩, fun Dm hDm => ?_⟩⟩
    have eL3 := s3 _ _ eL
    refine lcR (walk_listL (K := K) (a := lc) cs V.str) (fun i ys _ => ∃ vs : List Str, ys = vs.map V.str ∧ vs.Nodup ∧ ∀ m, m ∈ vs ↔ m ∈ cs.take i ∧ m ∈ ls) (fun _ _ _ _ _ h => h) ⟨[], rfl, .nil, fun m => ⟨(fun z => by cases z), fun z => by rw [List.take_zero] at z; cases z.1⟩⟩ (by omega) hDm (yat_same _) (fun H' s' => SqL.of (s' _ _ elc)) (fun j x ys H4 H5 k hj sj eD hI hy k1 k0 => ?_) (fun ys H8 hl8 s8 e8 hI => ?_)
    · obtain ⟨rfl, hy⟩ := hy
      obtain ⟨vs, rfl, nd, hvs⟩ := hI
      have hm : cs[j]? = some cs[j] := List.getElem?_eq_getElem hj
      obtain rfl := map_get hm hy
      generalize cs[j] = m at hm
      have tk : cs.take (j + 1) = cs.take j ++ [m] := by rw [List.take_add_one, hm]; rfl
      have nm : m ∉ cs.take j := fun z => by
        have ndt : (cs.take (j + 1)).Nodup := clc.1.sublist (List.take_sublist _ _)
        rw [tk, List.nodup_append] at ndt
        exact ndt.2.2 m z m (by simp) rfl
      refine ⟨rfl, _, rfl, _, rfl, L, _, rfl, DGet.k (k := Sum.inr m) (sj _ _ eL3), _, rfl, ?_⟩
      rw [setD_val]
      by_cases hin : m ∈ ls
      · rw [decide_eq_true hin]
        refine iteT ⟨_, rfl, k1 _ _ (Same.refl _) ⟨vs ++ [m], by rw [List.map_append]; rfl, ?_, fun x => ?_⟩⟩
        · rw [List.nodup_append]
          refine ⟨nd, by simp, fun x hx y hy e => ?_⟩
          rw [List.mem_singleton] at hy
          exact nm (hy ▸ e ▸ ((hvs x).mp hx).1)
        · rw [tk, List.mem_append, hvs, List.mem_append, List.mem_singleton]
          constructor
          · rintro (⟨a, b⟩ | rfl)
            · exact ⟨.inl a, b⟩
            · exact ⟨.inr rfl, hin⟩
          · rintro ⟨a | rfl, b⟩
            · exact .inl ⟨a, b⟩
            · exact .inr rfl
      · rw [decide_eq_false hin]
        refine iteF (k0 _ (Same.refl _) ⟨vs, rfl, nd, fun x => ?_⟩)
        rw [tk, hvs, List.mem_append, List.mem_singleton]
        constructor
        · rintro ⟨a, b⟩
          exact ⟨.inl a, b⟩
        · rintro ⟨a | rfl, b⟩
          · exact ⟨a, b⟩
          · exact absurd b hin
    obtain ⟨ws, rfl, ndw, hws⟩ := hI
    rw [List.take_length] at hws
    have cl : LiveL p ws := ⟨ndw, fun m => by
      rw [hws, clc.2, hls]
      exact ⟨fun ⟨a, b, c⟩ => ⟨a, c⟩, fun ⟨a, c⟩ => ⟨a, a.mem ok, c⟩⟩⟩
    have sub : ∀ m ∈ ws, m ∈ p.ms := fun m hm => (((cl.2 m).mp hm).1).mem ok
    have few := nodup_len ndw sub
    have s123 := ((s1.trans s2).trans s3).trans s8
    have eL8 := s8 _ _ eL3
    have hA8 := (hA2.same s3).same s8
    have hP8 := hP.same s123
    clear hA2 hA hDm eL3 eL hls elc nlc nL
    refine ⟨_, rfl, _, rfl, _, _, rfl, rfl, _, rfl, Dm, ws, n - 1, v, o, rfl, e8, by omega, hP8, fun nb H9 s9 => ?_, fun qs eo gq lq d H9 nd s9 ed => ?_⟩
    · refine ⟨_, rfl, rfl, _, rfl, iteT (kk false _ (s123.trans s9) ⟨(fun z => by cases z), fun ⟨n', e, _, _, hh⟩ => ?_⟩)⟩
      obtain rfl := Option.some.inj e
      obtain ⟨hs, h1, h2, _⟩ := (fit_holdsW cl).mpr hh
      exact absurd ⟨hs, h1, h2⟩ nb
    refine ⟨_, rfl, rfl, _, rfl, iteF ?_⟩
    have hA9 := hA8.same s9
    obtain ⟨dx, M, G, D0, e1, em, eg, ed0⟩ := id hA9
    have e8 := s9 _ _ e8
    have eL9 := s9 _ _ eL8
    refine ⟨_, rfl, r, dx, _, rfl, e1, r, dx, _, .ref G, rfl, e1, rfl, G, p.gs, rfl, eg, by omega, fun W H4 s4 w => ?_⟩
    have sA := (s123.trans s9).trans s4
    have e1 := s4 _ _ e1
    have ed0 := s4 _ _ ed0
    have el := s4 _ _ e8
    have ed := s4 _ _ ed
    have eL4 := s4 _ _ eL9
    have bad : ∀ (a b : Str) (H' : Hp), a ∈ ws → b ∈ ws → ¬ StepG p ws qs a b → Same H4 H' → Q (.bl false) H' := fun a b H' ha hb n' s' => kk false H' (sA.trans s') ⟨(fun z => by cases z), fun ⟨n2, e, _, _, hh⟩ => by
      obtain rfl := Option.some.inj e
      exact absurd ((fit_iff eo gq).mp ((fit_holdsW cl).mpr hh) a ha b hb) n'⟩
    have led : ∀ a ∈ ws, ∀ c ∈ p.sg.cps.toList, (ledL p a c ∈ ls ↔ ledL p a c ∈ ws) := fun a ha c hc => by
      rw [hws]
      exact ⟨fun h => ⟨(clc.2 _).mpr (.step ((cl.2 a).mp ha).1 hc), h⟩, fun h => h.2⟩
    refine ⟨_, rfl, Dm, rfl, ⟨_, SqL.of el⟩, ?_⟩
    refine for_it (walk_listL (K := K) (a := Dm) ws V.str) (fun i σ H' => ∃ x8 x9 x10 x11 x12, σ = [some (.str t), some (.int n), some v, some (.ref r), some (.ref L), some (.ref Dm), some (.ref d), some (.ref W), x8, x9, x10, x11, x12, none, none, none, none, none, none] ∧ Same H4 H' ∧ ∀ a ∈ ws.take i, ∀ b ∈ ws, StepG p ws qs a b)
      ⟨none, none, none, none, none, rfl, Same.refl _, fun _ m => by cases m⟩ (fun i σ H' _ h => ?_) (fun i y σ H' H'' hi h hy => ?_) (fun σ H5 h => ?_)
    · obtain ⟨_, _, _, _, _, _, st, _⟩ := h
      exact SqL.of (st _ _ el)
    · obtain ⟨rfl, hy⟩ := hy
      obtain ⟨x8, x9, x10, x11, x12, rfl, st, hall⟩ := h
      have ha : ws[i]? = some ws[i] := List.getElem?_eq_getElem hi
      obtain rfl := map_get ha hy
      generalize ws[i] = a at ha
      have ham := List.mem_of_getElem? ha
      refine ⟨_, rfl, Dm, rfl, ⟨_, SqL.of (st _ _ el)⟩, ?_⟩
      refine for_it (walk_listL (K := K) (a := Dm) ws V.str) (fun j σ H' => ∃ x9 x10 x11 x12, σ = [some (.str t), some (.int n), some v, some (.ref r), some (.ref L), some (.ref Dm), some (.ref d), some (.ref W), some (.str a), x9, x10, x11, x12, none, none, none, none, none, none] ∧ Same H4 H' ∧ ∀ b ∈ ws.take j, StepG p ws qs a b)
        ⟨x9, x10, x11, x12, rfl, st, fun _ m => by cases m⟩ (fun i σ H' _ h => ?_) (fun j y σ H6 H7 hj h hy => ?_) (fun σ H5 h => ?_)
      · obtain ⟨_, _, _, _, _, st, _⟩ := h
        exact SqL.of (st _ _ el)
      · obtain ⟨rfl, hy⟩ := hy
        obtain ⟨x9, x10, x11, x12, rfl, st, hb⟩ := h
        have hbj : ws[j]? = some ws[j] := List.getElem?_eq_getElem hj
        obtain rfl := map_get hbj hy
        generalize ws[j] = b at hbj
        have hbm := List.mem_of_getElem? hbj
        refine ⟨_, _, _, _, _, _, _, _, _, _, _, _, _, r, d, W, L, dx, M, G, D0, t, p, qs, ls, ws, a, b, rfl, st _ _ e1, st _ _ ed0, st _ _ ed, st _ _ w, st _ _ eL4, ok, sub a ham, sub b hbm, fun c hc => ⟨led a ham c hc, led b hbm c hc⟩, gq.ge a b, fun nz H' s' => bad a b H' ham hbm nz (st.trans s'), fun z y10 y11 y12 H' s' => ⟨_, _, _, _, rfl, st.trans s', fun b' m => ?_⟩⟩
        rw [List.take_add_one, hbj] at m
        rcases List.mem_append.mp m with m | m
        · exact hb b' m
        · obtain rfl : b' = b := by simpa using m
          exact z
      · obtain ⟨x9, x10, x11, x12, rfl, st, hb⟩ := h
        rw [List.take_length] at hb
        refine ⟨_, _, _, _, _, rfl, st, fun a' m => ?_⟩
        rw [List.take_add_one, ha] at m
        rcases List.mem_append.mp m with m | m
        · exact hall a' m
        · obtain rfl : a' = a := by simpa using m
          exact hb
    · obtain ⟨x8, x9, x10, x11, x12, rfl, st, hall⟩ := h
      rw [List.take_length] at hall
      exact kk true _ (sA.trans st) ⟨fun _ => ⟨n, rfl, n0, n1, (fit_holdsW cl).mp ((fit_iff eo gq).mpr hall)⟩, fun _ => rfl⟩
end
end My
namespace My
open PySem PySem.Spec PyProof.Rows L2 PySem.GX L2H LamX
def spAccV (C : Addr) : Sp := fun vs H Q _ => ∃ (c : Addr) (t : Str) (p : Parts) (nv v : V) (no : Option Int) (o : Option (List Itt)), vs = [.ref c, v] ∧ H c = some (.tup [.str "windows", .str t, nv]) ∧ t.length ≤ 1000000 ∧ PyData.strOk t = true ∧ parseL t = some p ∧ NuAt H nv no ∧ PapH H v o ∧
  ∀ (b : Bool) (H' : Hp), Same H H' → (b = true ↔ ∃ n, no = some n ∧ 1 ≤ n ∧ n ≤ 1000 ∧ HoldsW p n o) → Q (.bl b) H'
section
variable {P : Program} {w : World} {K : PySem.W.Frag} {mg : Str → Option Value} {base : Heap}
abbrev nAccV : List Str := ["claim", "paper", "check"]
theorem scAccV : FnScope nAccV ["claim", "paper"] (defScope sAccepts) := ⟨rfl, rfl, rfl, by decide +kernel, rfl, by decide +kernel, by decide +kernel⟩
theorem ok_accV {f C aC fN : Addr} {fd fdN : FuncData} {es : Array DictEntry} {n : Nat} (F : Fun K "accepts" "accepts" sAccepts f fd) (D : KDict K w aC es n) (gC : mg "CLAIMS" = some (.ref aC)) (eC : PySem.W.nsIn K aC "windows" = some (some (.ref fN)))
    (GN : FnOk P w K mg base CX0 8 fN fdN ["text", "number", "paper"] (spWindows C)) (kN : PySem.W.keepIn K (.ref fN) = true) (bN : Binds K fdN ["text", "number", "paper"] [])
    (hIs : mg "isinstance" = none) (hSt : mg "str" = none) (hTu : mg "tuple" = none) (hL : mg "len" = none) : FnOk P w K mg base CX0 9 f fd ["claim", "paper"] (spAccV C) := by
  refine F.ok scAccV (fun vs H Q E h => ?_) (fun cdv A outer s H vs Q E hr h => ?_)
  · obtain ⟨c, t, p, nv, v, no, o, rfl, _⟩ := h
    rfl
  · obtain ⟨c, t, p, nv, v, no, o, rfl, ec, rest⟩ := h
    refine ⟨_, pss_cons (ps_if (pt_not (PW.pt (pw_and (pt_val (pe_callB call_isi (by rfl) hIs (by decide +kernel) (pa_cons (pv 0) (pa_cons (pe_bltn (v := .ty "tuple") (by rfl) hTu (by decide +kernel) rfl) pa_nil)))) (pw_and (pt_cmpR op_eq (pe_callB call_len_seq (by rfl) hL PySem.boot_len (pa_cons (pv 0) pa_nil)) pe_int (nomark _)) (pw_and (pt_val (pe_callB call_isi (by rfl) hIs (by decide +kernel) (pa_cons (pe_ix ix_tup (pv 0) pe_int (fun _ _ => rfl)) (pa_cons (pe_bltn (v := .ty "str") (by rfl) hSt (by decide +kernel) rfl) pa_nil)))) (pw_and1 (pt_cmpR (op_in_kd D) (pe_ix ix_tup (pv 0) pe_int (fun _ _ => rfl)) (pe_glob (v := .ref aC) rfl gC rfl) (by rfl)))))))) (pss_one (ps_ret pe_bl)) pss_nil)
      (pss_cons (ps_set (i := 2) scAccV.nd rfl (Or.inl rfl) (pe_ix ix_kdict (pe_glob (v := .ref aC) rfl gC rfl) (pe_ix ix_tup (pv 0) pe_int (fun _ _ => rfl)) (fun _ _ => rfl)))
      (pss_one (ps_ret (pe_callL (i := 2) GN hr rfl (.inl rfl) kN bN .nil pass0 (pa_cons (pe_ix ix_tup (pv 0) pe_int (fun _ _ => rfl)) (pa_cons (pe_ix ix_tup (pv 0) pe_int (fun _ _ => rfl)) (pa_cons (pv 1) pa_nil))))))), ?_⟩
    refine ⟨_, rfl, .ref c, .ty "tuple", _, .type "tuple", true, rfl, .ty _, .base (.tup ec), kit_ty (by decide +kernel), _, rfl, iteT ?_⟩
    refine ⟨_, rfl, c, _, rfl, .inr (SqT.of ec), rfl, _, rfl, iteT ?_⟩
    refine ⟨_, rfl, c, _, _, V.str "windows", rfl, rfl, SqT.of ec, atI_nat (j := 0) rfl, .str "windows", .ty "str", _, .type "str", true, rfl, .ty _, .base (.str "windows"), kit_ty (by decide +kernel), _, rfl, iteT ?_⟩
    refine ⟨_, rfl, c, _, _, V.str "windows", rfl, rfl, SqT.of ec, atI_nat (j := 0) rfl, "windows", some (.ref fN), rfl, rfl, eC, _, rfl, iteF ?_⟩
    refine ⟨_, rfl, c, _, _, V.str "windows", rfl, rfl, SqT.of ec, atI_nat (j := 0) rfl, aC, "windows", .ref fN, rfl, rfl, ⟨es, n, .ref fN, D.at_, D.lit, eC, rfl⟩, ?_⟩
    exact ⟨rfl, _, rfl, c, _, _, V.str t, rfl, rfl, SqT.of ec, atI_nat (j := 1) rfl, _, rfl, c, _, _, nv, rfl, rfl, SqT.of ec, atI_nat (j := 2) rfl, _, rfl, t, p, nv, v, no, o, rfl, rest⟩
end
end My
namespace My
open PySem PySem.Spec PyProof.Rows L2 PySem.GX L2H LamX
theorem walk_app (p : Parts) (t : Str) (a b : List Nat) : walkL p t (a ++ b) = walkL p (walkL p t a) b := by
  unfold walkL
  rw [List.foldl_append]
theorem walk_cons (p : Parts) (t : Str) (c : Nat) (b : List Nat) : walkL p t (c :: b) = walkL p (ledL p t c) b := rfl
theorem sg_mark {p : Parts} (ok : PartsOk p) {c : Nat} (h : c ∈ p.sg.cps.toList) : c ≠ 60 ∧ c ≠ 62 := by
  have := ok.sgs
  rw [areS1] at this
  simp only [Bool.and_eq_true, decide_eq_true_eq] at this
  have m := this.1.2
  unfold madeL at m
  have m := List.all_eq_true.mp m _ (List.mem_map.mpr ⟨c, h, rfl⟩)
  have m : c ∈ abc.cps.toList := of_decide_eq_true m
  have all : ∀ c ∈ abc.cps.toList, c ≠ 60 ∧ c ≠ 62 := by decide +kernel
  exact all c m
theorem come_walk {p : Parts} {m : Str} (h : Come p m) : ∀ cs : List Nat, (∀ c ∈ cs, c ∈ p.sg.cps.toList) → Come p (walkL p m cs)
  | [], _ => h
  | c :: cs, hc => come_walk (p := p) (h.step (hc c (by simp))) cs fun d hd => hc d (by simp [hd])
theorem lv_walk {p : Parts} {m : Str} : ∀ cs : List Nat, (∀ c ∈ cs, c ∈ p.sg.cps.toList) → walkL p m cs ∈ p.gs → Lv p m
  | [], _, h => ⟨m, .first, h⟩
  | c :: cs, hc, h => (lv_walk (p := p) (m := ledL p m c) cs (fun d hd => hc d (by simp [hd])) h).back (hc c (by simp))
/-! within -/
theorem within_sound {p1 p2 : Parts} {o : Option (List Itm)} (h : Holds p1 p2 o) (xs : List Nat) (hx : ∀ c ∈ xs, c ∈ p1.sg.cps.toList) (hg : walkL p1 (firstL p1) xs ∈ p1.gs) : walkL p2 (firstL p2) xs ∈ p2.gs := by
  obtain ⟨_, ps, _, _, good, closed, first⟩ := h
  have go : ∀ (cs : List Nat) (a b : Str), (a, b) ∈ ps → (∀ c ∈ cs, c ∈ p1.sg.cps.toList) → (walkL p1 a cs, walkL p2 b cs) ∈ ps := by
    intro cs
    induction cs with
    | nil => exact fun _ _ h _ => h
    | cons c cs ih => exact fun a b h hc => ih _ _ (closed (a, b) h c (hc c (by simp))) fun d hd => hc d (by simp [hd])
  exact good _ (go xs _ _ first hx) hg
/-! last -/
theorem last_sound {p : Parts} {n : Nat} {o : Option (List Itt)} (h : HoldsH p (n : Int) o) {a b : Str} (ha : Come p a) (hb : Come p b) (cs : List Nat) (hc : ∀ c ∈ cs, c ∈ p.sg.cps.toList) (hn : n ≤ cs.length) : walkL p a cs ∈ p.gs ↔ walkL p b cs ∈ p.gs := by
  obtain ⟨hs, _, nd, inn, st⟩ := h
  have ge : ∀ a b, hv hs a b = 0 ∨ (hv hs a b > 0 ∧ hv hs a b ≤ n) := fun a b => by
    unfold hv hgt
    cases e : hs.find? fun z => decide (z.1 = (a, b)) with
    | none => exact .inl rfl
    | some z =>
      obtain ⟨_, _, h1, h2⟩ := inn z (List.mem_of_find?_eq_some e)
      exact .inr ⟨by show z.2 > 0; omega, h2⟩
  have zero : ∀ (cs : List Nat) (a b : Str), Come p a → Come p b → (∀ c ∈ cs, c ∈ p.sg.cps.toList) → hv hs a b = 0 → (walkL p a cs ∈ p.gs ↔ walkL p b cs ∈ p.gs) := by
    intro cs
    induction cs with
    | nil => exact fun a b ha hb _ z => ((st a b ha hb).1 z).1
    | cons c cs ih =>
      intro a b ha hb hc z
      have hcc := hc c (by simp)
      refine ih _ _ (ha.step hcc) (hb.step hcc) (fun d hd => hc d (by simp [hd])) ?_
      rcases ge (ledL p a c) (ledL p b c) with e | e
      · exact e
      · exact absurd e.1 (((st a b ha hb).1 z).2 c hcc)
  have gen : ∀ (cs : List Nat) (a b : Str), Come p a → Come p b → (∀ c ∈ cs, c ∈ p.sg.cps.toList) → hv hs a b ≤ cs.length → (walkL p a cs ∈ p.gs ↔ walkL p b cs ∈ p.gs) := by
    intro cs
    induction cs with
    | nil =>
      intro a b ha hb hc z
      rcases ge a b with e | e
      · exact zero [] a b ha hb hc e
      · exact absurd e.1 (by simp at z; omega)
    | cons c cs ih =>
      intro a b ha hb hc z
      have hcc := hc c (by simp)
      rcases ge a b with e | e
      · exact zero _ a b ha hb hc e
      · refine ih _ _ (ha.step hcc) (hb.step hcc) (fun d hd => hc d (by simp [hd])) ?_
        have := (st a b ha hb).2 e.1 c hcc
        rw [List.length_cons] at z
        omega
  refine gen cs a b ha hb hc ?_
  rcases ge a b with e | e
  · omega
  · have := e.2
    omega
/-! windows -/
def mkC (xs : List Nat) : List Nat := 62 :: (xs ++ [60])
def pcC (n : Nat) (l : List Nat) : List (List Nat) := if l.length < n then [l] else (List.range (l.length - n + 1)).map fun i => (l.drop i).take n
theorem mk_len (xs : List Nat) : (mkC xs).length = xs.length + 2 := by
  unfold mkC
  rw [List.length_cons, List.length_append]
  rfl
theorem pc_mem {n : Nat} {l w : List Nat} (h : n ≤ l.length) : w ∈ pcC n l ↔ ∃ pre post, l = pre ++ (w ++ post) ∧ w.length = n := by
  unfold pcC
  rw [if_neg (by omega), List.mem_map]
  constructor
  · rintro ⟨i, hi, rfl⟩
    have hi := List.mem_range.mp hi
    refine ⟨l.take i, (l.drop i).drop n, ?_, ?_⟩
    · rw [List.take_append_drop, List.take_append_drop]
    · rw [List.length_take, List.length_drop]
      omega
  · rintro ⟨pre, post, rfl, hw⟩
    refine ⟨pre.length, List.mem_range.mpr ?_, ?_⟩
    · rw [List.length_append, List.length_append] at h ⊢
      omega
    · rw [List.drop_append_of_le_length (Nat.le_refl _), List.drop_length, List.nil_append, List.take_append_of_le_length (by omega), ← hw, List.take_length]
theorem snoc_split {xs a b : List Nat} (h : xs ++ [60] = a ++ b) (hx : ∀ a', a ≠ a' ++ [60]) : ∃ b', b = b' ++ [60] ∧ xs = a ++ b' := by
  by_cases e : b = []
  · subst e
    rw [List.append_nil] at h
    exact absurd h.symm (hx xs)
  · obtain ⟨b', z, rfl⟩ : ∃ b' z, b = b' ++ [z] := ⟨b.dropLast, b.getLast e, (List.dropLast_concat_getLast e).symm⟩
    rw [← List.append_assoc] at h
    obtain ⟨h1, h2⟩ := List.append_inj' h rfl
    injection h2 with h2 _
    exact ⟨b', by rw [h2], h1⟩
theorem only_end : ∀ {ys u v : List Nat}, (60 : Nat) ∉ ys → ys ++ [60] = u ++ 60 :: v → u = ys ∧ v = []
  | [], [], v, _, h => by
    injection h with _ h
    exact ⟨rfl, h.symm⟩
  | [], c :: u, v, _, h => by
    have := congrArg List.length h
    simp at this
  | y :: ys, [], v, n, h => by
    injection h with h _
    exact absurd (by rw [h]; simp) n
  | y :: ys, c :: u, v, n, h => by
    injection h with h1 h2
    obtain ⟨a, b⟩ := only_end (fun z => n (by simp [z])) h2
    exact ⟨by rw [h1, a], b⟩
/-- where a piece stands in a row with its marks: not at the beginning -/
theorem mid_split {ys w pre post : List Nat} (h : mkC ys = pre ++ (w ++ post)) (hw : w ≠ []) (hn : ∀ c, w.head? = some c → c ≠ 62) : ∃ pre', ys ++ [60] = pre' ++ (w ++ post) := by
  cases pre with
  | nil =>
    cases w with
    | nil => exact absurd rfl hw
    | cons c w =>
      unfold mkC at h
      injection h with h1 h2
      exact absurd h1.symm (hn c rfl)
  | cons c pre =>
    unfold mkC at h
    injection h with h1 h2
    exact ⟨pre, h2⟩
theorem GoodH.upto {ws : List Str} {most : Int} {hs : List Hgt} (g : GoodH ws most hs) (a b : Str) : hv hs a b = 0 ∨ hv hs a b ≤ most := by
  unfold hv hgt
  cases e : hs.find? fun z => decide (z.1 = (a, b)) with
  | none => exact .inl rfl
  | some z => exact .inr (g.inn z (List.mem_of_find?_eq_some e)).2.2.2
theorem slide {p : Parts} {ws : List Str} {most : Int} {hs : List Hgt} (g : GoodH ws most hs) (st : ∀ a ∈ ws, ∀ b ∈ ws, StepG p ws hs a b) : ∀ (cs : List Nat) (a b : Str), (∀ c ∈ cs, c ∈ p.sg.cps.toList) → (∀ k, k ≤ cs.length → walkL p a (cs.take k) ∈ ws ∧ walkL p b (cs.take k) ∈ ws) → hv hs a b ≤ cs.length → hv hs (walkL p a cs) (walkL p b cs) = 0
  | [], a, b, _, _, h => by
    rcases g.ge a b with e | e
    · exact e
    · exact absurd e (by simp at h; omega)
  | c :: cs, a, b, hc, hw, h => by
    have h0 := hw 0 (Nat.zero_le _)
    have h1 := hw 1 (by rw [List.length_cons]; omega)
    have hcc := hc c (by simp)
    refine slide g st cs (ledL p a c) (ledL p b c) (fun d hd => hc d (by simp [hd])) (fun k hk => ?_) ?_
    · have := hw (k + 1) (by rw [List.length_cons]; omega)
      exact this
    · have s := st a h0.1 b h0.2
      rw [List.length_cons] at h
      rcases g.ge a b with e | e
      · have := ((s.1 e).2 c hcc).2 h1.1
        rcases g.ge (ledL p a c) (ledL p b c) with e2 | e2
        · omega
        · exact absurd e2 this
      · have := s.2 e c hcc h1.1 h1.2
        omega
theorem win_sound {p : Parts} {ws : List Str} {n : Nat} {o : Option (List Itt)} (ok : PartsOk p) (cl : LiveL p ws) (h1 : 1 ≤ n) (hF : FitG p ws ((n : Int) - 1) o) (xs : List Nat) (hx : ∀ c ∈ xs, c ∈ p.sg.cps.toList)
    (hp : ∀ w ∈ pcC n (mkC xs), ∃ ys, (∀ c ∈ ys, c ∈ p.sg.cps.toList) ∧ walkL p (firstL p) ys ∈ p.gs ∧ w ∈ pcC n (mkC ys)) : walkL p (firstL p) xs ∈ p.gs := by
  obtain ⟨hs, _, g, st⟩ := hF
  have lowS : ∀ {zs : List Nat}, (∀ c ∈ zs, c ∈ p.sg.cps.toList) → ∀ c ∈ zs, c ≠ 60 ∧ c ≠ 62 := fun h c hc => sg_mark ok (h c hc)
  have live : ∀ ys, (∀ c ∈ ys, c ∈ p.sg.cps.toList) → walkL p (firstL p) ys ∈ p.gs → ∀ a b, ys = a ++ b → walkL p (firstL p) a ∈ ws := fun ys hy hg a b e => by
    subst e
    rw [cl.2]
    refine ⟨come_walk .first a fun c hc => hy c (by simp [hc]), lv_walk b (fun c hc => hy c (by simp [hc])) ?_⟩
    rw [← walk_app]
    exact hg
  by_cases hl : (mkC xs).length < n
  · obtain ⟨ys, hy, hg, hm⟩ := hp (mkC xs) (by unfold pcC; rw [if_pos hl]; simp)
    unfold pcC at hm
    by_cases hl2 : (mkC ys).length < n
    · rw [if_pos hl2, List.mem_singleton] at hm
      unfold mkC at hm
      injection hm with _ hm
      obtain ⟨e, _⟩ := List.append_inj' hm rfl
      rw [e]
      exact hg
    · rw [if_neg hl2] at hm
      obtain ⟨i, hi, e⟩ := List.mem_map.mp hm
      have hi := List.mem_range.mp hi
      have := congrArg List.length e
      rw [List.length_take, List.length_drop] at this
      omega
  have hln : n ≤ (mkC xs).length := by omega
  have hln2 := hln
  rw [mk_len] at hln2
  -- a piece comes from a good row
  have from_ : ∀ pre w post, mkC xs = pre ++ (w ++ post) → w.length = n → ∃ ys, (∀ c ∈ ys, c ∈ p.sg.cps.toList) ∧ walkL p (firstL p) ys ∈ p.gs ∧ ∃ pre' post', mkC ys = pre' ++ (w ++ post') := fun pre w post e hw => by
    obtain ⟨ys, hy, hg, hm⟩ := hp w ((pc_mem hln).mpr ⟨pre, post, e, hw⟩)
    by_cases hl2 : (mkC ys).length < n
    · unfold pcC at hm
      rw [if_pos hl2, List.mem_singleton] at hm
      rw [hm] at hw
      omega
    · obtain ⟨a, b, e2, _⟩ := (pc_mem (by omega)).mp hm
      exact ⟨ys, hy, hg, a, b, e2⟩
  have all : ∀ k, k ≤ xs.length → walkL p (firstL p) (xs.take k) ∈ ws := by
    intro k
    induction k using Nat.strongRecOn with
    | _ k ih =>
      intro hk
      by_cases hkn : k < n
      · -- the first piece
        obtain ⟨ys, hy, hg, pre, post, e⟩ := from_ [] ((mkC xs).take n) ((mkC xs).drop n) (by rw [List.nil_append, List.take_append_drop]) (by rw [List.length_take]; omega)
        have hpre : pre = [] := by
          cases pre with
          | nil => rfl
          | cons c pre =>
            unfold mkC at e
            injection e with _ e
            have m : 62 ∈ ys ++ [60] := by
              rw [e]
              refine List.mem_append_right _ (List.mem_append_left _ ?_)
              obtain ⟨n', rfl⟩ : ∃ n', n = n' + 1 := ⟨n - 1, by omega⟩
              rw [List.take_succ_cons]
              simp
            rcases List.mem_append.mp m with m | m
            · exact absurd rfl (lowS hy 62 m).2
            · simp at m
        subst hpre
        rw [List.nil_append] at e
        obtain ⟨n', rfl⟩ : ∃ n', n = n' + 1 := ⟨n - 1, by omega⟩
        unfold mkC at e
        rw [List.take_succ_cons, List.cons_append] at e
        injection e with _ e
        have e2 : (xs ++ [60]).take n' = xs.take k ++ ((xs ++ [60]).take n').drop k := by
          have h3 : xs.take k = ((xs ++ [60]).take n').take k := by
            rw [List.take_take, Nat.min_eq_left (by omega), List.take_append_of_le_length hk]
          rw [h3, List.take_append_drop]
        rw [e2, List.append_assoc] at e
        obtain ⟨b', _, ey⟩ := snoc_split e fun a' z => (lowS hx 60 (List.mem_of_mem_take (i := k) (by rw [z]; simp))).1 rfl
        exact live ys hy hg _ _ ey
      · -- a piece that ends with the sign at k
        have hkn : n ≤ k := by omega
        obtain ⟨k', rfl⟩ : ∃ k', k = k' + 1 := ⟨k - 1, by omega⟩
        have hk1 : k' < xs.length := by omega
        generalize hs' : (xs.take k').drop (k' + 1 - n) = s
        have hc : xs[k']? = some xs[k'] := List.getElem?_eq_getElem hk1
        generalize xs[k'] = c at hc
        have etk : xs.take (k' + 1) = xs.take k' ++ [c] := by rw [List.take_add_one, hc]; rfl
        have es : xs.take k' = xs.take (k' + 1 - n) ++ s := by
          have h3 : xs.take (k' + 1 - n) = (xs.take k').take (k' + 1 - n) := by rw [List.take_take, Nat.min_eq_left (by omega)]
          rw [← hs', h3, List.take_append_drop]
        have ls : s.length + 1 = n := by
          rw [← hs', List.length_drop, List.length_take]
          omega
        have hsx : ∀ d ∈ s, d ∈ xs := fun d hd => List.mem_of_mem_take (i := k') (by rw [es]; exact List.mem_append_right _ hd)
        have hcx : c ∈ xs := List.mem_of_getElem? hc
        obtain ⟨ys, hy, hg, pre, post, e⟩ := from_ (62 :: xs.take (k' + 1 - n)) (s ++ [c]) (xs.drop (k' + 1) ++ [60]) (by
          unfold mkC
          have : xs = xs.take (k' + 1 - n) ++ (s ++ [c]) ++ xs.drop (k' + 1) := by
            rw [← List.append_assoc, ← es, ← etk, List.take_append_drop]
          conv => lhs; rw [this]
          simp only [List.cons_append, List.append_assoc]) (by rw [List.length_append]; exact ls)
        obtain ⟨pre', e⟩ := mid_split e (by simp) (fun d hd => by
          have : d ∈ s ++ [c] := List.mem_of_mem_head? (by rw [hd]; rfl)
          rcases List.mem_append.mp this with m | m
          · exact (lowS hx d (hsx d m)).2
          · rw [List.mem_singleton] at m
            rw [m]
            exact (lowS hx c hcx).2)
        have hc60 := (lowS hx c hcx).1
        obtain ⟨post', _, ey⟩ := snoc_split (a := pre' ++ (s ++ [c])) (b := post) (by rw [e]; simp only [List.append_assoc]) (fun a' z => by
          rw [← List.append_assoc] at z
          obtain ⟨_, z2⟩ := List.append_inj' z rfl
          injection z2 with z2 _
          exact hc60 z2)
        have lv1 : ∀ t, t ≤ s.length → walkL p (walkL p (firstL p) (xs.take (k' + 1 - n))) (s.take t) ∈ ws := fun t ht => by
          rw [← walk_app]
          have e3 : xs.take (k' + 1 - n) ++ s.take t = xs.take (k' + 1 - n + t) := by
            rw [← hs', List.drop_take, List.take_take, Nat.min_eq_left (by omega), ← List.take_add]
          rw [e3]
          exact ih (k' + 1 - n + t) (by omega) (by omega)
        have lv2 : ∀ t, t ≤ s.length → walkL p (walkL p (firstL p) pre') (s.take t) ∈ ws := fun t ht => by
          rw [← walk_app]
          refine live ys hy hg (pre' ++ s.take t) (s.drop t ++ [c] ++ post') ?_
          rw [ey, show pre' ++ s.take t ++ (s.drop t ++ [c] ++ post') = pre' ++ ((s.take t ++ s.drop t) ++ [c]) ++ post' by simp only [List.append_assoc], List.take_append_drop]
        have h0a := lv1 0 (Nat.zero_le _)
        have h0b := lv2 0 (Nat.zero_le _)
        rw [List.take_zero] at h0a h0b
        have hle := g.upto (walkL p (firstL p) (xs.take (k' + 1 - n))) (walkL p (firstL p) pre')
        have hsl := slide g st s _ _ (fun d hd => hx d (hsx d hd)) (fun t ht => ⟨lv1 t ht, lv2 t ht⟩) (by omega)
        have ha := lv1 s.length (Nat.le_refl _)
        have hb := lv2 s.length (Nat.le_refl _)
        rw [List.take_length] at ha hb
        have hst := ((st _ ha _ hb).1 hsl).2 c (hx c hcx)
        have hnext : ledL p (walkL p (walkL p (firstL p) pre') s) c ∈ ws := by
          have := live ys hy hg (pre' ++ s ++ [c]) post' (by rw [ey]; simp only [List.append_assoc])
          rw [walk_app, walk_app] at this
          exact this
        have := hst.1.mpr hnext
        rw [etk, es, walk_app, walk_app]
        exact this
  -- the last piece
  by_cases hz : n = xs.length + 2
  · obtain ⟨ys, hy, hg, pre, post, e⟩ := from_ [] (mkC xs) [] (by simp) (by rw [mk_len]; omega)
    have hpre : pre = [] := by
      cases pre with
      | nil => rfl
      | cons c pre =>
        unfold mkC at e
        injection e with _ e
        have m : 62 ∈ ys ++ [60] := by rw [e]; simp
        rcases List.mem_append.mp m with m | m
        · exact absurd rfl (lowS hy 62 m).2
        · simp at m
    subst hpre
    unfold mkC at e
    rw [List.nil_append, List.cons_append] at e
    injection e with _ e
    obtain ⟨e2, _⟩ := only_end (u := xs) (v := post) (fun z => (lowS hy 60 z).1 rfl) (by rw [e, List.append_assoc]; rfl)
    rw [e2]
    exact hg
  · generalize hs' : xs.drop (xs.length + 1 - n) = s
    have es : xs = xs.take (xs.length + 1 - n) ++ s := by rw [← hs', List.take_append_drop]
    have ls : s.length + 1 = n := by
      rw [← hs', List.length_drop]
      omega
    have hsx : ∀ d ∈ s, d ∈ xs := fun d hd => by rw [es]; exact List.mem_append_right _ hd
    obtain ⟨ys, hy, hg, pre, post, e⟩ := from_ (62 :: xs.take (xs.length + 1 - n)) (s ++ [60]) [] (by
      unfold mkC
      conv => lhs; rw [es]
      simp only [List.cons_append, List.append_assoc, List.append_nil]) (by rw [List.length_append]; exact ls)
    obtain ⟨pre', e⟩ := mid_split e (by simp) (fun d hd => by
      have : d ∈ s ++ [60] := List.mem_of_mem_head? (by rw [hd]; rfl)
      rcases List.mem_append.mp this with m | m
      · exact (lowS hx d (hsx d m)).2
      · rw [List.mem_singleton] at m
        rw [m]
        decide)
    obtain ⟨ey, _⟩ := only_end (u := pre' ++ s) (v := post) (fun z => (lowS hy 60 z).1 rfl) (by rw [e]; simp only [List.append_assoc, List.cons_append, List.nil_append])
    have lv1 : ∀ t, t ≤ s.length → walkL p (walkL p (firstL p) (xs.take (xs.length + 1 - n))) (s.take t) ∈ ws := fun t ht => by
      rw [← walk_app]
      have e3 : xs.take (xs.length + 1 - n) ++ s.take t = xs.take (xs.length + 1 - n + t) := by
        rw [← hs', ← List.take_add]
      rw [e3]
      exact all (xs.length + 1 - n + t) (by omega)
    have lv2 : ∀ t, t ≤ s.length → walkL p (walkL p (firstL p) pre') (s.take t) ∈ ws := fun t ht => by
      rw [← walk_app]
      refine live ys hy hg (pre' ++ s.take t) (s.drop t) ?_
      rw [← ey, List.append_assoc, List.take_append_drop]
    have h0a := lv1 0 (Nat.zero_le _)
    have h0b := lv2 0 (Nat.zero_le _)
    rw [List.take_zero] at h0a h0b
    have hle := g.upto (walkL p (firstL p) (xs.take (xs.length + 1 - n))) (walkL p (firstL p) pre')
    have hsl := slide g st s _ _ (fun d hd => hx d (hsx d hd)) (fun t ht => ⟨lv1 t ht, lv2 t ht⟩) (by omega)
    have ha := lv1 s.length (Nat.le_refl _)
    have hb := lv2 s.length (Nat.le_refl _)
    rw [List.take_length] at ha hb
    have hst := ((st _ ha _ hb).1 hsl).1
    rw [es, walk_app]
    refine hst.mpr ?_
    rw [← walk_app, ey]
    exact hg
end My
namespace My
open PySem PySem.Spec PyProof.Rows L2 PySem.GX L2H LamX
section
variable {P : Program} {w : World} {K : PySem.W.Frag} {mg : Str → Option Value} {base : Heap}
abbrev nEndB : List Str := ["_law_box_here", "_law_begin", "_law_line", "_law_here", "_law_letter"]
theorem scEndB : FnScope nEndB ["_law_box_here", "_law_begin", "_law_line"] (defScope sEnd) := ⟨rfl, rfl, rfl, by decide +kernel, rfl, by decide +kernel, by decide +kernel⟩
theorem ok_endB {f : Addr} {fd : FuncData} (F : Fun K "_law_end" "_law_end" sEnd f fd) : FnOk P w K mg base CX0 1 f fd ["_law_box_here", "_law_begin", "_law_line"] spEndB := by
  refine F.ok scEndB (fun vs H Q E h => ?_) (fun cdv A outer s H vs Q E hr h => ?_)
  · obtain ⟨q, p, ws, t, r, rfl, _⟩ := h
    rfl
  · obtain ⟨q, p, ws, t, r, rfl, ⟨lw, lf, g, kvs, eq, ew, ef, eg, cv⟩, ok, ht, hin, k⟩ := h
    refine ⟨_, pss_cons (ps_set (i := 3) scEndB.nd rfl (Or.inl rfl) (pv 1))
      (pss_cons (ps_for PassesOwn.never rfl (pi_str (pv 2)) (pg_name (i := 4) scEndB.nd rfl (Or.inl rfl)) (pss_one (ps_set (i := 3) scEndB.nd rfl (Or.inl rfl) (pe_dget (hu_of hr) (pe_ix ix_tup (pv 0) pe_int (fun _ _ => rfl)) (pe_tup (pa_cons (pv 3) (pa_cons (pv 4) pa_nil))) (fun _ _ => rfl)))))
      (pss_one (ps_ret (pv 3)))), ?_⟩
    refine ⟨_, rfl, _, rfl, r, rfl, ?_⟩
    refine for_it walk_str (fun i σ H' => ∃ v4, σ = [some (.ref q), some (.str t), some (.str r), some (.str (walkL p t (r.cps.toList.take i))), v4] ∧ Same H H') ⟨none, rfl, Same.refl _⟩ (fun _ _ _ _ _ => trivial) (fun i y σ H2 H3 hi h hy => ?_) (fun σ H2 h => ?_)
    · obtain ⟨rfl, c, hc, rfl⟩ := hy
      obtain ⟨v4, rfl, s2⟩ := h
      have hc' : r.cps.toList[i]? = some c := by rw [Array.getElem?_toList]; exact hc
      have hm := walk_mem ok (r.cps.toList.take i) t ht fun d hd => hin d (List.mem_of_mem_take hd)
      have hg := cv _ hm c (hin c (List.mem_of_getElem? hc'))
      refine ⟨_, rfl, q, _, _, V.ref g, rfl, rfl, SqT.of (s2 _ _ eq), atI_nat (j := 3) rfl, _, rfl, _, rfl, (by show 2 ≤ sizeLine; decide), fun t' ht' => ⟨g, .str (ledL p (walkL p t (r.cps.toList.take i)) c), rfl, ?_, ?_⟩⟩
      · have := DGet.t (k := kT (walkL p t (r.cps.toList.take i)) c) (keep1 (s2 _ _ eg) ht') (upd_same (o := .tup ((kT (walkL p t (r.cps.toList.take i)) c).map kV)))
        rw [hg] at this
        exact this
      · refine ⟨some (.str (sg c)), ?_, s2.trans (same_new ht')⟩
        rw [List.take_add_one, hc']
        show _ = [_, _, _, some (V.str (walkL p t (r.cps.toList.take i ++ [c]))), _]
        unfold walkL
        rw [List.foldl_append]
        rfl
    · obtain ⟨v4, rfl, s2⟩ := h
      refine ⟨_, rfl, ?_⟩
      have : r.cps.toList.take r.cps.size = r.cps.toList := by rw [← Array.length_toList, List.take_length]
      rw [this]
      exact k _ s2
end
end My
namespace My
open PySem PySem.Spec PyProof.Rows L2 PySem.GX L2H LamX
theorem BxAt.same {H H' : Hp} {q : Addr} {x : Str} {ws fs : List Str} {kvs : List (List Key × V)} (h : BxAt H q x ws fs kvs) (s : Same H H') : BxAt H' q x ws fs kvs := by
  obtain ⟨lw, lf, g, a, b, c, d⟩ := h
  exact ⟨lw, lf, g, s _ _ a, s _ _ b, s _ _ c, s _ _ d⟩
theorem BxAt.sb {H H' : Hp} {q p0 : Addr} {x : Str} {ws fs : List Str} {kvs : List (List Key × V)} (h : BxAt H q x ws fs kvs) (w : Wl H p0) (s : Sb p0 H H') : BxAt H' q x ws fs kvs := by
  obtain ⟨lw, lf, g, a, b, c, d⟩ := h
  exact ⟨lw, lf, g, s _ _ (w.ne a fun _ _ _ z => by cases z) a, s _ _ (w.ne b (strs_ne3 _)) b, s _ _ (w.ne c (strs_ne3 _)) c, s _ _ (w.ne d fun _ _ _ z => by cases z) d⟩
theorem fm_ifB (p : Str → Bool) : ∀ ms : List Str, (ms.filterMap fun m => if p m = true then some (V.str m) else none) = (ms.filter p).map V.str
  | [] => rfl
  | m :: t => by
    have ih := fm_ifB p t
    rw [List.filterMap_cons]
    by_cases h : p m = true
    · rw [if_pos h, List.filter_cons_of_pos h, List.map_cons, ih]
    · rw [if_neg h, List.filter_cons_of_neg h, ih]
/-- a rule's box of up to ten moods -/
def BxQ (H : Hp) (q : Addr) : Prop := ∃ x ws fs kvs, Fine x ws fs kvs ∧ BxAt H q x ws fs kvs ∧ ws.length ≤ 10
theorem BxQ.same {H H' : Hp} {q : Addr} (h : BxQ H q) (s : Same H H') : BxQ H' q := let ⟨x, ws, fs, kvs, a, b, c⟩ := h; ⟨x, ws, fs, kvs, a, b.same s, c⟩
theorem BxQ.sb {H H' : Hp} {q p : Addr} (h : BxQ H q) (w : Wl H p) (s : Sb p H H') : BxQ H' q := let ⟨x, ws, fs, kvs, a, b, c⟩ := h; ⟨x, ws, fs, kvs, a, b.sb w s, c⟩
def spWider : Sp := fun vs H Q _ => ∃ (p q : Addr) (x : Str) (ws fs : List Str) (kvs : List (List Key × V)), vs = [.ref p, .ref q] ∧ Wl H p ∧ BxAt H q x ws fs kvs ∧ Fine x ws fs kvs ∧ ws.length ≤ 5 ∧
  ∀ (q' : Addr) (fs' : List Str) (H' : Hp), Fine x ws fs' kvs → Sb p H H' → Wl H' p → BxAt H' q' x ws fs' kvs → Q (.ref q') H'
def spGood1 : Sp := fun vs H Q _ => ∃ (q : Addr) (p : Parts) (r : Str), vs = [.ref q, .str r] ∧ BxF H q p p.ms ∧ PartsOk p ∧ InS p r ∧ ∀ H', Same H H' → Q (.bl (decide (walkL p (firstL p) r.cps.toList ∈ p.gs))) H'
section
variable {P : Program} {w : World} {K : PySem.W.Frag} {mg : Str → Option Value} {base : Heap}
abbrev nWider : List Str := ["_law_purse_here", "_law_box_here", "_law_more", "_law_here"]
theorem scWider : FnScope nWider ["_law_purse_here", "_law_box_here"] (defScope sWider) := ⟨rfl, rfl, rfl, by decide +kernel, rfl, by decide +kernel, by decide +kernel⟩
theorem ok_wider {f : Addr} {fd : FuncData} (F : Fun K "_law_wider" "_law_wider" sWider f fd) (hP : Hv P w K mg base 1 "_law_pick" ["_law_purse_here", "_law_size"] spPk) (hL : mg "len" = none) : FnOk P w K mg base CX0 2 f fd ["_law_purse_here", "_law_box_here"] spWider := by
  refine F.ok scWider (fun vs H Q E h => ?_) (fun cdv A outer s H vs Q E hr h => ?_)
  · obtain ⟨p, q, x, ws, fs, kvs, rfl, _⟩ := h
    rfl
  · obtain ⟨p, q, x, ws, fs, kvs, rfl, hW, ⟨lw, lf, g, eq, ew, ef, eg⟩, fine, w5, k⟩ := h
    refine ⟨_, pss_cons (ps_set (i := 2) scWider.nd rfl (Or.inr rfl) (pe_ix ix_list (pe_ix ix_tup (pv 1) pe_int (fun _ _ => rfl)) (pe_cl hP hr rfl pass0 (pa_cons (pv 0) (pa_cons (pe_callB call_len_seq (by rfl) hL PySem.boot_len (pa_cons (pe_ix ix_tup (pv 1) pe_int (fun _ _ => rfl)) pa_nil)) pa_nil))) (fun _ _ => rfl)))
      (pss_one (ps_ret (pe_tup (pa_cons (pe_ix ix_tup (pv 1) pe_int (fun _ _ => rfl)) (pa_cons (pe_ix ix_tup (pv 1) pe_int (fun _ _ => rfl)) (pa_cons (pe_lc (own := [("_law_here", 3)]) (g := gName 3) rfl scWider.nd (pi_list (pe_ix ix_tup (pv 1) pe_int (fun _ _ => rfl))) (blkOk_by (N := nWider) (sc := defScope sWider) (by decide +kernel)) (fun _ _ _ _ _ => pg_name (i := 3) scWider.nd rfl (Or.inl rfl))
          (fun _ _ _ _ _ => pts_one (PW.pt (pw_or (pt_cmpR (op_in_seqK (K := K) rfl) (pv 3) (pe_ix (ix_tupK (K := K) rfl) (pv 1) pe_int (fun _ _ => rfl)) (by rfl)) (pw_or1 (pt_cmpR op_eq (pv 3) (pv 2) (nomark _)))))) (fun _ _ _ _ _ => pv 3)) (pa_cons (pe_ix ix_tup (pv 1) pe_int (fun _ _ => rfl)) pa_nil))))))), ?_⟩
    have z1 : 1 ≤ ws.length := by
      have := fine.mds
      unfold areMoodsL at this
      simp only [Bool.and_eq_true, decide_eq_true_eq] at this
      exact this.1.1.1
    have nq : q ≠ p := hW.ne eq fun _ _ _ z => by cases z
    have nw : lw ≠ p := hW.ne ew (strs_ne3 _)
    have nf : lf ≠ p := hW.ne ef (strs_ne3 _)
    have ng : g ≠ p := hW.ne eg fun _ _ _ z => by cases z
    refine ⟨_, rfl, q, _, _, V.ref lw, rfl, rfl, SqT.of eq, atI_nat (j := 1) rfl, _, rfl, _, rfl, q, _, _, V.ref lw, rfl, rfl, SqT.of eq, atI_nat (j := 1) rfl, lw, _, rfl, .inl (SqL.of ew), p, _, rfl, hW, by rw [List.length_map]; omega, by rw [List.length_map]; omega, fun d H1 d0 d1 s1 hW1 => ?_⟩
    obtain ⟨j, rfl⟩ := Int.eq_ofNat_of_zero_le d0
    rw [List.length_map] at d1
    have hj : j < ws.length := by omega
    have hm : ws[j]? = some ws[j] := List.getElem?_eq_getElem hj
    generalize ws[j] = mo at hm
    have eq1 := s1 _ _ nq eq
    have ew1 := s1 _ _ nw ew
    have ef1 := s1 _ _ nf ef
    have eg1 := s1 _ _ ng eg
    refine ⟨lw, _, _, V.str mo, rfl, rfl, SqL.of ew1, atI_nat (by rw [List.getElem?_map, hm]; rfl), ?_⟩
    refine ⟨_, rfl, q, _, _, V.str x, rfl, rfl, SqT.of eq1, atI_nat (j := 0) rfl, _, rfl, q, _, _, V.ref lw, rfl, rfl, SqT.of eq1, atI_nat (j := 1) rfl, _, rfl, q, _, _, V.ref lw, rfl, rfl, SqT.of eq1, atI_nat (j := 1) rfl, lw, rfl, ⟨_, SqL.of ew1⟩, fun D hD => ?_⟩
    refine lcG ws (fun t => if (decide (t ∈ fs) || decide (t = mo)) = true then some (V.str t) else none) (walk_listL (K := K) (a := lw) ws V.str) (by omega) hD (yat_same _) (fun H' s' => SqL.of (s' _ _ ew1)) (fun i t y H' H'' k1 ht sj hy k2 => ?_) (fun H7 s7 e7 => ?_)
    · obtain ⟨rfl, hy⟩ := hy
      have ey := map_get ht hy
      subst ey
      have k2 := k2 _ (Same.refl _)
      refine ⟨rfl, _, rfl, _, rfl, q, _, _, V.ref lf, rfl, rfl, SqT.of (sj _ _ eq1), atI_nat (j := 2) rfl, lf, _, rfl, .inl (SqL.of (sj _ _ ef1)), rfl, flat_strs _, _, rfl, ?_⟩
      show if inV (.str t) (fs.map V.str) = true then _ else _
      rw [in_strs]
      cases h1 : decide (t ∈ fs) with
      | true =>
        rw [h1, Bool.true_or, if_pos rfl] at k2
        exact iteT ⟨_, rfl, k2⟩
      | false =>
        rw [h1, Bool.false_or] at k2
        refine iteF ⟨_, rfl, _, rfl, rfl, _, rfl, ?_⟩
        have ed : decide (V.str t = V.str mo) = decide (t = mo) := by
          rw [Bool.eq_iff_iff, decide_eq_true_eq, decide_eq_true_eq]
          exact ⟨fun h => by injection h, fun h => by rw [h]⟩
        rw [ed]
        refine ite2 (fun c => ?_) (fun c => ?_)
        · rw [if_pos c] at k2
          exact ⟨_, rfl, k2⟩
        · rw [if_neg c] at k2
          exact k2
    · rw [fm_ifB] at e7
      refine ⟨_, rfl, q, _, _, V.ref g, rfl, rfl, SqT.of (s7 _ _ eq1), atI_nat (j := 3) rfl, by show 4 ≤ sizeLine; decide, fun q' hq' => ?_⟩
      exact k q' (ws.filter fun t => decide (t ∈ fs) || decide (t = mo)) _ ⟨fine.sgs, fine.mds, List.filter_sublist, fine.gl⟩ ((s1.trans (Sb.of s7)).trans (Sb.of (same_new hq'))) ((hW1.same s7).same (same_new hq')) ⟨lw, D, g, upd_same, keep1 (s7 _ _ ew1) hq', keep1 e7 hq', keep1 (s7 _ _ eg1) hq'⟩
theorem scGood1 : FnScope ["_law_box_here", "_law_line"] ["_law_box_here", "_law_line"] (defScope sFine) := ⟨rfl, rfl, rfl, by decide +kernel, rfl, by decide +kernel, by decide +kernel⟩
theorem ok_good1 {f : Addr} {fd : FuncData} (F : Fun K "_law_is_fine" "_law_is_fine" sFine f fd) (hEn : Hv P w K mg base 1 "_law_end" ["_law_box_here", "_law_begin", "_law_line"] spEndB) : FnOk P w K mg base CX0 2 f fd ["_law_box_here", "_law_line"] spGood1 := by
  refine F.ok scGood1 (fun vs H Q E h => ?_) (fun cdv A outer s H vs Q E hr h => ?_)
  · obtain ⟨q, p, r, rfl, _⟩ := h
    rfl
  · obtain ⟨q, p, r, rfl, hB, ok, ir, k⟩ := h
    refine ⟨_, pss_one (ps_ret (pe_cmpR op_in_seq (pe_cl hEn hr rfl pass0 (pa_cons (pv 0) (pa_cons (pe_ix ix_list (pe_ix ix_tup (pv 0) pe_int (fun _ _ => rfl)) pe_int (fun _ _ => rfl)) (pa_cons (pv 1) pa_nil)))) (pe_ix ix_tup (pv 0) pe_int (fun _ _ => rfl)) (by rfl))), ?_⟩
    obtain ⟨ms, em⟩ := ok.first
    have ef : (p.ms.map V.str)[0]? = some (.str (firstL p)) := by rw [em]; rfl
    have mf : firstL p ∈ p.ms := by rw [em]; simp
    obtain ⟨lw, lg, g, kvs, eq, ew, eg, _, _⟩ := id hB
    refine ⟨_, rfl, _, rfl, q, _, _, V.ref lw, rfl, rfl, SqT.of eq, atI_nat (j := 1) rfl, lw, _, _, V.str (firstL p), rfl, rfl, SqL.of ew, atI_nat (j := 0) ef, _, rfl, q, p, p.ms, firstL p, r, rfl, hB, ok, mf, ir, fun H1 s1 => ?_⟩
    refine ⟨_, rfl, q, _, _, V.ref lg, rfl, rfl, SqT.of (s1 _ _ eq), atI_nat (j := 2) rfl, lg, _, rfl, .inl (SqL.of (s1 _ _ eg)), rfl, flat_strs _, ?_⟩
    show Q (.bl (inV (.str _) (p.gs.map V.str))) H1
    rw [in_strs]
    exact k _ s1
end
end My
namespace My
open PySem PySem.Spec PyProof.Rows L2 PySem.GX L2H LamX
abbrev lastS (n : Nat) (r : Str) : Str := cutS r (some ((r.length : Int) - (n : Int))) none
def lookZ (n : Nat) (r : Str) : Str × Bool := if r.length < n then (r, true) else (lastS n r, false)
theorem last_cps {n : Nat} {r : Str} (h : n ≤ r.length) (hr : r.length ≤ 1000000) : (lastS n r).cps.toList = r.cps.toList.drop (r.length - n) := by
  have e : ((r.length : Int) - (n : Int)) = ((r.length - n : Nat) : Int) := by omega
  show (cutS r (some ((r.length : Int) - (n : Int))) none).cps.toList = _
  rw [e]
  unfold cutS
  have e1 : HT.sIx r.length r.length none = r.length := rfl
  have e0 : HT.sIx r.length 0 (some ((r.length - n : Nat) : Int)) = r.length - n := by
    unfold HT.sIx
    simp
    omega
  rw [e0, e1]
  show List.take (r.length - (r.length - n)) (List.drop (r.length - n) r.cps.toList) = _
  refine List.take_of_length_le ?_
  rw [List.length_drop]
  exact Nat.le_refl _
theorem look_same {n : Nat} {x y : Str} (hx : x.length ≤ 1000000) (hy : y.length ≤ 1000000) (h : lookZ n x = lookZ n y) : x = y ∨ ∃ x0 y0 s, x.cps.toList = x0 ++ s ∧ y.cps.toList = y0 ++ s ∧ n ≤ s.length := by
  unfold lookZ at h
  by_cases h1 : x.length < n
  · rw [if_pos h1] at h
    by_cases h2 : y.length < n
    · rw [if_pos h2] at h
      injection h with h _
      exact .inl h
    · rw [if_neg h2] at h
      injection h with _ h
      cases h
  · rw [if_neg h1] at h
    by_cases h2 : y.length < n
    · rw [if_pos h2] at h
      injection h with _ h
      cases h
    · rw [if_neg h2] at h
      injection h with h _
      right
      refine ⟨x.cps.toList.take (x.length - n), y.cps.toList.take (y.length - n), x.cps.toList.drop (x.length - n), (List.take_append_drop _ _).symm, ?_, ?_⟩
      · rw [← last_cps (by omega) hx, h, last_cps (by omega) hy, List.take_append_drop]
      · rw [List.length_drop]
        show n ≤ x.length - (x.length - n)
        omega
def pcs (m : Str) (n : Nat) : List Str := (List.range (m.length - n + 1)).map fun i : Nat => cutS m (some (i : Int)) (some ((i : Int) + (n : Int)))
theorem pcs_len (m : Str) (n : Nat) : (pcs m n).length = m.length - n + 1 := by
  unfold pcs
  rw [List.length_map, List.length_range]
theorem pcs_get {m : Str} {n i : Nat} {a : Str} (h : (pcs m n)[i]? = some a) : a = cutS m (some (0 + (i : Int))) (some (0 + (i : Int) + (n : Int))) := by
  unfold pcs at h
  rw [List.getElem?_map] at h
  have hi : i < m.length - n + 1 := by
    apply Classical.byContradiction
    intro z
    rw [List.getElem?_eq_none (by rw [List.length_range]; omega)] at h
    cases h
  rw [List.getElem?_range hi] at h
  cases h
  rw [Int.zero_add]
def mark (r : Str) : Str := ((">" : Str) ++ r) ++ ("<" : Str)
theorem mark_len (r : Str) : (mark r).length = r.length + 2 := by
  unfold mark
  rw [len_app, len_app]
  have a : (">" : Str).length = 1 := rfl
  have b : ("<" : Str).length = 1 := rfl
  rw [a, b]
  omega
theorem mark_cps (r : Str) : (mark r).cps.toList = mkC r.cps.toList := by
  unfold mark mkC
  rw [cps_app, cps_app]
  rfl
def pcsL (n : Nat) (r : Str) : List Str := if (mark r).length < n then [mark r] else pcs (mark r) n
theorem cut_cps {m : Str} {i n : Nat} (h : i + n ≤ m.length) (hm : m.length ≤ 1000000) : (cutS m (some (i : Int)) (some ((i : Int) + (n : Int)))).cps.toList = (m.cps.toList.drop i).take n := by
  have e : ((i : Int) + (n : Int)) = ((i + n : Nat) : Int) := by omega
  rw [e]
  unfold cutS
  have e0 : HT.sIx m.length 0 (some (i : Int)) = i := by rw [HT.sIx_nat]; omega
  have e1 : HT.sIx m.length m.length (some ((i + n : Nat) : Int)) = i + n := by rw [HT.sIx_nat]; omega
  rw [e0, e1, Nat.add_sub_cancel_left]
theorem pcsL_cps {n : Nat} {r : Str} (hr : r.length ≤ 1000) : (pcsL n r).map (fun z => z.cps.toList) = pcC n (mkC r.cps.toList) := by
  have hl : (mkC r.cps.toList).length = (mark r).length := by
    rw [← mark_cps]
    rfl
  have hml := mark_len r
  unfold pcsL pcC
  by_cases h : (mark r).length < n
  · rw [if_pos h, if_pos (by rw [hl]; exact h)]
    show [(mark r).cps.toList] = _
    rw [mark_cps]
  · rw [if_neg h, if_neg (by rw [hl]; exact h), hl]
    unfold pcs
    rw [List.map_map]
    refine List.map_congr_left fun i hi => ?_
    have hi := List.mem_range.mp hi
    show (cutS (mark r) (some (i : Int)) (some ((i : Int) + (n : Int)))).cps.toList = _
    rw [cut_cps (by omega) (by omega), mark_cps]
def spLookL : Sp := fun vs H Q _ => ∃ (n : Nat) (r : Str), vs = [.str "last", .int (n : Int), .str r] ∧ r.length ≤ 1000 ∧ ∀ (t : Addr) (H' : Hp), Same H H' → H' t = some (.tup [.str (lookZ n r).1, .bl (lookZ n r).2]) → Q (.ref t) H'
def spPcW : Sp := fun vs H Q _ => ∃ (n : Nat) (r : Str), vs = [.int (n : Int), .str r] ∧ r.length ≤ 1000 ∧ n ≤ 1000 ∧ ∀ (l : Addr) (H' : Hp), Same H H' → H' l = some (.lst ((pcsL n r).map V.str)) → Q (.ref l) H'
def spRowsTo : Sp := fun vs H Q _ => ∃ (x : Str) (m : Nat), vs = [.str x, .int (m : Int)] ∧ 1 ≤ x.length ∧ x.length ≤ 3 ∧ m ≤ 7 ∧ ∀ (l : Addr) (lines : List Str) (H' : Hp), Same H H' → H' l = some (.lst (lines.map V.str)) → lines.length ≤ 100000 → (∀ r ∈ lines, r.length ≤ 7 ∧ ∀ c ∈ r.cps.toList, c ∈ x.cps.toList) → Q (.ref l) H'
section
variable {P : Program} {w : World} {K : PySem.W.Frag} {mg : Str → Option Value} {base : Heap}
abbrev nLookL : List Str := ["_law_sort", "_law_size", "_law_line"]
theorem scLookL : FnScope nLookL ["_law_sort", "_law_size", "_law_line"] (defScope sLLook) := ⟨rfl, rfl, rfl, by decide +kernel, rfl, by decide +kernel, by decide +kernel⟩
theorem ok_lookL {f : Addr} {fd : FuncData} (F : Fun K "_law_look" "_law_look" sLLook f fd) (hL : mg "len" = none) : FnOk P w K mg base CX0 1 f fd ["_law_sort", "_law_size", "_law_line"] spLookL := by
  refine F.ok scLookL (fun vs H Q E h => ?_) (fun cdv A outer s H vs Q E hr h => ?_)
  · obtain ⟨n, r, rfl, _⟩ := h
    rfl
  · obtain ⟨n, r, rfl, lr, kk⟩ := h
    have zr : r.length ≤ sizeLine := by rw [sizeLine_eq]; omega
    refine ⟨_, pss_cons (ps_if (pt_cmpR op_eq (pv 0) pe_str (nomark _)) (pss_one (ps_ret (pe_ifExp (pt_cmpR op_lt (pe_callB call_len_str (by rfl) hL PySem.boot_len (pa_cons (pv 2) pa_nil)) (pv 1) (nomark _)) (pe_tup (pa_cons (pv 2) (pa_cons pe_bl pa_nil))) (pe_tup (pa_cons (pe_slice sl_str (pv 2) (po_some (pe_op op_sub (pe_callB call_len_str (by rfl) hL PySem.boot_len (pa_cons (pv 2) pa_nil)) (pv 1))) po_none) (pa_cons pe_bl pa_nil)))))) pss_nil)
      (pss_cons (ps_if (pt_cmpR op_lt (pe_callB call_len_str (by rfl) hL PySem.boot_len (pa_cons (pv 2) pa_nil)) (pe_op op_mul pe_int (pv 1)) (nomark _)) (pss_one (ps_ret (pe_tup (pa_cons (pv 2) (pa_cons pe_bl pa_nil))))) pss_nil)
      (pss_one (ps_ret (pe_tup (pa_cons (pe_tup (pa_cons (pe_slice sl_str (pv 2) po_none (po_some (pv 1))) (pa_cons (pe_slice sl_str (pv 2) (po_some (pe_op op_sub (pe_callB call_len_str (by rfl) hL PySem.boot_len (pa_cons (pv 2) pa_nil)) (pv 1))) po_none) pa_nil))) (pa_cons pe_bl pa_nil)))))), ?_⟩
    refine ⟨_, rfl, rfl, _, rfl, iteT ?_⟩
    refine ⟨_, rfl, r, rfl, zr, _, rfl, _, _, rfl, rfl, _, rfl, ite2 (fun c => ?_) (fun c => ?_)⟩
    · have c' : r.length < n := by have := of_decide_eq_true c; omega
      refine ⟨_, rfl, by show 2 ≤ sizeLine; decide, fun t ht => kk t _ (same_new ht) ?_⟩
      unfold lookZ
      rw [if_pos c']
      exact upd_same
    · have c' : ¬ r.length < n := fun z => c (decide_eq_true (by omega))
      refine ⟨_, rfl, _, rfl, r, rfl, zr, _, rfl, _, _, rfl, rfl, _, rfl, r, rfl, zr, by show 2 ≤ sizeLine; decide, fun t ht => kk t _ (same_new ht) ?_⟩
      unfold lookZ
      rw [if_neg c']
      exact upd_same
abbrev nPcW : List Str := ["_law_size", "_law_line", "_law_marked", "_law_at"]
theorem scPcW : FnScope nPcW ["_law_size", "_law_line"] (defScope sLPieces) := ⟨rfl, rfl, rfl, by decide +kernel, rfl, by decide +kernel, by decide +kernel⟩
theorem ok_pcW {f : Addr} {fd : FuncData} (F : Fun K "_law_pieces" "_law_pieces" sLPieces f fd) (hL : mg "len" = none) (hR : mg "range" = none) : FnOk P w K mg base CX0 1 f fd ["_law_size", "_law_line"] spPcW := by
  refine F.ok scPcW (fun vs H Q E h => ?_) (fun cdv A outer s H vs Q E hr h => ?_)
  · obtain ⟨n, r, rfl, _⟩ := h
    rfl
  · obtain ⟨n, r, rfl, lr, ln, kk⟩ := h
    refine ⟨_, pss_cons (ps_set (i := 2) scPcW.nd rfl (Or.inr rfl) (pe_op op_add_str (pe_op op_add_str pe_str (pv 1)) pe_str))
      (pss_cons (ps_if (pt_cmpR op_lt (pe_callB call_len_str (by rfl) hL PySem.boot_len (pa_cons (pv 2) pa_nil)) (pv 0) (nomark _)) (pss_one (ps_ret (pe_lst (pa_cons (pv 2) pa_nil)))) pss_nil)
      (pss_one (ps_ret (pe_lc (own := [("_law_at", 3)]) (g := gName 3) (tt := tYes) rfl scPcW.nd (pi_range1 rfl hR (pa_cons (pe_op op_add (pe_op op_sub (pe_callB call_len_str (by rfl) hL PySem.boot_len (pa_cons (pv 2) pa_nil)) (pv 0)) pe_int) pa_nil))
          (blkOk_by (N := nPcW) (sc := defScope sLPieces) (by decide +kernel)) (fun _ _ _ _ _ => pg_name (i := 3) scPcW.nd rfl (Or.inl rfl)) (fun _ _ _ _ _ => pts_nil)
          (fun _ _ _ _ _ => pe_slice sl_str (pv 2) (po_some (pv 3)) (po_some (pe_op op_add (pv 3) (pv 0)))))))), ?_⟩
    have lm : (mark r).length ≤ 1002 := by rw [mark_len]; omega
    have zm : (mark r).length ≤ sizeLine := by rw [sizeLine_eq]; omega
    have l1 : (">" : Str).length = 1 := rfl
    have l2 : ("<" : Str).length = 1 := rfl
    refine ⟨_, rfl, _, _, rfl, rfl, by rw [l1, sizeLine_eq]; omega, _, _, rfl, rfl, by rw [len_app, l1, l2, sizeLine_eq]; omega, ?_⟩
    have em : ((">" : Str) ++ r) ++ ("<" : Str) = mark r := rfl
    rw [em]
    refine ⟨_, rfl, mark r, rfl, zm, _, rfl, _, _, rfl, rfl, _, rfl, ite2 (fun c => ?_) (fun c => ?_)⟩
    · have c' : (mark r).length < n := by have := of_decide_eq_true c; omega
      refine ⟨_, rfl, by show 1 ≤ sizeLine; decide, fun t ht => kk t _ (same_new ht) ?_⟩
      unfold pcsL
      rw [if_pos c']
      exact upd_same
    · have c' : n ≤ (mark r).length := by
        have : ¬ (mark r).length < n := fun z => c (decide_eq_true (by omega))
        omega
      have ei : ((mark r).length : Int) - (n : Int) + 1 = (((mark r).length - n + 1 : Nat) : Int) := by omega
      refine ⟨_, rfl, mark r, rfl, zm, _, rfl, _, _, rfl, rfl, _, _, rfl, rfl, (((mark r).length - n + 1 : Nat) : Int), congrArg (fun z => [V.int z]) ei, by omega, by omega, fun D hD => ?_⟩
      refine lcG (pcs (mark r) n) (fun a => some (.str a)) (by rw [pcs_len]; exact walk_range (lo := 0)) (by rw [pcs_len]; omega) hD (fun i H x H' h => by rw [h.1]; exact Same.refl _) (fun _ _ => trivial) (fun i a x H' H'' k1 hx s1 hy k2 => ?_) (fun H1 s1 e1 => ?_)
      · obtain ⟨rfl, rfl⟩ := hy
        refine ⟨rfl, _, rfl, _, rfl, _, rfl, _, rfl, _, rfl, _, _, rfl, rfl, _, rfl, mark r, rfl, zm, ?_⟩
        rw [← pcs_get hx]
        exact k2 _ (Same.refl _)
      · refine kk D H1 s1 ?_
        unfold pcsL
        rw [if_neg (by omega), e1, List.filterMap_eq_map']
abbrev nRowsTo : List Str := ["_law_letters_here", "_law_most", "_law_found", "_law_last", "_law_turn", "_law_fresh", "_law_line", "_law_letter"]
theorem scRowsTo : FnScope nRowsTo ["_law_letters_here", "_law_most"] (defScope sRowsTo) := ⟨rfl, rfl, rfl, by decide +kernel, rfl, by decide +kernel, by decide +kernel⟩
theorem ok_rowsTo {f : Addr} {fd : FuncData} (F : Fun K "_law_rows_to" "_law_rows_to" sRowsTo f fd) (hR : mg "range" = none) : FnOk P w K mg base CX0 1 f fd ["_law_letters_here", "_law_most"] spRowsTo := by
  refine F.ok scRowsTo (fun vs H Q E h => ?_) (fun cdv A outer s H vs Q E hr h => ?_)
  · obtain ⟨x, m, rfl, _⟩ := h
    rfl
  · obtain ⟨x, m, rfl, x1, x3, m7, kk⟩ := h
    refine ⟨_, pss_cons (ps_par (i := 2) (j := 3) rfl scRowsTo.nd rfl rfl (by decide) rfl rfl (pa_cons (pe_lst (pa_cons pe_str pa_nil)) (pa_cons (pe_lst (pa_cons pe_str pa_nil)) pa_nil)) rfl)
      (pss_cons (ps_for PassesOwn.never rfl (pi_range1 rfl hR (pa_cons (pv 1) pa_nil)) (pg_name (i := 4) scRowsTo.nd rfl (Or.inl rfl))
        (pss_cons (ps_set (i := 5) scRowsTo.nd rfl (Or.inl rfl) (pe_lst pa_nil))
        (pss_cons (ps_for PassesOwn.never rfl (pi_list (pv 3)) (pg_name (i := 6) scRowsTo.nd rfl (Or.inr rfl))
          (pss_one (ps_set (i := 5) scRowsTo.nd rfl (Or.inl rfl) (pe_op op_cat (pv 5) (pe_lc (own := [("_law_letter", 7)]) (g := gName 7) (tt := tYes) rfl scRowsTo.nd (pi_str (pv 0)) (blkOk_by (N := nRowsTo) (sc := defScope sRowsTo) (by decide +kernel)) (fun _ _ _ _ _ => pg_name (i := 7) scRowsTo.nd rfl (Or.inl rfl)) (fun _ _ _ _ _ => pts_nil) (fun _ _ _ _ _ => pe_op op_add_str (pv 6) (pv 7)))))))
        (pss_cons (ps_set (i := 3) scRowsTo.nd rfl (Or.inl rfl) (pv 5))
        (pss_one (ps_set (i := 2) scRowsTo.nd rfl (Or.inl rfl) (pe_op op_cat (pv 2) (pv 3))))))))
      (pss_one (ps_ret (pv 2)))), ?_⟩
    refine ⟨by show 1 ≤ sizeLine; decide, fun l1 h1 => ⟨by show 1 ≤ sizeLine; decide, fun l2 h2 => ⟨_, _, rfl, ?_⟩⟩⟩
    have s12 := (same_new (o := .lst [.str ""]) h1).trans (same_new (o := .lst [.str ""]) h2)
    have e1 := keep1 (o := .lst [.str ""]) (upd_same (a := l1) (H := H) (o := .lst [.str ""])) h2
    have e2 := upd_same (a := l2) (H := upd H l1 (.lst [.str ""])) (o := .lst [.str ""])
    generalize upd (upd H l1 (.lst [.str ""])) l2 (.lst [.str ""]) = H1 at s12 e1 e2 ⊢
    have hcs : x.cps.toList.length = x.cps.size := Array.length_toList
    have hx3 : x.cps.toList.length ≤ 3 := by rw [hcs]; exact x3
    have pw : ∀ i, i ≤ 7 → 3 ^ i ≤ 2187 := fun i hi => by
      have := Nat.pow_le_pow_right (n := 3) (by decide) hi
      have e : (3 : Nat) ^ 7 = 2187 := rfl
      omega
    refine ⟨_, rfl, (m : Int), rfl, by omega, by omega, ?_⟩
    refine for_it walk_range (fun i σ H' => ∃ (lf ll : Addr) (found last : List Str) (x4 x5 x6 : Option V), σ = [some (.str x), some (.int (m : Int)), some (.ref lf), some (.ref ll), x4, x5, x6, none] ∧ Same H H' ∧ H' lf = some (.lst (found.map V.str)) ∧ H' ll = some (.lst (last.map V.str)) ∧ last.length ≤ 3 ^ i ∧ found.length ≤ 3 ^ (i + 1) ∧ (∀ r ∈ found, r.length ≤ i ∧ ∀ c ∈ r.cps.toList, c ∈ x.cps.toList) ∧ (∀ r ∈ last, r.length ≤ i ∧ ∀ c ∈ r.cps.toList, c ∈ x.cps.toList))
      ⟨l1, l2, [""], [""], none, none, none, rfl, s12, e1, e2, Nat.le_refl _, by decide, fun r hr => by rw [List.mem_singleton] at hr; subst hr; exact ⟨Nat.le_refl _, fun c hc => by cases hc⟩, fun r hr => by rw [List.mem_singleton] at hr; subst hr; exact ⟨Nat.le_refl _, fun c hc => by cases hc⟩⟩ (fun _ _ _ _ _ => trivial) (fun i y σ H' H'' hi h hy => ?_) (fun σ H5 h => ?_)
    · obtain ⟨rfl, rfl⟩ := hy
      obtain ⟨lf, ll, found, last, x4, x5, x6, rfl, st, ef, el, ll3, lf3, hf, hl⟩ := h
      have hi7 : i < m := by
        have : ((m : Int)).toNat = m := Int.toNat_natCast m
        omega
      have p1 := pw i (by omega)
      have p2 := pw (i + 1) (by omega)
      have e31 : 3 ^ (i + 1) = 3 * 3 ^ i := by rw [Nat.pow_succ, Nat.mul_comm]
      have e32 : 3 ^ (i + 1 + 1) = 3 * 3 ^ (i + 1) := by rw [Nat.pow_succ, Nat.mul_comm]
      refine ⟨by show 0 ≤ sizeLine; decide, fun le hle => ?_⟩
      have s0 := same_new (o := .lst []) hle
      have ee := upd_same (a := le) (H := H'') (o := .lst [])
      generalize upd H'' le (.lst []) = H2 at s0 ee ⊢
      refine ⟨_, rfl, ll, rfl, ⟨_, SqL.of (s0 _ _ el)⟩, ?_⟩
      refine for_it (walk_listL (K := K) (a := ll) last V.str) (fun j σ H' => ∃ (le : Addr) (fresh : List Str) (x6 : Option V), σ = [some (.str x), some (.int (m : Int)), some (.ref lf), some (.ref ll), some (.int (0 + (i : Int))), some (.ref le), x6, none] ∧ Same H2 H' ∧ H' le = some (.lst (fresh.map V.str)) ∧ fresh.length ≤ 3 * j ∧ ∀ r ∈ fresh, r.length ≤ i + 1 ∧ ∀ c ∈ r.cps.toList, c ∈ x.cps.toList)
        ⟨le, [], x6, rfl, Same.refl _, ee, Nat.le_refl _, fun _ hm => by cases hm⟩ (fun j σ H' _ h => ?_) (fun j y σ H3 H4 hj h hy => ?_) (fun σ H3 h => ?_)
      · obtain ⟨_, _, _, _, st', _⟩ := h
        exact SqL.of (st' _ _ (s0 _ _ el))
      · obtain ⟨rfl, hy⟩ := hy
        obtain ⟨le, fresh, x6, rfl, st', ee, l3, hfr⟩ := h
        have hln : last[j]? = some last[j] := List.getElem?_eq_getElem hj
        obtain rfl := map_get hln hy
        generalize last[j] = ln at hln
        have hlr := hl ln (List.mem_of_getElem? hln)
        refine ⟨_, rfl, _, rfl, x, rfl, fun D hD => ?_⟩
        refine lcG x.cps.toList (fun c => some (.str (ln ++ sg c))) (by rw [hcs]; exact walk_str) (by omega) hD (fun i H x H' h => by rw [h.1]; exact Same.refl _) (fun _ _ => trivial) (fun i' c y H5 H6 k1 hc sj hy k2 => ?_) (fun H7 s7 e7 => ?_)
        · obtain ⟨rfl, c', hc', rfl⟩ := hy
          rw [← Array.getElem?_toList, hc] at hc'
          obtain rfl := Option.some.inj hc'
          have l1 : (sg c).length = 1 := rfl
          exact ⟨rfl, _, rfl, _, rfl, _, _, rfl, rfl, by rw [l1, sizeLine_eq]; omega, k2 _ (Same.refl _)⟩
        · rw [List.filterMap_eq_map'] at e7
          have e7' : H7 D = some (.lst ((x.cps.toList.map fun c => ln ++ sg c).map V.str)) := by rw [List.map_map]; exact e7
          refine ⟨le, D, _, _, rfl, rfl, s7 _ _ ee, e7', by rw [List.length_map, List.length_map, List.length_map, sizeLine_eq]; omega, fun p hp => ?_⟩
          have sp := same_new (o := .lst (fresh.map V.str ++ (x.cps.toList.map fun c => ln ++ sg c).map V.str)) hp
          refine ⟨p, fresh ++ (x.cps.toList.map fun c => ln ++ sg c), _, rfl, (st'.trans s7).trans sp, by rw [upd_same, List.map_append], by rw [List.length_append, List.length_map]; omega, fun r hr => ?_⟩
          rcases List.mem_append.mp hr with hr | hr
          · exact hfr r hr
          · obtain ⟨c, hc, rfl⟩ := List.mem_map.mp hr
            refine ⟨?_, fun d hd => ?_⟩
            · rw [len_app]
              have l1 : (sg c).length = 1 := rfl
              omega
            · rw [cps_app] at hd
              rcases List.mem_append.mp hd with hd | hd
              · exact hlr.2 d hd
              · have : d = c := by
                  have : d ∈ [c] := hd
                  simpa using this
                rw [this]
                exact hc
      · obtain ⟨le, fresh, x6, rfl, st', ee, l3, hfr⟩ := h
        have s3 := s0.trans st'
        refine ⟨_, rfl, _, rfl, _, rfl, lf, le, _, _, rfl, rfl, s3 _ _ ef, ee, by rw [List.length_map, List.length_map, sizeLine_eq]; omega, fun p hp => ?_⟩
        have sp := same_new (o := .lst (found.map V.str ++ fresh.map V.str)) hp
        refine ⟨p, le, found ++ fresh, fresh, _, _, _, rfl, (st.trans s3).trans sp, by rw [upd_same, List.map_append], sp _ _ ee, by omega, by rw [List.length_append]; omega, fun r hr => ?_, fun r hr => hfr r hr⟩
        rcases List.mem_append.mp hr with hr | hr
        · have := hf r hr
          exact ⟨by omega, this.2⟩
        · exact hfr r hr
    · obtain ⟨lf, ll, found, last, x4, x5, x6, rfl, st, ef, el, ll3, lf3, hf, hl⟩ := h
      have em : ((m : Int)).toNat = m := Int.toNat_natCast m
      have hm1 : ∀ r ∈ found, r.length ≤ 7 ∧ ∀ c ∈ r.cps.toList, c ∈ x.cps.toList := fun r hr => ⟨by have := (hf r hr).1; omega, (hf r hr).2⟩
      have p3 : 3 ^ (((m : Int)).toNat + 1) ≤ 6561 := by
        have := Nat.pow_le_pow_right (n := 3) (by decide) (show ((m : Int)).toNat + 1 ≤ 8 by omega)
        have e : (3 : Nat) ^ 8 = 6561 := rfl
        omega
      exact ⟨_, rfl, kk lf found _ st ef (by omega) hm1⟩
end
end My
namespace My
open PySem PySem.Spec PyProof.Rows L2 PySem.GX L2H LamX
theorem seen_same {ps : List (Str × Str)} {a b : Str} (h : (a, b) ∈ ps) : putK (seenL ps) (k2 a b) (.bl true) = seenL ps := by
  unfold putK
  rw [if_pos (by rw [valV_any, seen_val, decide_eq_true h])]
  unfold seenL
  rw [List.map_map]
  refine List.map_congr_left fun z _ => ?_
  show (if k2 z.1 z.2 = k2 a b then (k2 z.1 z.2, V.bl true) else (k2 z.1 z.2, V.bl true)) = _
  split <;> rfl
/-- pairs of moods, put into a new dict -/
structure Unl (H0 H : Hp) (d : Addr) (p : Parts) (ps : List (Str × Str)) : Prop where
  s : Same H0 H
  ed : H d = some (.dT (seenL ps))
  nd : ps.Nodup
  inn : ∀ ab ∈ ps, ab.1 ∈ p.ms ∧ ab.2 ∈ p.ms
section
variable {H0 H H' : Hp} {d : Addr} {p : Parts} {ps : List (Str × Str)} {a b : Str}
theorem Unl.new (h : Unl H0 H d p ps) (s : Same H H') : Unl H0 H' d p ps := ⟨h.s.trans s, s _ _ h.ed, h.nd, h.inn⟩
theorem Unl.few (h : Unl H0 H d p ps) (z : p.ms.length ≤ 10) : ps.length ≤ 100 := by
  have := pairs_bound h.nd h.inn
  have m : p.ms.length * p.ms.length ≤ 10 * 10 := Nat.mul_le_mul z z
  omega
theorem Unl.put (h : Unl H0 H d p ps) (h0 : H0 d = none) (ha : a ∈ p.ms) (hb : b ∈ p.ms) : ∃ qs, Unl H0 (upd H d (.dT (putK (seenL ps) (k2 a b) (.bl true)))) d p qs := by
  have s : ∀ kvs, Same H0 (upd H d (.dT kvs)) := fun kvs b o e => by rw [upd_ne (ne_of_none e h0)]; exact h.s _ _ e
  by_cases m : (a, b) ∈ ps
  · rw [seen_same m]
    exact ⟨ps, s _, upd_same, h.nd, h.inn⟩
  · rw [seen_snoc m]
    refine ⟨ps ++ [(a, b)], s _, upd_same, ?_, fun ab hm => ?_⟩
    · rw [List.nodup_append]
      refine ⟨h.nd, by simp, fun x hx y hy e => ?_⟩
      rw [List.mem_singleton] at hy
      exact m (hy ▸ e ▸ hx)
    · rcases List.mem_append.mp hm with hm | hm
      · exact h.inn ab hm
      · rw [List.mem_singleton] at hm
        subst hm
        exact ⟨ha, hb⟩
end
def spUnlike : Sp := fun vs H Q _ => ∃ (q : Addr) (p : Parts), vs = [.ref q] ∧ BxF H q p p.ms ∧ PartsOk p ∧ p.ms.length ≤ 10 ∧ ∀ (d : Addr) (ps : List (Str × Str)) (H' : Hp), Same H H' → H d = none → H' d = some (.dT (seenL ps)) → ps.Nodup → (∀ ab ∈ ps, ab.1 ∈ p.ms ∧ ab.2 ∈ p.ms) → Q (.ref d) H'
/-- one pair is looked at -/
def tUn : TS := fun D σ H => ∃ (x4 x5 x6 x7 : Option V) (q d : Addr) (H0 : Hp) (p : Parts) (ps : List (Str × Str)) (a b : Str), σ = [some (.ref q), some (.ref d), some (.str a), some (.str b), x4, x5, x6, x7] ∧ BxF H0 q p p.ms ∧ PartsOk p ∧ p.ms.length ≤ 10 ∧ a ∈ p.ms ∧ b ∈ p.ms ∧ H0 d = none ∧ Unl H0 H d p ps ∧
  ∀ (y5 : Option V) (H' : Hp) (qs : List (Str × Str)), Unl H0 H' d p qs → D.nx [some (.ref q), some (.ref d), some (.str a), some (.str b), x4, y5, x6, x7] H'
section
variable {P : Program} {w : World} {K : PySem.W.Frag} {mg : Str → Option Value} {base : Heap}
abbrev nUnlike : List Str := ["_law_box_here", "_law_found", "_law_first", "_law_second", "_law_turn", "_law_ends", "_law_letter", "_law_pair"]
theorem scUnlike : FnScope nUnlike ["_law_box_here"] (defScope sUnlike) := ⟨rfl, rfl, rfl, by decide +kernel, rfl, by decide +kernel, by decide +kernel⟩
theorem ok_unlike {f : Addr} {fd : FuncData} (F : Fun K "_law_unlike" "_law_unlike" sUnlike f fd) (hL : mg "len" = none) (hR : mg "range" = none) : FnOk P w K mg base CX0 1 f fd ["_law_box_here"] spUnlike := by
  refine F.ok scUnlike (fun vs H Q E h => ?_) (fun cdv A outer s H vs Q E hr h => ?_)
  · obtain ⟨q, p, rfl, _⟩ := h
    rfl
  · obtain ⟨q, p, rfl, hB, ok, z10, kk⟩ := h
    have hu := hu_of hr
    have hu0 : (A.deeper (envOfC "_law_unlike" (defScope sUnlike) s.heap.objs.size f cdv)).units < cLine := by omega
    refine ⟨_, pss_cons (ps_set (i := 1) scUnlike.nd rfl (Or.inr rfl) pe_dnewT)
      (pss_cons (ps_for PassesOwn.never rfl (pi_list (pe_ix ix_tup (pv 0) pe_int (fun _ _ => rfl))) (pg_name (i := 2) scUnlike.nd rfl (Or.inr rfl)) (pss_one (ps_for PassesOwn.never rfl (pi_list (pe_ix ix_tup (pv 0) pe_int (fun _ _ => rfl))) (pg_name (i := 3) scUnlike.nd rfl (Or.inr rfl))
        (pss_one (ps_if (pt_cmpR op_ne (pe_cmpR op_in_seq (pv 2) (pe_ix ix_tup (pv 0) pe_int (fun _ _ => rfl)) (by rfl)) (pe_cmpR op_in_seq (pv 3) (pe_ix ix_tup (pv 0) pe_int (fun _ _ => rfl)) (by rfl)) (nomark _)) (pss_one (ps_dput hu (pv 1) (pe_tup (pa_cons (pv 2) (pa_cons (pv 3) pa_nil))) pe_bl rfl)) pss_nil)))))
      (pss_cons (ps_for PassesOwn.never rfl (pi_range1 rfl hR (pa_cons (pe_callB call_len_seq (by rfl) hL PySem.boot_len (pa_cons (pe_ix ix_tup (pv 0) pe_int (fun _ _ => rfl)) pa_nil)) pa_nil)) (pg_name (i := 4) scUnlike.nd rfl (Or.inl rfl)) (pss_one (ps_for PassesOwn.never rfl (pi_list (pe_ix ix_tup (pv 0) pe_int (fun _ _ => rfl))) (pg_name (i := 2) scUnlike.nd rfl (Or.inr rfl)) (pss_one (ps_for PassesOwn.never rfl (pi_list (pe_ix ix_tup (pv 0) pe_int (fun _ _ => rfl))) (pg_name (i := 3) scUnlike.nd rfl (Or.inr rfl))
        (PSs_impL (t' := tUn) (pss_cons (ps_setLc (i := 5) (own := [("_law_letter", 6)]) (g := gName 6) (tt := tYes) (by rfl) scUnlike.nd rfl rfl (sw_true rfl rfl rfl (by decide +kernel)) (pi_str (pe_ix ix_tup (pv 0) pe_int (fun _ _ => rfl))) (blkOk_by (N := nUnlike) (sc := defScope sUnlike) (by decide +kernel)) (fun _ _ _ _ _ => pg_name (i := 6) scUnlike.nd rfl (Or.inl rfl)) (fun _ _ _ _ _ => pts_nil)
            (fun _ _ _ _ _ => pe_tup (pa_cons (pe_dget hu (pe_ix (ix_tupK (K := K) rfl) (pv 0) pe_int (fun _ _ => rfl)) (pe_tup (pa_cons (pv 2) (pa_cons (pv 6) pa_nil))) (fun _ _ => rfl)) (pa_cons (pe_dget hu (pe_ix (ix_tupK (K := K) rfl) (pv 0) pe_int (fun _ _ => rfl)) (pe_tup (pa_cons (pv 3) (pa_cons (pv 6) pa_nil))) (fun _ _ => rfl)) pa_nil))))
          (pss_one (ps_if (pt_cmpR (op_neNil hu0) (pe_lc (own := [("_law_pair", 7)]) (g := gName 7) rfl scUnlike.nd (pi_list (pv 5)) (blkOk_by (N := nUnlike) (sc := defScope sUnlike) (by decide +kernel)) (fun _ _ _ _ _ => pg_name (i := 7) scUnlike.nd rfl (Or.inl rfl)) (fun _ _ _ _ _ => pts_one (pt_cmp (pc_din hu (pv 7) (pv 1)))) (fun _ _ _ _ _ => pv 7)) (pe_lst pa_nil) (nomark _)) (pss_one (ps_dput hu (pv 1) (pe_tup (pa_cons (pv 2) (pa_cons (pv 3) pa_nil))) pe_bl rfl)) pss_nil))) ?iUn))))))
      (pss_one (ps_ret (pv 1))))), ?_⟩
    case iUn =>
      rintro D σ H ⟨x4, x5, x6, x7, q, d, H0, p, ps, a, b, rfl, ⟨lw, lf, g, kvs, eq, ew, ef, eg, cv⟩, ok, z10, ha, hb, h0, U, y⟩
      have hcs : p.sg.cps.toList.length = p.sg.cps.size := Array.length_toList
      have hx3 : p.sg.length ≤ 3 := by
        have := ok.sgs
        rw [areS1] at this
        simp only [Bool.and_eq_true, decide_eq_true_eq] at this
        exact this.1.1.2
      have b1 := U.s _ _ eq
      have c1 := U.s _ _ eg
      refine ⟨_, rfl, q, _, _, V.str p.sg, rfl, rfl, SqT.of b1, atI_nat (j := 0) rfl, p.sg, rfl, fun D1 hD1 => ?_⟩
      refine lcR walk_str (fun i ys H' => ∃ bs : List Addr, ys = bs.map V.ref ∧ Pr2 H' bs ((p.sg.cps.toList.take i).map fun c => (ledL p a c, ledL p b c))) (fun i ys H H' s ⟨bs, e, h⟩ => ⟨bs, e, h.same s⟩) ⟨[], rfl, trivial⟩ (by have : p.sg.cps.size ≤ 3 := hx3; omega) hD1 (fun i H x H' h => by rw [h.1]; exact Same.refl _) (fun _ _ => trivial) (fun j x ys H4 H5 k hj sj eD hI hy k1 _ => ?_) (fun ys H7 hl s7 e7 hI => ?_)
      · obtain ⟨rfl, c', hc, rfl⟩ := hy
        obtain ⟨bs, rfl, prb⟩ := hI
        rw [← Array.getElem?_toList] at hc
        have hc1 : c' ∈ p.sg.cps.toList := List.mem_of_getElem? hc
        have dg1 := cv a ha c' hc1
        have dg2 := cv b hb c' hc1
        refine ⟨rfl, ?_⟩
        refine ⟨_, rfl, q, _, _, V.ref g, rfl, rfl, SqT.of (sj _ _ b1), atI_nat (j := 3) rfl, _, rfl, _, rfl, (by show 2 ≤ sizeLine; decide), fun ta hta => ⟨g, V.str (ledL p a c'), rfl, ?_, ?_⟩⟩
        · have := DGet.t (k := kT a c') (keep1 (sj _ _ c1) hta) (upd_same (o := .tup ((kT a c').map kV)))
          rw [dg1] at this
          exact this
        have sa : Same H5 (upd H5 ta (.tup ((kT a c').map kV))) := same_new hta
        show ∃ _, _
        generalize eHn : upd H5 ta (.tup ((kT a c').map kV)) = Hn at sa
        have eHn' : upd H5 ta (.tup [.str a, .str (sg c')]) = Hn := eHn
        rw [eHn']
        clear eHn eHn' hta
        have sb := sj.trans sa
        refine ⟨_, rfl, q, _, _, V.ref g, rfl, rfl, SqT.of (sb _ _ b1), atI_nat (j := 3) rfl, _, rfl, _, rfl, (by show 2 ≤ sizeLine; decide), fun tb htb => ⟨g, V.str (ledL p b c'), rfl, ?_, (by show 2 ≤ sizeLine; decide), fun tq htq => ?_⟩⟩
        · have := DGet.t (k := kT b c') (keep1 (sb _ _ c1) htb) (upd_same (o := .tup ((kT b c').map kV)))
          rw [dg2] at this
          exact this
        have etq := upd_same (a := tq) (H := upd Hn tb (.tup [.str b, .str (sg c')])) (o := .tup [.str (ledL p a c'), .str (ledL p b c')])
        have s8 := (sa.trans (same_new htb)).trans (same_new (o := .tup [.str (ledL p a c'), .str (ledL p b c')]) htq)
        have ntq : tq ≠ D1 := ne_of etq (s8 _ _ eD) (by intro z; cases z)
        refine k1 (.ref tq) _ s8 ⟨bs ++ [tq], by rw [List.map_append]; rfl, ?_⟩
        rw [List.take_add_one, hc, List.map_append]
        exact (prb.same (same_del s8)).app ⟨by rw [del_ne ntq]; exact etq, trivial⟩
      · obtain ⟨bs, rfl, prb⟩ := hI
        have prb := prb.same (del_same_of H7 D1)
        rw [List.length_map] at hl
        refine ⟨_, rfl, D1, rfl, ⟨_, SqL.of e7⟩, fun D2 hD2 => ?_⟩
        refine lcR (walk_listL (K := K) (a := D1) bs V.ref) (fun _ _ _ => True) (fun _ _ _ _ _ _ => trivial) trivial (by have : p.sg.cps.size ≤ 3 := hx3; omega) hD2 (yat_same _) (fun H' s' => SqL.of (s' _ _ e7)) (fun j x ys H4 H5 k hj sj eD hI hy k1 k0 => ?_) (fun ys H8 hl8 s8 e8 hI => ?_)
        · obtain ⟨rfl, hy⟩ := hy
          have hbj : bs[j]? = some bs[j] := List.getElem?_eq_getElem hj
          obtain rfl := map_get hbj hy
          generalize bs[j] = bj at hbj
          obtain ⟨g', hg, eb⟩ := prb.get hbj
          exact ⟨rfl, _, rfl, _, rfl, d, _, rfl, DGet.t (k := My.k2 g'.1 g'.2) (sj _ _ (s7 _ _ U.ed)) (sj _ _ eb), _, rfl, ite2 (fun _ => ⟨_, rfl, k1 _ _ (Same.refl _) trivial⟩) (fun _ => k0 _ (Same.refl _) trivial)⟩
        · refine ⟨by show 0 ≤ sizeLine; decide, fun l0 h0' => ⟨D2, l0, _, rfl, rfl, SqL.of (keep1 e8 h0'), SqL.of upd_same, _, rfl, ?_⟩⟩
          have U9 := U.new ((s7.trans s8).trans (same_new (o := .lst []) h0'))
          refine ite2 (fun _ => ?_) (fun _ => y _ _ _ U9)
          refine ⟨_, rfl, _, rfl, _, rfl, (by show 2 ≤ sizeLine; decide), fun t nt => ?_⟩
          have UA := U9.new (same_new (o := .tup [.str a, .str b]) nt)
          have et := upd_same (a := t) (H := upd H8 l0 (.lst [])) (o := .tup [.str a, .str b])
          obtain ⟨qs, UB⟩ := UA.put h0 ha hb
          have fw := UA.few z10
          exact ⟨d, _, rfl, DPut.t (k := My.k2 a b) UA.ed et (by unfold seenL; rw [List.length_map, sizeLine_eq]; omega), y _ _ qs UB⟩
    obtain ⟨lw, lf, g, kvs, eq, ew, ef, eg, cv⟩ := id hB
    have zm := z10
    refine fun d hd => ?_
    have U0 : Unl H (upd H d (.dT [])) d p [] := ⟨same_new hd, upd_same, .nil, fun _ m => by cases m⟩
    generalize upd H d (.dT []) = H1 at U0 ⊢
    refine ⟨_, rfl, q, _, _, V.ref lw, rfl, rfl, SqT.of (U0.s _ _ eq), atI_nat (j := 1) rfl, lw, rfl, ⟨_, SqL.of (U0.s _ _ ew)⟩, ?_⟩
    refine for_it (walk_listL (K := K) (a := lw) p.ms V.str) (fun i σ H' => ∃ x2 x3 ps, σ = [some (.ref q), some (.ref d), x2, x3, none, none, none, none] ∧ Unl H H' d p ps)
      ⟨none, none, [], rfl, U0⟩ (fun i σ H' _ h => ?_) (fun i y σ H' H'' hi h hy => ?_) (fun σ H5 h => ?_)
    · obtain ⟨_, _, _, _, U⟩ := h
      exact SqL.of (U.s _ _ ew)
    · obtain ⟨rfl, hy⟩ := hy
      obtain ⟨x2, x3, ps, rfl, U⟩ := h
      have ha : p.ms[i]? = some p.ms[i] := List.getElem?_eq_getElem hi
      obtain rfl := map_get ha hy
      generalize p.ms[i] = a at ha
      have ham := List.mem_of_getElem? ha
      refine ⟨_, rfl, q, _, _, V.ref lw, rfl, rfl, SqT.of (U.s _ _ eq), atI_nat (j := 1) rfl, lw, rfl, ⟨_, SqL.of (U.s _ _ ew)⟩, ?_⟩
      refine for_it (walk_listL (K := K) (a := lw) p.ms V.str) (fun i σ H' => ∃ x3 ps, σ = [some (.ref q), some (.ref d), some (.str a), x3, none, none, none, none] ∧ Unl H H' d p ps)
        ⟨x3, ps, rfl, U⟩ (fun i σ H' _ h => ?_) (fun i y σ H6 H7 hi h hy => ?_) (fun σ H5 h => ?_)
      · obtain ⟨_, _, _, U⟩ := h
        exact SqL.of (U.s _ _ ew)
      · obtain ⟨rfl, hy⟩ := hy
        obtain ⟨x3, ps, rfl, U⟩ := h
        have hb : p.ms[i]? = some p.ms[i] := List.getElem?_eq_getElem hi
        obtain rfl := map_get hb hy
        generalize p.ms[i] = b at hb
        have hbm := List.mem_of_getElem? hb
        refine ⟨_, rfl, _, rfl, q, _, _, V.ref lf, rfl, rfl, SqT.of (U.s _ _ eq), atI_nat (j := 2) rfl, lf, _, rfl, .inl (SqL.of (U.s _ _ ef)), rfl, flat_strs _, _, rfl, _, rfl, q, _, _, V.ref lf, rfl, rfl, SqT.of (U.s _ _ eq), atI_nat (j := 2) rfl, lf, _, rfl, .inl (SqL.of (U.s _ _ ef)), rfl, flat_strs _, rfl, _, rfl, ite2 (fun _ => ?_) (fun _ => ⟨_, _, rfl, U⟩)⟩
        refine ⟨_, rfl, _, rfl, _, rfl, (by show 2 ≤ sizeLine; decide), fun t nt => ?_⟩
        have UA := U.new (same_new (o := .tup [.str a, .str b]) nt)
        have et := upd_same (a := t) (H := H7) (o := .tup [.str a, .str b])
        obtain ⟨qs, UB⟩ := UA.put hd ham hbm
        have fw := UA.few zm
        exact ⟨d, _, rfl, DPut.t (k := My.k2 a b) UA.ed et (by unfold seenL; rw [List.length_map, sizeLine_eq]; omega), _, qs, rfl, UB⟩
      · obtain ⟨x3, ps, rfl, U⟩ := h
        exact ⟨_, _, _, rfl, U⟩
    · obtain ⟨x2, x3, ps, rfl, U⟩ := h
      refine ⟨_, rfl, q, _, _, V.ref lw, rfl, rfl, SqT.of (U.s _ _ eq), atI_nat (j := 1) rfl, lw, _, rfl, .inl (SqL.of (U.s _ _ ew)), _, rfl, (by rw [List.length_map]; omega), (by rw [List.length_map]; omega), ?_⟩
      refine for_it walk_range (fun i σ H' => ∃ x2 x3 x4 x5 ps, σ = [some (.ref q), some (.ref d), x2, x3, x4, x5, none, none] ∧ Unl H H' d p ps)
        ⟨x2, x3, none, none, ps, rfl, U⟩ (fun _ _ _ _ _ => trivial) (fun i y σ H' H'' hi h hy => ?_) (fun σ H6 h => ?_)
      · obtain ⟨rfl, rfl⟩ := hy
        obtain ⟨x2, x3, x4, x5, ps, rfl, U⟩ := h
        refine ⟨_, rfl, q, _, _, V.ref lw, rfl, rfl, SqT.of (U.s _ _ eq), atI_nat (j := 1) rfl, lw, rfl, ⟨_, SqL.of (U.s _ _ ew)⟩, ?_⟩
        refine for_it (walk_listL (K := K) (a := lw) p.ms V.str) (fun i' σ H' => ∃ x2 x3 x5 ps, σ = [some (.ref q), some (.ref d), x2, x3, some (.int (0 + (i : Int))), x5, none, none] ∧ Unl H H' d p ps)
          ⟨x2, x3, x5, ps, rfl, U⟩ (fun i σ H' _ h => ?_) (fun i' y σ H6 H7 hi h hy => ?_) (fun σ H5 h => ?_)
        · obtain ⟨_, _, _, _, _, U⟩ := h
          exact SqL.of (U.s _ _ ew)
        · obtain ⟨rfl, hy⟩ := hy
          obtain ⟨x2, x3, x5, ps, rfl, U⟩ := h
          have ha : p.ms[i']? = some p.ms[i'] := List.getElem?_eq_getElem hi
          obtain rfl := map_get ha hy
          generalize p.ms[i'] = a at ha
          have ham := List.mem_of_getElem? ha
          refine ⟨_, rfl, q, _, _, V.ref lw, rfl, rfl, SqT.of (U.s _ _ eq), atI_nat (j := 1) rfl, lw, rfl, ⟨_, SqL.of (U.s _ _ ew)⟩, ?_⟩
          refine for_it (walk_listL (K := K) (a := lw) p.ms V.str) (fun j σ H' => ∃ x3 x5 ps, σ = [some (.ref q), some (.ref d), some (.str a), x3, some (.int (0 + (i : Int))), x5, none, none] ∧ Unl H H' d p ps)
            ⟨x3, x5, ps, rfl, U⟩ (fun i σ H' _ h => ?_) (fun j y σ H8 H9 hj h hy => ?_) (fun σ H5 h => ?_)
          · obtain ⟨_, _, _, _, U⟩ := h
            exact SqL.of (U.s _ _ ew)
          · obtain ⟨rfl, hy⟩ := hy
            obtain ⟨x3, x5, ps, rfl, U⟩ := h
            have hb : p.ms[j]? = some p.ms[j] := List.getElem?_eq_getElem hj
            obtain rfl := map_get hb hy
            generalize p.ms[j] = b at hb
            have hbm := List.mem_of_getElem? hb
            exact ⟨_, _, _, _, q, d, H, p, ps, a, b, rfl, hB, ok, z10, ham, hbm, hd, U, fun y5 H' qs U' => ⟨_, _, qs, rfl, U'⟩⟩
          · obtain ⟨x3, x5, ps, rfl, U⟩ := h
            exact ⟨_, _, _, _, rfl, U⟩
        · obtain ⟨x2, x3, x5, ps, rfl, U⟩ := h
          exact ⟨_, _, _, _, _, rfl, U⟩
      · obtain ⟨x2, x3, x4, x5, ps, rfl, U⟩ := h
        exact ⟨_, rfl, kk d ps _ U.s hd U.ed U.nd U.inn⟩
end
end My
namespace L2
open PySem PySem.Spec PyProof.Rows PySem.GX
/-! dict(xs) of a list of pairs (key, value) where each key is a tuple of ints and texts -/
def mergeT (acc ps : List (List Key × V)) : List (List Key × V) := ps.foldl (fun acc p => putK acc p.1 p.2) acc
theorem mergeT_len : ∀ (ps acc : List (List Key × V)), (mergeT acc ps).length ≤ acc.length + ps.length
  | [], _ => Nat.le_refl _
  | p :: ps, acc => by
    have h1 := mergeT_len ps (putK acc p.1 p.2)
    have h2 := length_putK acc p.1 p.2
    show (mergeT (putK acc p.1 p.2) ps).length ≤ _
    rw [List.length_cons]
    omega
theorem KT.merge {H : Hp} : ∀ {kvs acc : List (List Key × V)} {xs accx : List (List Key × Addr × Value)}, KT H kvs xs → KT H acc accx → KT H (mergeT acc kvs) (storedAllH accx xs)
  | _, _, _, _, .nil, r => r
  | _, _, _, _, .cons (a := p) (b := q) h t, r => by
    have e := h.1
    have := KT.merge t (r.put p.1 h.2.1 h.2.2)
    rw [e] at this
    show KT H (mergeT (putK _ p.1 p.2) _) (storedAllH (storedH _ q.1 q.2.1 q.2.2) _)
    rw [e]
    exact this
section
variable {X : Cx}
theorem pairsT_of {pins : List (Addr × Obj)} {σ : St} {H : Hp} {s : Shared} (I : Inv X pins σ H s) : ∀ {ps : List Addr} {kvs : List (List Key × V)}, Paired (fun p kv => ∃ t, SqT X.K H p [.ref t, kv.2] ∧ H t = some (.tup (kv.1.map kV))) ps kvs →
    ∃ xs : List (List Key × Addr × Value), KT H kvs xs ∧ xs.length = ps.length ∧ ∀ (j : Nat) (q : List Key × Addr × Value), xs[j]? = some q → ∃ b, ps[j]? = some b ∧ IsTup s.heap b #[.ref q.2.1, q.2.2]
  | _, _, .nil => ⟨[], .nil, rfl, fun j q e => by simp at e⟩
  | _, _, .cons (a := p) (b := kv) h t => by
    obtain ⟨xs, r, hl, hp⟩ := pairsT_of I t
    obtain ⟨tk, hq, ht⟩ := h
    obtain ⟨its, rv, hT, _⟩ := I.tuple hq
    obtain ⟨u, y, ei, ru, ry⟩ := vals2 rv
    subst ei
    have eu : u = .ref tk := ru
    subst eu
    refine ⟨(kv.1, tk, y) :: xs, .cons ⟨rfl, ht, ry⟩ r, by rw [List.length_cons, List.length_cons, hl], fun j q e => ?_⟩
    cases j with
    | zero =>
      have e' : (kv.1, tk, y) = q := Option.some.inj e
      subst e'
      exact ⟨p, rfl, hT⟩
    | succ j =>
      obtain ⟨b, e1, e2⟩ := hp j q (by simpa using e)
      exact ⟨b, by simpa using e1, e2⟩
/-- dict(xs) of a list of pairs (key, value): later pairs win, the place is the first one's -/
theorem call_dictT (hcalm : X.calm = true) (hu : X.A.units + 2 < cLine) : CallR X (.type "dict") (fun xs H Q => ∃ (a : Addr) (ps : List Addr) (kvs : List (List Key × V)), xs = [.ref a] ∧ SqL X.K H a (ps.map V.ref) ∧ Paired (fun p kv => ∃ t, SqT X.K H p [.ref t, kv.2] ∧ H t = some (.tup (kv.1.map kV))) ps kvs ∧
    ∀ p, H p = none → Q (.ref p) (upd H p (.dT (mergeT [] kvs)))) := by
  intro pins s σ H xs us Q I r q
  obtain ⟨a, ps, kvs, ex, hq, hp, q⟩ := q
  subst ex
  obtain ⟨u, eu, rx⟩ := vals1 r
  subst eu
  cases rx
  obtain ⟨its, rv, pl, hz⟩ := I.list hq
  have ei := refs_at rv
  subst ei
  rw [List.length_map] at hz
  obtain ⟨xs, rel, hl, hpr⟩ := pairsT_of I hp
  have isk : ∀ x ∈ xs, (tupleKind (mixKind X.prog X.w)).is s.heap x.1 x.2.1 := by
    have all : ∀ {l : List (List Key × V)} {m : List (List Key × Addr × Value)}, KT H l m → ∀ x ∈ m, (tupleKind (mixKind X.prog X.w)).is s.heap x.1 x.2.1 := by
      intro l m q
      induction q with
      | nil => intro x hx; exact nomatch hx
      | @cons p q ps qs hq t ih =>
        intro x hx
        rcases List.mem_cons.mp hx with e | hx
        · subst e
          exact key_of I.hok (by rw [← hq.1]; exact hq.2.1)
        · exact ih x hx
    exact all rel
  have items : PairItems s.heap (ps.map Value.ref).toArray (fun j => ps[j]?.getD 0) (xs.map fun q => (Value.ref q.2.1, q.2.2)) := by
    refine ⟨by simp [hl], fun j k v e => ?_⟩
    rw [List.getElem?_map] at e
    cases hx : xs[j]? with
    | none => rw [hx] at e; cases e
    | some x =>
      rw [hx] at e
      have e := Option.some.inj e
      obtain ⟨b, e1, ⟨o, e2, e3, n, e4⟩⟩ := hpr j x hx
      have ek : Value.ref x.2.1 = k := congrArg Prod.fst e
      have ev : x.2.2 = v := congrArg Prod.snd e
      subst ek ev
      have eg : (fun j => ps[j]?.getD 0) j = b := by
        show ps[j]?.getD 0 = b
        rw [e1]
        rfl
      rw [eg]
      exact ⟨by simp [e1], .inl ⟨o, e2, e3, n, e4⟩⟩
  obtain ⟨o, n, ho, hc, hd, hdat⟩ := pl
  refine call_dict_pairsH (knd := tupleKind (mixKind X.prog X.w)) (ps := xs) (PairArg.list a (ps.map Value.ref).toArray (fun j => ps[j]?.getD 0) (xs.map fun q => (Value.ref q.2.1, q.2.2))) (I.ok.hd hcalm) ?_ ⟨⟨o, n, ho, hc, hd, hdat⟩, items⟩ ⟨by rw [List.length_map], fun i key v e => ?_⟩ (fun h' hk x hx => ?_) (by rw [List.length_map, hl]; exact hz) fun h' tk hd' k => ?_
  · show X.A.units + 1 + 1 < cLine
    omega
  · have e : (xs.map fun q => (Value.ref q.2.1, q.2.2))[i]? = some (key, v) := e
    rw [List.getElem?_map] at e
    cases hx : xs[i]? with
    | none => rw [hx] at e; cases e
    | some x =>
      rw [hx] at e
      have e := Option.some.inj e
      obtain ⟨k0, b0, u0⟩ := x
      cases e
      exact ⟨k0, b0, rfl, rfl⟩
  · obtain ⟨o, arr, n, h1, h2, h3, h4⟩ := isk x hx
    exact ⟨o, arr, n, hk _ _ (Nat.ne_of_lt (Heap.lt_size h1)) (fun z => nomatch z) h1, h2, h3, h4⟩
  · have hm : (s.heap.objs.size == sysModules) = false := beq_eq_false_iff_ne.mpr (Nat.ne_of_gt I.big)
    have hkl : kvs.length = ps.length := by rw [Paired.length rel, hl]
    have hlen : (mergeT [] kvs).length ≤ sizeLine := by
      refine Nat.le_trans (mergeT_len kvs []) ?_
      rw [List.length_nil, Nat.zero_add, hkl]
      exact hz
    obtain ⟨o', es, ep, g1, g2, g3, g4, _, g6⟩ := hd'
    have fr := I.hok.fresh (Nat.le_refl s.heap.objs.size)
    exact ⟨.ref s.heap.objs.size, upd H s.heap.objs.size (.dT (mergeT [] kvs)), I.laid (t' := tk) (fun b o e => k b o (fun z => nomatch z) e) (Nat.le_refl _) (show ObjOk X.prog X.w _ _ _ (.dT (mergeT [] kvs)) from ⟨hlen, hm, storedAllH [] xs, (KT.merge rel .nil).keeps fun b ys e => by rw [upd_ne (ne_of_none e fr)]; exact e, o', es, ep, g1, g2, g3, g4, g6⟩), rfl, q _ fr⟩
end
end L2
namespace My
open PySem PySem.Spec PyProof.Rows L2 PySem.GX L2H LamX
/-- numbers of pairs of moods -/
structure HsOk (p : Parts) (b : Int) (hs : List Hgt) : Prop where
  nd : (hs.map (·.1)).Nodup
  inn : ∀ z ∈ hs, z.1.1 ∈ p.ms ∧ z.1.2 ∈ p.ms ∧ 1 ≤ z.2 ∧ z.2 ≤ b
def putH (hs : List Hgt) (ab : Str × Str) (n : Int) : List Hgt := if ab ∈ hs.map (·.1) then hs.map (fun z => if z.1 = ab then (ab, n) else z) else hs ++ [(ab, n)]
theorem hs_put (hs : List Hgt) (a b : Str) (n : Int) : putK (hsD hs) (k2 a b) (.int n) = hsD (putH hs (a, b) n) := by
  unfold putH
  by_cases m : (a, b) ∈ hs.map (·.1)
  · have hh : ((hgt hs (a, b)).map V.int).isSome = true := by
      cases hg : hgt hs (a, b) with
      | none => exact absurd m (hgt_none.mp hg)
      | some n => rfl
    unfold putK
    rw [if_pos (by rw [valV_any, hs_val]; exact hh), if_pos m]
    unfold hsD
    rw [List.map_map, List.map_map]
    refine List.map_congr_left fun z _ => ?_
    show (if k2 z.1.1 z.1.2 = k2 a b then (k2 z.1.1 z.1.2, V.int n) else (k2 z.1.1 z.1.2, V.int z.2)) = (k2 (if z.1 = (a, b) then ((a, b), n) else z).1.1 (if z.1 = (a, b) then ((a, b), n) else z).1.2, V.int (if z.1 = (a, b) then ((a, b), n) else z).2)
    by_cases e : z.1 = (a, b)
    · rw [if_pos e, if_pos (by rw [e]), e]
    · rw [if_neg e, if_neg (fun h => e ?_)]
      injection h with h1 h2
      injection h2 with h2 _
      injection h1 with h1
      injection h2 with h2
      exact Prod.ext h1 h2
  · rw [if_neg m]
    exact hs_snoc m
theorem HsOk.put {p : Parts} {b : Int} {hs : List Hgt} (h : HsOk p b hs) {u v : Str} (hu : u ∈ p.ms) (hv : v ∈ p.ms) {n : Int} (h1 : 1 ≤ n) (h2 : n ≤ b + 1) : HsOk p (b + 1) (putH hs (u, v) n) := by
  unfold putH
  by_cases m : (u, v) ∈ hs.map (·.1)
  · rw [if_pos m]
    have e : (hs.map fun z => if z.1 = (u, v) then ((u, v), n) else z).map (·.1) = hs.map (·.1) := by
      rw [List.map_map]
      refine List.map_congr_left fun z _ => ?_
      show (if z.1 = (u, v) then ((u, v), n) else z).1 = z.1
      by_cases e : z.1 = (u, v)
      · rw [if_pos e, e]
      · rw [if_neg e]
    refine ⟨by rw [e]; exact h.nd, fun z hz => ?_⟩
    obtain ⟨y, hy, rfl⟩ := List.mem_map.mp hz
    obtain ⟨a1, a2, a3, a4⟩ := h.inn y hy
    by_cases e : y.1 = (u, v)
    · rw [if_pos e]
      exact ⟨hu, hv, h1, h2⟩
    · rw [if_neg e]
      exact ⟨a1, a2, a3, by omega⟩
  · rw [if_neg m]
    refine ⟨?_, fun z hz => ?_⟩
    · rw [List.map_append, List.nodup_append]
      refine ⟨h.nd, by simp, fun x hx y hy e => ?_⟩
      have hy : y = (u, v) := by simpa using hy
      exact m (hy ▸ e ▸ hx)
    · rcases List.mem_append.mp hz with hz | hz
      · obtain ⟨a1, a2, a3, a4⟩ := h.inn z hz
        exact ⟨a1, a2, a3, by omega⟩
      · rw [List.mem_singleton] at hz
        subst hz
        exact ⟨hu, hv, h1, h2⟩
theorem HsOk.mono {p : Parts} {b c : Int} {hs : List Hgt} (h : HsOk p b hs) (l : b ≤ c) : HsOk p c hs := ⟨h.nd, fun z hz => let ⟨a1, a2, a3, a4⟩ := h.inn z hz; ⟨a1, a2, a3, by omega⟩⟩
theorem HsOk.few {p : Parts} {b : Int} {hs : List Hgt} (h : HsOk p b hs) (z : p.ms.length ≤ 10) : hs.length ≤ 100 := by
  have := pairs_bound (as := p.ms) (bs := p.ms) h.nd (fun ab m => by
    obtain ⟨z, hz, rfl⟩ := List.mem_map.mp m
    obtain ⟨a1, a2, _⟩ := h.inn z hz
    exact ⟨a1, a2⟩)
  have m : p.ms.length * p.ms.length ≤ 10 * 10 := Nat.mul_le_mul z z
  rw [List.length_map] at this
  omega
theorem HsOk.le {p : Parts} {b : Int} {hs : List Hgt} (h : HsOk p b hs) (hb : 0 ≤ b) (u v : Str) : 0 ≤ hv hs u v ∧ hv hs u v ≤ b := by
  unfold hv hgt
  cases e : hs.find? fun z => decide (z.1 = (u, v)) with
  | none => exact ⟨Int.le_refl _, hb⟩
  | some z =>
    obtain ⟨_, _, a3, a4⟩ := h.inn z (List.mem_of_find?_eq_some e)
    exact ⟨by show 0 ≤ z.2; omega, a4⟩
theorem keys_seen {H : Hp} : ∀ {ps : List (Str × Str)} {bs : List Addr}, IsKeys H (seenL ps) bs → Pr2 H bs ps
  | [], _, h => by cases h; trivial
  | p :: ps, _, h => by
    cases h with
    | cons h t => exact ⟨h, keys_seen t⟩
theorem keys_hs {H : Hp} : ∀ {hs : List Hgt} {bs : List Addr}, IsKeys H (hsD hs) bs → Pr2 H bs (hs.map (·.1))
  | [], _, h => by cases h; trivial
  | p :: ps, _, h => by
    cases h with
    | cons h t => exact ⟨h, keys_hs t⟩
def spHeights : Sp := fun vs H Q _ => ∃ (q d0 l : Addr) (p : Parts) (ps : List (Str × Str)) (ws : List Str), vs = [.ref q, .ref d0, .ref l] ∧ BxF H q p p.ms ∧ PartsOk p ∧ p.ms.length ≤ 10 ∧ H d0 = some (.dT (seenL ps)) ∧ ps.length ≤ 100 ∧ (∀ ab ∈ ps, ab.1 ∈ p.ms ∧ ab.2 ∈ p.ms) ∧ H l = some (.lst (ws.map V.str)) ∧
  ∀ (d : Addr) (hs : List Hgt) (H' : Hp), Same H H' → H d = none → H' d = some (.dT (hsD hs)) → HsOk p 10000 hs → Q (.ref d) H'
/-- what is told so far, and where -/
structure Hst (H0 H : Hp) (d : Addr) (p : Parts) (b : Int) (hs : List Hgt) : Prop where
  s : Same H0 H
  ed : H d = some (.dT (hsD hs))
  ok : HsOk p b hs
/-- one turn -/
def tTurn : TS := fun D σ H => ∃ (x7 x8 x9 x10 x11 : Option V) (q d0 l lf d dI : Addr) (H0 : Hp) (p : Parts) (kI : List (List Key × V)) (as : List Addr) (ps : List (Str × Str)) (b : Int) (hs : List Hgt) (tn : V), σ = [some (.ref q), some (.ref d0), some (.ref l), some (.ref lf), some (.ref d), some (.ref dI), some tn, x7, x8, x9, x10, x11] ∧ BxF H0 q p p.ms ∧ PartsOk p ∧ p.ms.length ≤ 10 ∧ H0 d = none ∧ H dI = some (.dT kI) ∧ dI ≠ d ∧ H lf = some (.lst (as.map V.ref)) ∧ Pr2 H as ps ∧ (∀ ab ∈ ps, ab.1 ∈ p.ms ∧ ab.2 ∈ p.ms) ∧ ps.length ≤ 100 ∧ 0 ≤ b ∧ Hst H0 H d p b hs ∧
  ∀ (y3 : Addr) (y7 y8 y9 : Option V) (H' : Hp) (as' : List Addr) (ps' : List (Str × Str)) (hs' : List Hgt), (∀ c o, c ≠ d → H c = some o → H' c = some o) → H' y3 = some (.lst (as'.map V.ref)) → Pr2 H' as' ps' → (∀ ab ∈ ps', ab ∈ ps) → ps'.length ≤ ps.length → Hst H0 H' d p (b + 100) hs' → D.nx [some (.ref q), some (.ref d0), some (.ref l), some (.ref y3), some (.ref d), some (.ref dI), some tn, y7, y8, y9, x10, x11] H'
/-- one pair is looked at -/
def tHt : TS := fun D σ H => ∃ (x0 x1 x2 x3 x6 x9 x10 x11 : Option V) (q d dI e a : Addr) (H0 : Hp) (p : Parts) (kI : List (List Key × V)) (b : Int) (hs : List Hgt) (bs : List Addr) (u v : Str), x0 = some (.ref q) ∧ σ = [x0, x1, x2, x3, some (.ref d), some (.ref dI), x6, some (.ref e), some (.ref a), x9, x10, x11] ∧ BxF H0 q p p.ms ∧ PartsOk p ∧ p.ms.length ≤ 10 ∧ H0 d = none ∧ H dI = some (.dT kI) ∧ H e = some (.lst (bs.map V.ref)) ∧ bs.length ≤ 100 ∧ H a = some (.tup [.str u, .str v]) ∧ u ∈ p.ms ∧ v ∈ p.ms ∧ 0 ≤ b ∧ Hst H0 H d p b hs ∧
  (∀ (y9 : Option V) (H' : Hp) (hs' : List Hgt), (∀ c o, c ≠ d → H c = some o → H' c = some o) → Hst H0 H' d p (b + 1) hs' → D.nx [x0, x1, x2, x3, some (.ref d), some (.ref dI), x6, some (.ref e), some (.ref a), y9, x10, x11] H') ∧
  (∀ (y9 : Option V) (H' : Hp), (∀ c o, c ≠ e → H c = some o → H' c = some o) → H' e = some (.lst ((bs ++ [a]).map V.ref)) → D.nx [x0, x1, x2, x3, some (.ref d), some (.ref dI), x6, some (.ref e), some (.ref a), y9, x10, x11] H')
section
variable {P : Program} {w : World} {K : PySem.W.Frag} {mg : Str → Option Value} {base : Heap}
abbrev nHts : List Str := ["_law_box_here", "_law_unlike_here", "_law_some", "_law_left", "_law_found", "_law_inside", "_law_turn", "_law_later", "_law_pair", "_law_goals", "_law_letter", "_law_aim_here"]
theorem scHts : FnScope nHts ["_law_box_here", "_law_unlike_here", "_law_some"] (defScope sHeights) := ⟨rfl, rfl, rfl, by decide +kernel, rfl, by decide +kernel, by decide +kernel⟩
theorem ok_heights {f : Addr} {fd : FuncData} (F : Fun K "_law_heights" "_law_heights" sHeights f fd) (hL : mg "len" = none) (hR : mg "range" = none) (hLi : mg "list" = none) (hDi : mg "dict" = none) (hMx : mg "max" = none) : FnOk P w K mg base CX0 1 f fd ["_law_box_here", "_law_unlike_here", "_law_some"] spHeights := by
  refine F.ok scHts (fun vs H Q E h => ?_) (fun cdv A outer s H vs Q E hr h => ?_)
  · obtain ⟨q, d0, l, p, ps, ws, rfl, _⟩ := h
    rfl
  · obtain ⟨q, d0, l, p, ps, ws, rfl, hB, ok, z10, ed0, z100, hin, el, kk⟩ := h
    have hu := hu_of hr
    have hu0 : (A.deeper (envOfC "_law_heights" (defScope sHeights) s.heap.objs.size f cdv)).units < cLine := by omega
    have hu2 : (A.deeper (envOfC "_law_heights" (defScope sHeights) s.heap.objs.size f cdv)).units + 2 < cLine := by have := hr.units; omega
    refine ⟨_, pss_cons (ps_asg (pe_tup (pa_cons (pe_lc (own := [("_law_pair", 8)]) (g := gName 8) rfl scHts.nd (pi_list (pe_callTy (call_list_dT rfl) (by rfl) hLi (by decide +kernel) (pa_cons (pv 1) pa_nil))) (blkOk_by (N := nHts) (sc := defScope sHeights) (by decide +kernel)) (fun _ _ _ _ _ => pg_name (i := 8) scHts.nd rfl (Or.inl rfl)) (fun _ _ _ _ _ => pts_one (PW.pt (pw_and (pt_cmpR (op_in_seqK (K := K) rfl) (pe_ix (ix_tupK (K := K) rfl) (pv 8) pe_int (fun _ _ => rfl)) (pv 2) (by rfl)) (pw_and1 (pt_cmpR (op_in_seqK (K := K) rfl) (pe_ix (ix_tupK (K := K) rfl) (pv 8) pe_int (fun _ _ => rfl)) (pv 2) (by rfl)))))) (fun _ _ _ _ _ => pv 8)) (pa_cons pe_dnewT pa_nil))) (pg_tup rfl (pgs_cons (pg_name (i := 3) scHts.nd rfl (Or.inl rfl)) (pgs_cons (pg_name (i := 4) scHts.nd rfl (Or.inr rfl)) pgs_nil))))
      (pss_cons (ps_set (i := 5) scHts.nd rfl (Or.inr rfl) (pe_callTy (call_dictT rfl hu2) (by rfl) hDi (by decide +kernel) (pa_cons (pe_lc (own := [("_law_pair", 8)]) (g := gName 8) (tt := tYes) rfl scHts.nd (pi_list (pv 3)) (blkOk_by (N := nHts) (sc := defScope sHeights) (by decide +kernel)) (fun _ _ _ _ _ => pg_name (i := 8) scHts.nd rfl (Or.inl rfl)) (fun _ _ _ _ _ => pts_nil) (fun _ _ _ _ _ => pe_tup (pa_cons (pv 8) (pa_cons pe_bl pa_nil)))) pa_nil)))
      (pss_cons (ps_for PassesOwn.never rfl (pi_range1 rfl hR (pa_cons (pe_callB call_len_seq (by rfl) hL PySem.boot_len (pa_cons (pv 3) pa_nil)) pa_nil)) (pg_name (i := 6) scHts.nd rfl (Or.inl rfl))
        (PSs_impL (t' := tTurn) (pss_cons (ps_set (i := 7) scHts.nd rfl (Or.inl rfl) (pe_lst pa_nil))
        (pss_cons (ps_for PassesOwn.never rfl (pi_list (pv 3)) (pg_name (i := 8) scHts.nd rfl (Or.inr rfl))
        (PSs_impL (t' := tHt) (pss_cons (ps_setLc (i := 9) (own := [("_law_letter", 10)]) (g := gName 10) (tt := tYes) (by rfl) scHts.nd rfl rfl (sw_true rfl rfl rfl (by decide +kernel)) (pi_str (pe_ix ix_tup (pv 0) pe_int (fun _ _ => rfl))) (blkOk_by (N := nHts) (sc := defScope sHeights) (by decide +kernel)) (fun _ _ _ _ _ => pg_name (i := 10) scHts.nd rfl (Or.inl rfl)) (fun _ _ _ _ _ => pts_nil) (fun _ _ _ _ _ => pe_tup (pa_cons (pe_dget hu (pe_ix (ix_tupK (K := K) rfl) (pv 0) pe_int (fun _ _ => rfl)) (pe_tup (pa_cons (pe_ix (ix_tupK (K := K) rfl) (pv 8) pe_int (fun _ _ => rfl)) (pa_cons (pv 10) pa_nil))) (fun _ _ => rfl)) (pa_cons (pe_dget hu (pe_ix (ix_tupK (K := K) rfl) (pv 0) pe_int (fun _ _ => rfl)) (pe_tup (pa_cons (pe_ix (ix_tupK (K := K) rfl) (pv 8) pe_int (fun _ _ => rfl)) (pa_cons (pv 10) pa_nil))) (fun _ _ => rfl)) pa_nil))))
          (pss_cons (ps_setLc (i := 9) (own := [("_law_aim_here", 11)]) (g := gName 11) (by rfl) scHts.nd rfl rfl (sw_true rfl rfl rfl (by decide +kernel)) (pi_list (pv 9)) (blkOk_by (N := nHts) (sc := defScope sHeights) (by decide +kernel)) (fun _ _ _ _ _ => pg_name (i := 11) scHts.nd rfl (Or.inl rfl)) (fun _ _ _ _ _ => pts_one (pt_cmp (pc_din hu (pv 11) (pv 5)))) (fun _ _ _ _ _ => pv 11))
          (pss_one (ps_if (pt_cmpR (op_eqNil hu0) (pe_lc (own := [("_law_aim_here", 11)]) (g := gName 11) rfl scHts.nd (pi_list (pv 9)) (blkOk_by (N := nHts) (sc := defScope sHeights) (by decide +kernel)) (fun _ _ _ _ _ => pg_name (i := 11) scHts.nd rfl (Or.inl rfl)) (fun _ _ _ _ _ => pts_one (pt_cmp (pc_dnotin hu (pv 11) (pv 4)))) (fun _ _ _ _ _ => pv 11)) (pe_lst pa_nil) (nomark _))
            (pss_one (ps_dput hu (pv 4) (pv 8) (pe_op op_add pe_int (pe_callB (cr_max rfl) (by rfl) hMx (by decide +kernel) (pa_cons (pe_op op_cat (pe_lst (pa_cons pe_int pa_nil)) (pe_lc (own := [("_law_aim_here", 11)]) (g := gName 11) (tt := tYes) rfl scHts.nd (pi_list (pv 9)) (blkOk_by (N := nHts) (sc := defScope sHeights) (by decide +kernel)) (fun _ _ _ _ _ => pg_name (i := 11) scHts.nd rfl (Or.inl rfl)) (fun _ _ _ _ _ => pts_nil) (fun _ _ _ _ _ => pe_dget hu (pv 4) (pv 11) (fun _ _ => rfl)))) pa_nil))) rfl))
            (pss_one (ps_expr (pe_bm PySem.F.plainAttrs_list PySem.F.slot_list_append PySem.F.type_list_append mt_append (pv 7) (pa_cons (pv 8) pa_nil)))))))) ?iHt))
        (pss_one (ps_set (i := 3) scHts.nd rfl (Or.inl rfl) (pv 7))))) ?iTurn))
      (pss_one (ps_ret (pv 4))))), ?_⟩
    case iHt =>
      rintro D σ H ⟨x0, x1, x2, x3, x6, x9, x10, x11, q, d, dI, e, a, H0, p, kI, b, hs, bs, u, v, rfl, rfl, ⟨lw, lf, g, kvs, eq, ew, ef, eg, cv⟩, ok, z10, hd0, eI, ee, lb, ea, hum, hvm, b0, U, yF, yL⟩
      have hx3 : p.sg.cps.size ≤ 3 := by
        have := ok.sgs
        rw [areS1] at this
        simp only [Bool.and_eq_true, decide_eq_true_eq] at this
        exact this.1.1.2
      have b1 := U.s _ _ eq
      have c1 := U.s _ _ eg
      refine ⟨_, rfl, q, _, _, V.str p.sg, rfl, rfl, SqT.of b1, atI_nat (j := 0) rfl, p.sg, rfl, fun D1 hD1 => ?_⟩
      refine lcR walk_str (fun i ys H' => ∃ (bs : List Addr) (gs : List (Str × Str)), ys = bs.map V.ref ∧ Pr2 H' bs gs) (fun i ys H H' s ⟨bs, gs, e, h⟩ => ⟨bs, gs, e, h.same s⟩) ⟨[], [], rfl, trivial⟩ (by omega) hD1 (fun i H x H' h => by rw [h.1]; exact Same.refl _) (fun _ _ => trivial) (fun j x ys H4 H5 k hj sj eD hI hy k1 _ => ?_) (fun ys H7 hl s7 e7 hI => ?_)
      · obtain ⟨rfl, c', hc, rfl⟩ := hy
        obtain ⟨bs', gs, rfl, prb⟩ := hI
        rw [← Array.getElem?_toList] at hc
        have hc1 : c' ∈ p.sg.cps.toList := List.mem_of_getElem? hc
        have dg1 := cv u hum c' hc1
        have dg2 := cv v hvm c' hc1
        refine ⟨rfl, ?_⟩
        refine ⟨_, rfl, q, _, _, V.ref g, rfl, rfl, SqT.of (sj _ _ b1), atI_nat (j := 3) rfl, _, rfl, a, _, _, V.str u, rfl, rfl, SqT.of (sj _ _ ea), atI_nat (j := 0) rfl, _, rfl, (by show 2 ≤ sizeLine; decide), fun ta hta => ⟨g, V.str (ledL p u c'), rfl, ?_, ?_⟩⟩
        · have := DGet.t (k := kT u c') (keep1 (sj _ _ c1) hta) (upd_same (o := .tup ((kT u c').map kV)))
          rw [dg1] at this
          exact this
        have sa : Same H5 (upd H5 ta (.tup ((kT u c').map kV))) := same_new hta
        show ∃ _, _
        generalize eHn : upd H5 ta (.tup ((kT u c').map kV)) = Hn at sa
        have eHn' : upd H5 ta (.tup [.str u, .str (sg c')]) = Hn := eHn
        rw [eHn']
        clear eHn eHn' hta
        have sb := sj.trans sa
        refine ⟨_, rfl, q, _, _, V.ref g, rfl, rfl, SqT.of (sb _ _ b1), atI_nat (j := 3) rfl, _, rfl, a, _, _, V.str v, rfl, rfl, SqT.of (sb _ _ ea), atI_nat (j := 1) rfl, _, rfl, (by show 2 ≤ sizeLine; decide), fun tb htb => ⟨g, V.str (ledL p v c'), rfl, ?_, (by show 2 ≤ sizeLine; decide), fun tq htq => ?_⟩⟩
        · have := DGet.t (k := kT v c') (keep1 (sb _ _ c1) htb) (upd_same (o := .tup ((kT v c').map kV)))
          rw [dg2] at this
          exact this
        have etq := upd_same (a := tq) (H := upd Hn tb (.tup [.str v, .str (sg c')])) (o := .tup [.str (ledL p u c'), .str (ledL p v c')])
        have s8 := (sa.trans (same_new htb)).trans (same_new (o := .tup [.str (ledL p u c'), .str (ledL p v c')]) htq)
        have ntq : tq ≠ D1 := ne_of etq (s8 _ _ eD) (by intro z; cases z)
        exact k1 (.ref tq) _ s8 ⟨bs' ++ [tq], gs ++ [(ledL p u c', ledL p v c')], by rw [List.map_append]; rfl, (prb.same (same_del s8)).app ⟨by rw [del_ne ntq]; exact etq, trivial⟩⟩
      obtain ⟨bs1, gs1, rfl, prb⟩ := hI
      have prb := prb.same (del_same_of H7 D1)
      rw [List.length_map] at hl
      refine ⟨_, rfl, D1, rfl, ⟨_, SqL.of e7⟩, fun D2 hD2 => ?_⟩
      refine lcR (walk_listL (K := K) (a := D1) bs1 V.ref) (fun i ys H' => ∃ (cs : List Addr) (gs : List (Str × Str)), ys = cs.map V.ref ∧ Pr2 H' cs gs) (fun i ys H H' s ⟨bs, gs, e, h⟩ => ⟨bs, gs, e, h.same s⟩) ⟨[], [], rfl, trivial⟩ (by omega) hD2 (yat_same _) (fun H' s' => SqL.of (s' _ _ e7)) (fun j x ys H4 H5 k hj sj eD hI hy k1 k0 => ?_) (fun ys H8 hl8 s8 e8 hI => ?_)
      · obtain ⟨rfl, hy⟩ := hy
        obtain ⟨cs, gs, rfl, prc⟩ := hI
        have hbj : bs1[j]? = some bs1[j] := List.getElem?_eq_getElem hj
        obtain rfl := map_get hbj hy
        generalize bs1[j] = bj at hbj
        obtain ⟨g', hg, eb⟩ := prb.get hbj
        have eb5 := sj _ _ eb
        have nb : bj ≠ D2 := ne_of eb5 eD (by intro z; cases z)
        refine ⟨rfl, _, rfl, _, rfl, dI, _, rfl, DGet.t (k := My.k2 g'.1 g'.2) (sj _ _ (s7 _ _ eI)) eb5, _, rfl, ite2 (fun _ => ⟨_, rfl, k1 _ _ (Same.refl _) ⟨cs ++ [bj], gs ++ [g'], by rw [List.map_append]; rfl, prc.app ⟨by rw [del_ne nb]; exact eb5, trivial⟩⟩⟩) (fun _ => k0 _ (Same.refl _) ⟨cs, gs, rfl, prc⟩)⟩
      obtain ⟨cs, gs, rfl, prc⟩ := hI
      have prc := prc.same (del_same_of H8 D2)
      rw [List.length_map] at hl8
      have sA := s7.trans s8
      have UA : Hst H0 H8 d p b hs := ⟨U.s.trans sA, sA _ _ U.ed, U.ok⟩
      have ea := sA _ _ ea
      have ee := sA _ _ ee
      clear prb e7 hD1 hD2 eI b1 c1 eq ew ef eg cv
      refine ⟨_, rfl, D2, rfl, ⟨_, SqL.of e8⟩, fun D3 hD3 => ?_⟩
      refine lcR (walk_listL (K := K) (a := D2) cs V.ref) (fun i ys _ => ys.isEmpty = true ↔ ∀ g ∈ gs.take i, g ∈ hs.map (fun z : Hgt => z.1)) (fun _ _ _ _ _ h => h) ⟨(fun _ _ m => by rw [List.take_zero] at m; cases m), fun _ => rfl⟩ (by omega) hD3 (yat_same _) (fun H' s' => SqL.of (s' _ _ e8)) (fun j x ys H4 H5 k hj sj eD hI hy k1 k0 => ?_) (fun ys H9 hl9 s9 e9 hI => ?_)
      · obtain ⟨rfl, hy⟩ := hy
        have hbj : cs[j]? = some cs[j] := List.getElem?_eq_getElem hj
        obtain rfl := map_get hbj hy
        generalize cs[j] = bj at hbj
        obtain ⟨g', hg, eb⟩ := prc.get hbj
        have tk : gs.take (j + 1) = gs.take j ++ [g'] := by rw [List.take_add_one, hg]; rfl
        refine ⟨rfl, _, rfl, _, rfl, d, _, rfl, DGet.t (k := My.k2 g'.1 g'.2) (sj _ _ UA.ed) (sj _ _ eb), _, rfl, ?_⟩
        rw [hs_val]
        by_cases m : g' ∈ hs.map (·.1)
        · rw [hgt_some m]
          refine iteF (k0 _ (Same.refl _) ?_)
          rw [hI, tk]
          refine ⟨fun h b' m' => ?_, fun h b' m' => h b' (List.mem_append_left _ m')⟩
          rcases List.mem_append.mp m' with m' | m'
          · exact h b' m'
          · rw [List.mem_singleton] at m'
            rw [m']
            exact m
        · rw [hgt_none.mpr m]
          refine iteT ⟨_, rfl, k1 _ _ (Same.refl _) ?_⟩
          rw [tk]
          refine ⟨fun h => ?_, fun h => absurd (h g' (by simp)) m⟩
          cases ys <;> cases h
      refine ⟨by show 0 ≤ sizeLine; decide, fun l0 h0' => ⟨D3, l0, _, rfl, rfl, SqL.of (keep1 e9 h0'), SqL.of upd_same, _, rfl, ?_⟩⟩
      have eif : ∀ b : Bool, (if false = true then !b else b) = b := fun _ => rfl
      rw [eif]
      have sB := s9.trans (same_new (o := .lst []) h0')
      have e8 := sB _ _ e8
      have prc := prc.same sB
      have UB : Hst H0 (upd H9 l0 (.lst [])) d p b hs := ⟨UA.s.trans sB, sB _ _ UA.ed, UA.ok⟩
      have ea := sB _ _ ea
      have ee := sB _ _ ee
      have sC := sA.trans sB
      clear e9 hD3
      generalize upd H9 l0 (.lst []) = HB at *
      have hlc := prc.len
      rw [hlc, List.take_length] at hI
      refine ite2 (fun c => ?_) (fun c => ?_)
      · have hin := hI.mp c
        refine ⟨(by show 1 ≤ sizeLine; decide), fun l1 h1 => ?_⟩
        have s1 := same_new (o := .lst [.int 0]) h1
        have e1 := upd_same (a := l1) (H := HB) (o := .lst [.int 0])
        generalize upd HB l1 (.lst [.int 0]) = HC at s1 e1 ⊢
        refine ⟨_, rfl, D2, rfl, ⟨_, SqL.of (s1 _ _ e8)⟩, fun D4 hD4 => ?_⟩
        refine lcR (walk_listL (K := K) (a := D2) cs V.ref) (fun i ys _ => ys = (gs.take i).map fun g => V.int (hv hs g.1 g.2)) (fun _ _ _ _ _ h => h) rfl (by omega) hD4 (yat_same _) (fun H' s' => SqL.of (s' _ _ (s1 _ _ e8))) (fun j x ys H4 H5 k hj sj eD hI hy k1 k0 => ?_) (fun ys HD hlD sD eD hI => ?_)
        · obtain ⟨rfl, hy⟩ := hy
          have hbj : cs[j]? = some cs[j] := List.getElem?_eq_getElem hj
          obtain rfl := map_get hbj hy
          generalize cs[j] = bj at hbj
          obtain ⟨g', hg, eb⟩ := prc.get hbj
          have tk : gs.take (j + 1) = gs.take j ++ [g'] := by rw [List.take_add_one, hg]; rfl
          have dg := DGet.t (k := My.k2 g'.1 g'.2) (sj _ _ (s1 _ _ UB.ed)) (sj _ _ (s1 _ _ eb))
          rw [hs_val, hgt_some (hin g' (List.mem_of_getElem? hg))] at dg
          exact ⟨rfl, _, rfl, _, rfl, d, V.int (hv hs g'.1 g'.2), rfl, dg, k1 _ _ (Same.refl _) (by rw [hI, tk, List.map_append]; rfl)⟩
        rw [hlc, List.take_length] at hI
        subst hI
        refine ⟨l1, D4, _, _, rfl, rfl, sD _ _ e1, eD, by rw [List.length_map] at hlD ⊢; rw [sizeLine_eq]; show 1 + _ ≤ _; omega, fun l5 h5 => ?_⟩
        refine ⟨l5, 0 :: gs.map fun g => hv hs g.1 g.2, rfl, SqL.of (by rw [upd_same, List.map_cons, List.map_map]; rfl), by simp, fun m hm hmax => ?_⟩
        have hm2 : 0 ≤ m ∧ m ≤ b := by
          refine ⟨hmax 0 (by simp), ?_⟩
          rcases List.mem_cons.mp hm with rfl | hm
          · exact b0
          · obtain ⟨g', _, rfl⟩ := List.mem_map.mp hm
            exact (U.ok.le b0 g'.1 g'.2).2
        have sE := (s1.trans sD).trans (same_new (o := .lst ([.int 0] ++ gs.map fun g => V.int (hv hs g.1 g.2))) h5)
        have few := U.ok.few z10
        refine ⟨_, _, rfl, rfl, _, rfl, _, rfl, d, _, rfl, DPut.t (k := My.k2 u v) (sE _ _ UB.ed) (sE _ _ ea) (by unfold hsD; rw [List.length_map, sizeLine_eq]; omega), ?_⟩
        rw [hs_put]
        refine yF _ _ (putH hs (u, v) (1 + m)) (fun c o n e => by rw [upd_ne n]; exact sE _ _ (sC _ _ e)) ⟨fun c o e => by rw [upd_ne (ne_of_none e hd0)]; exact sE _ _ (UB.s _ _ e), upd_same, U.ok.put hum hvm (by omega) (by omega)⟩
      · refine ⟨_, rfl, .inl ⟨rfl, _, SqL.of ee⟩, _, rfl, e, _, _, rfl, rfl, ee, by rw [List.length_map, sizeLine_eq]; omega, ?_⟩
        exact yL _ _ (fun c o n e => by rw [upd_ne n]; exact sC _ _ e) (by rw [upd_same, List.map_append]; rfl)
    case iTurn =>
      rintro D σ H ⟨x7, x8, x9, x10, x11, q, d0, l, lf, d, dI, H0, p, kI, as, ps, b, hs, tn, rfl, hB, ok, z10, hd0, eI, nId, elf, pr, hin, z100, b0, U, y⟩
      refine ⟨by show 0 ≤ sizeLine; decide, fun e he => ?_⟩
      have s1 := same_new (o := .lst []) he
      have ee := upd_same (a := e) (H := H) (o := .lst [])
      have fe : ∀ c o, H c = some o → c ≠ e := fun c o h => ne_of_none h he
      generalize upd H e (.lst []) = H1 at s1 ee ⊢
      have nde : d ≠ e := fe _ _ U.ed
      have nIe : dI ≠ e := fe _ _ eI
      have nle : lf ≠ e := fe _ _ elf
      have nld : lf ≠ d := ne_of elf U.ed (by intro z; cases z)
      have h0e : ∀ c o, H0 c = some o → c ≠ e := fun c o h => fe c o (U.s c o h)
      refine ⟨_, rfl, lf, rfl, ⟨_, SqL.of (s1 _ _ elf)⟩, ?_⟩
      refine for_it (walk_listL (K := K) (a := lf) as V.ref) (fun i σ H' => ∃ (x8 x9 : Option V) (bs : List Addr) (qs : List (Str × Str)) (hs' : List Hgt), σ = [some (.ref q), some (.ref d0), some (.ref l), some (.ref lf), some (.ref d), some (.ref dI), some tn, some (.ref e), x8, x9, x10, x11] ∧ (∀ c o, c ≠ d → c ≠ e → H1 c = some o → H' c = some o) ∧ H' e = some (.lst (bs.map V.ref)) ∧ Pr2 H' bs qs ∧ (∀ ab ∈ qs, ab ∈ ps) ∧ qs.length ≤ i ∧ Hst H0 H' d p (b + (i : Int)) hs')
        ⟨x8, x9, [], [], hs, rfl, fun _ _ _ _ h => h, ee, trivial, (fun _ m => by cases m), Nat.le_refl _, ⟨U.s.trans s1, s1 _ _ U.ed, U.ok.mono (by omega)⟩⟩ (fun i σ H' _ h => ?_) (fun i z σ H' H'' hi h hy => ?_) (fun σ H5 h => ?_)
      · obtain ⟨_, _, _, _, _, _, ks, _⟩ := h
        exact SqL.of (ks _ _ nld nle (s1 _ _ elf))
      · obtain ⟨rfl, hy⟩ := hy
        obtain ⟨x8, x9, bs, qs, hs', rfl, ks, ee', prq, sub, lq, U'⟩ := h
        have ha : as[i]? = some as[i] := List.getElem?_eq_getElem hi
        obtain rfl := map_get ha hy
        generalize as[i] = a at ha
        obtain ⟨uv, hp, ea⟩ := pr.get ha
        obtain ⟨u, v⟩ := uv
        have hm := hin (u, v) (List.mem_of_getElem? hp)
        have nad : a ≠ d := ne_of ea U.ed (by intro z; cases z)
        have nae : a ≠ e := fe _ _ ea
        have ea' := ks _ _ nad nae (s1 _ _ ea)
        have hlp := pr.len
        have hlq := prq.len
        refine ⟨_, _, _, _, _, _, _, _, q, d, dI, e, a, H0, p, kI, b + (i : Int), hs', bs, u, v, rfl, rfl, hB, ok, z10, hd0, ks _ _ nId nIe (s1 _ _ eI), ee', by omega, ea', hm.1, hm.2, by omega, U', fun y9 H7 hs7 k7 U7 => ?_, fun y9 H7 k7 e7 => ?_⟩
        · refine ⟨_, _, bs, qs, hs7, rfl, fun c o n1 n2 h => k7 _ _ n1 (ks _ _ n1 n2 h), k7 _ _ nde.symm ee', prq.keep fun c u v h => k7 _ _ (ne_of h U'.ed (by intro z; cases z)) h, sub, by omega, ?_⟩
          have : b + ((i + 1 : Nat) : Int) = b + (i : Int) + 1 := by omega
          rw [this]
          exact U7
        · refine ⟨_, _, bs ++ [a], qs ++ [(u, v)], hs', rfl, fun c o n1 n2 h => k7 _ _ n2 (ks _ _ n1 n2 h), e7, ?_, ?_, by rw [List.length_append]; show _ + 1 ≤ _; omega, ?_⟩
          · exact (prq.keep fun c u v h => k7 _ _ (ne_of h ee' (by intro z; cases z)) h).app ⟨k7 _ _ nae ea', trivial⟩
          · intro ab m
            rcases List.mem_append.mp m with m | m
            · exact sub ab m
            · rw [List.mem_singleton] at m
              rw [m]
              exact List.mem_of_getElem? hp
          · exact ⟨fun c o h => k7 _ _ (h0e c o h) (U'.s _ _ h), k7 _ _ nde U'.ed, U'.ok.mono (by omega)⟩
      · obtain ⟨x8, x9, bs, qs, hs', rfl, ks, ee', prq, sub, lq, U'⟩ := h
        have hlp := pr.len
        exact ⟨_, rfl, y e _ _ _ H5 bs qs hs' (fun c o n h => ks _ _ n (fe c o h) (s1 _ _ h)) ee' prq sub (by omega) ⟨U'.s, U'.ed, U'.ok.mono (by omega)⟩⟩
    refine ⟨_, rfl, d0, _, rfl, .inl ed0, fun lk bs nk ik => ⟨lk, rfl, ⟨_, SqL.of upd_same⟩, fun D1 hD1 => ?_⟩⟩
    have prk := (keys_seen ik).same (same_new (o := .lst (bs.map V.ref)) nk)
    have sk := same_new (o := .lst (bs.map V.ref)) nk
    have ek := upd_same (a := lk) (H := H) (o := .lst (bs.map V.ref))
    generalize upd H lk (.lst (bs.map V.ref)) = H1 at prk sk ek hD1 ⊢
    have hlk := prk.len
    refine lcR (walk_listL (K := K) (a := lk) bs V.ref) (fun i ys H' => ∃ (cs : List Addr) (gs : List (Str × Str)), ys = cs.map V.ref ∧ Pr2 H' cs gs ∧ gs.length ≤ i ∧ ∀ g ∈ gs, g ∈ ps) (fun i ys H H' s ⟨bs, gs, e, h, r⟩ => ⟨bs, gs, e, h.same s, r⟩) ⟨[], [], rfl, trivial, Nat.le_refl _, fun _ m => by cases m⟩ (by omega) hD1 (yat_same _) (fun H' s' => SqL.of (s' _ _ ek)) (fun j x ys H4 H5 k hj sj eD hI hy k1 k0 => ?_) (fun ys H8 hl8 s8 e8 hI => ?_)
    · obtain ⟨rfl, hy⟩ := hy
      obtain ⟨cs, gs, rfl, prc, lg, sub⟩ := hI
      have hbj : bs[j]? = some bs[j] := List.getElem?_eq_getElem hj
      obtain rfl := map_get hbj hy
      generalize bs[j] = bj at hbj
      obtain ⟨g', hg, eb⟩ := prk.get hbj
      have eb5 := sj _ _ eb
      have el5 := sj _ _ (sk _ _ el)
      have nb : bj ≠ D1 := ne_of eb5 eD (by intro z; cases z)
      have yes := k1 _ _ (Same.refl _) ⟨cs ++ [bj], gs ++ [g'], by rw [List.map_append]; rfl, prc.app ⟨by rw [del_ne nb]; exact eb5, trivial⟩, by rw [List.length_append]; show _ + 1 ≤ _; omega, fun g m => by
        rcases List.mem_append.mp m with m | m
        · exact sub g m
        · rw [List.mem_singleton] at m
          rw [m]
          exact List.mem_of_getElem? hg⟩
      have no := k0 _ (Same.refl _) ⟨cs, gs, rfl, prc, by omega, sub⟩
      refine ⟨rfl, _, rfl, bj, _, _, V.str g'.1, rfl, rfl, SqT.of eb5, atI_nat (j := 0) rfl, _, rfl, l, _, rfl, .inl (SqL.of el5), rfl, flat_strs _, _, rfl, ite2 (fun _ => ?_) (fun _ => iteF no)⟩
      exact ⟨_, rfl, bj, _, _, V.str g'.2, rfl, rfl, SqT.of eb5, atI_nat (j := 1) rfl, _, rfl, l, _, rfl, .inl (SqL.of el5), rfl, flat_strs _, _, rfl, ite2 (fun _ => ⟨_, rfl, yes⟩) (fun _ => no)⟩
    obtain ⟨cs, gs, rfl, prc, lg, sub⟩ := hI
    have prc := prc.same (del_same_of H8 D1)
    have sA := sk.trans s8
    clear prk ek hD1 nk ik
    refine fun d hd => ⟨by show 2 ≤ sizeLine; decide, fun tp ntp => ⟨tp, _, rfl, SqT.of upd_same, rfl, _, _, rfl, _, _, rfl, rfl, ?_⟩⟩
    have sd := (same_new (o := .dT []) hd).trans (same_new (o := .tup [.ref D1, .ref d]) ntp)
    have sB := sA.trans sd
    have hd0 : H d = none := by
      cases h0 : H d with
      | none => rfl
      | some o => rw [sA _ _ h0] at hd; cases hd
    have U0 : Hst H (upd (upd H8 d (.dT [])) tp (.tup [.ref D1, .ref d])) d p 0 [] := ⟨sB, keep1 (o := .tup [.ref D1, .ref d]) upd_same ntp, ⟨.nil, fun _ m => by cases m⟩⟩
    have e8 := sd _ _ e8
    have prc := prc.same sd
    generalize upd (upd H8 d (.dT [])) tp (.tup [.ref D1, .ref d]) = H9 at U0 e8 prc ⊢
    clear sd sB hd
    have hlc := prc.len
    refine ⟨_, rfl, D1, rfl, ⟨_, SqL.of e8⟩, fun D2 hD2 => ?_⟩
    refine lcR (walk_listL (K := K) (a := D1) cs V.ref) (fun i ys H' => ∃ ts : List Addr, ys = ts.map V.ref ∧ Paired (fun t (kv : List Key × V) => ∃ u, H' t = some (.tup [.ref u, kv.2]) ∧ H' u = some (.tup (kv.1.map kV))) ts (seenL (gs.take i))) (fun i ys H H' s ⟨ts, e, h⟩ => ⟨ts, e, Paired.mapP h fun _ _ ⟨u, a, b⟩ => ⟨u, s _ _ a, s _ _ b⟩⟩) ⟨[], rfl, .nil⟩ (by omega) hD2 (yat_same _) (fun H' s' => SqL.of (s' _ _ e8)) (fun j x ys H4 H5 k hj sj eD hI hy k1 k0 => ?_) (fun ys H7 hl7 s7 e7 hI => ?_)
    · obtain ⟨rfl, hy⟩ := hy
      obtain ⟨ts, rfl, prt⟩ := hI
      have hbj : cs[j]? = some cs[j] := List.getElem?_eq_getElem hj
      obtain rfl := map_get hbj hy
      generalize cs[j] = bj at hbj
      obtain ⟨g', hg, eb⟩ := prc.get hbj
      refine ⟨rfl, _, rfl, by show 2 ≤ sizeLine; decide, fun t nt => ?_⟩
      have st := same_new (o := .tup [.ref bj, .bl true]) nt
      have et := upd_same (a := t) (H := H5) (o := .tup [.ref bj, .bl true])
      have ntD : t ≠ D2 := (ne_of_none eD nt).symm
      have nb : bj ≠ D2 := ne_of (sj _ _ eb) eD (by intro z; cases z)
      refine k1 (.ref t) _ st ⟨ts ++ [t], by rw [List.map_append]; rfl, ?_⟩
      rw [List.take_add_one, hg]
      have e1 : seenL (gs.take j ++ (some g').toList) = seenL (gs.take j) ++ [(My.k2 g'.1 g'.2, V.bl true)] := by unfold seenL; rw [List.map_append]; rfl
      rw [e1]
      refine Paired.snoc (Paired.mapP prt fun _ _ ⟨u, a, b⟩ => ⟨u, same_del st _ _ a, same_del st _ _ b⟩) ⟨bj, by rw [del_ne ntD]; exact et, ?_⟩
      rw [del_ne nb]
      exact st _ _ (sj _ _ eb)
    obtain ⟨ts, rfl, prt⟩ := hI
    rw [hlc, List.take_length] at prt
    refine ⟨D2, ts, seenL gs, rfl, SqL.of e7, Paired.mapP prt fun _ _ ⟨u, a, b⟩ => ⟨u, SqT.of (del_same_of H7 D2 _ _ a), del_same_of H7 D2 _ _ b⟩, fun dI hdI => ?_⟩
    have sI := s7.trans (same_new (o := .dT (mergeT [] (seenL gs))) hdI)
    have eI := upd_same (a := dI) (H := H7) (o := .dT (mergeT [] (seenL gs)))
    have U1 : Hst H (upd H7 dI (.dT (mergeT [] (seenL gs)))) d p 0 [] := ⟨U0.s.trans sI, sI _ _ U0.ed, U0.ok⟩
    have nId : dI ≠ d := (ne_of_none (s7 _ _ U0.ed) hdI).symm
    have e8 := sI _ _ e8
    have prc := prc.same sI
    generalize mergeT [] (seenL gs) = kI at eI U1 e8 prc ⊢
    generalize upd H7 dI (.dT kI) = HA at eI U1 e8 prc ⊢
    clear prt e7 hD2 hdI sI s7 U0
    refine ⟨_, rfl, D1, _, rfl, .inl (SqL.of e8), _, rfl, by rw [List.length_map]; omega, by rw [List.length_map]; omega, ?_⟩
    have nDd : D1 ≠ d := ne_of e8 U1.ed (by intro z; cases z)
    refine for_it walk_range (fun i σ H' => ∃ (x6 x7 x8 x9 : Option V) (y3 : Addr) (as : List Addr) (qs : List (Str × Str)) (hs' : List Hgt), σ = [some (.ref q), some (.ref d0), some (.ref l), some (.ref y3), some (.ref d), some (.ref dI), x6, x7, x8, x9, none, none] ∧ (∀ c o, c ≠ d → HA c = some o → H' c = some o) ∧ H' y3 = some (.lst (as.map V.ref)) ∧ Pr2 H' as qs ∧ (∀ ab ∈ qs, ab ∈ gs) ∧ qs.length ≤ gs.length ∧ Hst H H' d p (100 * (i : Int)) hs')
      ⟨none, none, none, none, D1, cs, gs, [], rfl, fun _ _ _ h => h, e8, prc, fun _ m => m, Nat.le_refl _, ⟨U1.s, U1.ed, U1.ok.mono (by omega)⟩⟩ (fun _ _ _ _ _ => trivial) (fun i y σ H' H'' hi h hy => ?_) (fun σ H5 h => ?_)
    · obtain ⟨rfl, rfl⟩ := hy
      obtain ⟨x6, x7, x8, x9, y3, as, qs, hs', rfl, ks, e3, prq, sb, lq, U'⟩ := h
      refine ⟨_, _, _, _, _, q, d0, l, y3, d, dI, H, p, kI, as, qs, 100 * (i : Int), hs', _, rfl, hB, ok, z10, hd0, ks _ _ nId eI, nId, e3, prq, fun ab m => hin ab (sub ab (sb ab m)), by omega, by omega, U', fun y3' y7 y8 y9 H' as' ps' hs'' k7 e7 pr7 sb7 l7 U7 => ?_⟩
      refine ⟨_, _, _, _, y3', as', ps', hs'', rfl, fun c o n h => k7 _ _ n (ks _ _ n h), e7, pr7, fun ab m => sb ab (sb7 ab m), by omega, ?_⟩
      have : 100 * ((i + 1 : Nat) : Int) = 100 * (i : Int) + 100 := by omega
      rw [this]
      exact U7
    · obtain ⟨x6, x7, x8, x9, y3, as, qs, hs', rfl, ks, e3, prq, sb, lq, U'⟩ := h
      refine ⟨_, rfl, kk d hs' _ U'.s hd0 U'.ed (U'.ok.mono ?_)⟩
      rw [List.length_map] at *
      omega
end
end My
namespace My
open PySem PySem.Spec PyProof.Rows L2 PySem.GX L2H LamX
theorem refs_no3 (as : List Addr) (a b c : Int) : HO.lst (as.map V.ref) ≠ .lst [.int a, .int b, .int c] := fun z => by
  injection z with z
  cases as with
  | nil => cases z
  | cons w t => injection z with z _; cases z
/-- triples: two moods and a number -/
def Tr3 (H : Hp) : List Addr → List Hgt → Prop
  | [], [] => True
  | a :: as, z :: zs => H a = some (.tup [.str z.1.1, .str z.1.2, .int z.2]) ∧ Tr3 H as zs
  | _, _ => False
theorem Tr3.keep {H H' : Hp} (s : ∀ b u v n, H b = some (.tup [.str u, .str v, .int n]) → H' b = some (.tup [.str u, .str v, .int n])) : ∀ {as : List Addr} {zs : List Hgt}, Tr3 H as zs → Tr3 H' as zs
  | [], [], _ => trivial
  | _ :: _, _ :: _, h => ⟨s _ _ _ _ h.1, Tr3.keep s h.2⟩
  | [], _ :: _, h => h
  | _ :: _, [], h => h
theorem Tr3.same {H H' : Hp} (s : Same H H') {as : List Addr} {zs : List Hgt} (h : Tr3 H as zs) : Tr3 H' as zs := h.keep fun b _ _ _ e => s b _ e
theorem Tr3.sb {H H' : Hp} {p : Addr} {as : List Addr} {zs : List Hgt} (h : Tr3 H as zs) (w : Wl H p) (s : Sb p H H') : Tr3 H' as zs := h.keep fun b _ _ _ e => s b _ (w.ne e fun _ _ _ z => by cases z) e
theorem Tr3.len {H : Hp} : ∀ {as : List Addr} {zs : List Hgt}, Tr3 H as zs → as.length = zs.length
  | [], [], _ => rfl
  | _ :: _, _ :: _, h => by rw [List.length_cons, List.length_cons, Tr3.len h.2]
  | [], _ :: _, h => h.elim
  | _ :: _, [], h => h.elim
theorem Tr3.app {H : Hp} : ∀ {as bs : List Addr} {zs ys : List Hgt}, Tr3 H as zs → Tr3 H bs ys → Tr3 H (as ++ bs) (zs ++ ys)
  | [], _, [], _, _, g => g
  | _ :: _, _, _ :: _, _, h, g => ⟨h.1, Tr3.app h.2 g⟩
  | [], _, _ :: _, _, h, _ => h.elim
  | _ :: _, _, [], _, h, _ => h.elim
theorem Tr3.get {H : Hp} : ∀ {as : List Addr} {zs : List Hgt} {i : Nat} {a : Addr}, Tr3 H as zs → as[i]? = some a → ∃ z, zs[i]? = some z ∧ H a = some (.tup [.str z.1.1, .str z.1.2, .int z.2])
  | [], _, _, _, _, e => by cases e
  | _ :: _, [], _, _, h, _ => h.elim
  | _ :: _, z :: _, 0, _, h, e => ⟨z, rfl, (Option.some.inj e) ▸ h.1⟩
  | _ :: as, _ :: zs, i + 1, a, h, e => Tr3.get (as := as) (zs := zs) (i := i) h.2 e
theorem Tr3.drop {H : Hp} : ∀ {as : List Addr} {zs : List Hgt} (n : Nat), Tr3 H as zs → Tr3 H (as.drop n) (zs.drop n)
  | _, _, 0, h => h
  | [], [], _ + 1, _ => trivial
  | _ :: _, _ :: _, n + 1, h => Tr3.drop n h.2
  | [], _ :: _, _ + 1, h => h.elim
  | _ :: _, [], _ + 1, h => h.elim
theorem pap_pr {H : Hp} {c : Addr} {as : List Addr} {ps : List (Str × Str)} (e : H c = some (.tup (as.map V.ref))) (h : Pr2 H as ps) (l : as.length ≤ 1000) : Pap H (.ref c) (some (ps.map twP)) := by
  have hl := h.len
  refine .inl ⟨c, _, _, rfl, rfl, e, by rw [List.length_map, List.length_map, hl], by rw [List.length_map]; exact l, fun i x it a b => ?_⟩
  rw [List.getElem?_map] at a b
  cases ha : as[i]? with
  | none => rw [ha] at a; cases a
  | some t =>
    rw [ha] at a
    obtain rfl := Option.some.inj a
    obtain ⟨p, hp, et⟩ := h.get ha
    rw [hp] at b
    obtain rfl := Option.some.inj b
    exact .two et (.tx _) (.tx _)
theorem paph_tr {H : Hp} {c : Addr} {as : List Addr} {hs : List Hgt} (e : H c = some (.tup (as.map V.ref))) (h : Tr3 H as hs) (l : as.length ≤ 1000) : PapH H (.ref c) (some (hs.map triT)) := by
  have hl := h.len
  refine .inl ⟨c, _, _, rfl, rfl, e, by rw [List.length_map, List.length_map, hl], by rw [List.length_map]; exact l, fun i x it a b => ?_⟩
  rw [List.getElem?_map] at a b
  cases ha : as[i]? with
  | none => rw [ha] at a; cases a
  | some t =>
    rw [ha] at a
    obtain rfl := Option.some.inj a
    obtain ⟨p, hp, et⟩ := h.get ha
    rw [hp] at b
    obtain rfl := Option.some.inj b
    exact .tri et (.tx _) (.tx _) (.int _)
/-- the pairs that were found -/
def PrsOk (p1 p2 : Parts) (ps : List (Str × Str)) : Prop := ps.Nodup ∧ ∀ ab ∈ ps, ab.1 ∈ p1.ms ∧ ab.2 ∈ p2.ms
structure Clo (H1 H : Hp) (l : Addr) (p1 p2 : Parts) (as : List Addr) (ps : List (Str × Str)) : Prop where
  ks : ∀ b o, b ≠ l → H1 b = some o → H b = some o
  el : H l = some (.lst (as.map V.ref))
  pr : Pr2 H as ps
  ok : PrsOk p1 p2 ps
section
variable {H1 H : Hp} {l : Addr} {p1 p2 : Parts} {as : List Addr} {ps : List (Str × Str)}
theorem Clo.new (h : Clo H1 H l p1 p2 as ps) {H' : Hp} (s : Same H H') : Clo H1 H' l p1 p2 as ps := ⟨fun b o n e => s _ _ (h.ks b o n e), s _ _ h.el, h.pr.same s, h.ok⟩
theorem Clo.few (h : Clo H1 H l p1 p2 as ps) (z1 : p1.ms.length ≤ 10) (z2 : p2.ms.length ≤ 10) : as.length ≤ 100 ∧ ps.length = as.length := by
  have := pairs_bound h.ok.1 h.ok.2
  have m : p1.ms.length * p2.ms.length ≤ 10 * 10 := Nat.mul_le_mul z1 z2
  have := h.pr.len
  omega
theorem Clo.put (h : Clo H1 H l p1 p2 as ps) {a b : Str} (hn : (a, b) ∉ ps) (ha : a ∈ p1.ms) (hb : b ∈ p2.ms) {t : Addr} (et : H t = some (.tup [.str a, .str b])) : Clo H1 (upd H l (.lst ((as ++ [t]).map V.ref))) l p1 p2 (as ++ [t]) (ps ++ [(a, b)]) := by
  have ks : ∀ b u v, H b = some (.tup [.str u, .str v]) → upd H l (.lst ((as ++ [t]).map V.ref)) b = some (.tup [.str u, .str v]) := fun b u v e => by
    rw [upd_ne (ne_of e h.el (by intro z; cases z))]
    exact e
  refine ⟨fun b o n e => by rw [upd_ne n]; exact h.ks b o n e, upd_same, (h.pr.keep ks).app ⟨ks _ _ _ et, trivial⟩, ?_, fun ab m => ?_⟩
  · rw [List.nodup_append]
    refine ⟨h.ok.1, by simp, fun x hx y hy e => ?_⟩
    rw [List.mem_singleton] at hy
    exact hn (hy ▸ e ▸ hx)
  · rcases List.mem_append.mp m with m | m
    · exact h.ok.2 ab m
    · rw [List.mem_singleton] at m
      subst m
      exact ⟨ha, hb⟩
end
def spSlip3 : Sp := fun vs H Q _ => ∃ (p q1 q2 : Addr) (p1 p2 : Parts) (sort : Str), vs = [.ref p, .ref q1, .ref q2, .str sort] ∧ Wl H p ∧ BxF H q1 p1 p1.ms ∧ BxF H q2 p2 p2.ms ∧ p1.sg = p2.sg ∧ PartsOk p1 ∧ PartsOk p2 ∧ p1.ms.length ≤ 10 ∧ p2.ms.length ≤ 10 ∧
  (sort = "within" → ∀ (v : V) (o : Option (List Itm)) (H' : Hp), Pap H' v o → Sb p H H' → Wl H' p → Q v H') ∧ (sort ≠ "within" → ∀ (v : V) (o : Option (List Itt)) (H' : Hp), PapH H' v o → Sb p H H' → Wl H' p → Q v H')
/-- pairs that come, from the first -/
def tWith : TS := fun D σ H => ∃ (p q1 q2 : Addr) (p1 p2 : Parts) (x3 : Option V), σ = [some (.ref p), some (.ref q1), some (.ref q2), x3, none, none, none, none, none, none, none, none, none] ∧ Wl H p ∧ BxF H q1 p1 p1.ms ∧ BxF H q2 p2 p2.ms ∧ p1.sg = p2.sg ∧ PartsOk p1 ∧ PartsOk p2 ∧ p1.ms.length ≤ 10 ∧ p2.ms.length ≤ 10 ∧ ∀ (v : V) (o : Option (List Itm)) (H' : Hp), Pap H' v o → Sb p H H' → Wl H' p → D.rt v H'
/-- some moods -/
def tSome3 : TE := fun σ H Q => ∃ (q : Addr) (p : Parts) (sort : Str), σ[1]? = some (some (.ref q)) ∧ σ[3]? = some (some (.str sort)) ∧ BxF H q p p.ms ∧ PartsOk p ∧ ∀ (l : Addr) (ws : List Str) (H' : Hp), Same H H' → H' l = some (.lst (ws.map V.str)) → Q (.ref l) H'
/-- some heights made less -/
def tLow3 : TS := fun D σ H => ∃ (p th : Addr) (x1 x2 x3 x4 x5 x6 x7 x8 x9 : Option V) (as : List Addr) (hs : List Hgt), σ = [some (.ref p), x1, x2, x3, x4, x5, x6, x7, x8, x9, some (.ref th), none, none] ∧ Wl H p ∧ H th = some (.lst (as.map V.ref)) ∧ Tr3 H as hs ∧ hs.length ≤ 100 ∧
  ∀ (th' : Addr) (as' : List Addr) (hs' : List Hgt) (y11 : Option V) (H' : Hp), H' th' = some (.lst (as'.map V.ref)) → Tr3 H' as' hs' → hs'.length ≤ 100 → Sb p H H' → Wl H' p → D.nx [some (.ref p), x1, x2, x3, x4, x5, x6, x7, x8, x9, some (.ref th'), y11, none] H'
section
variable {P : Program} {w : World} {K : PySem.W.Frag} {mg : Str → Option Value} {base : Heap}
abbrev nSlip3 : List Str := ["_law_purse_here", "_law_box_here", "_law_mate", "_law_sort", "_law_found", "_law_at", "_law_letter", "_law_pair", "_law_some", "_law_heights_here", "_law_things", "_law_low", "_law_thing"]
theorem scSlip3 : FnScope nSlip3 ["_law_purse_here", "_law_box_here", "_law_mate", "_law_sort"] (defScope sSlip) := ⟨rfl, rfl, rfl, by decide +kernel, rfl, by decide +kernel, by decide +kernel⟩
def atS3 (σ : List (Option V)) : Nat := match σ[5]? with
  | some (some (V.int n)) => 200 - n.toNat
  | _ => 0
theorem ok_slip3 {f : Addr} {fd : FuncData} (F : Fun K "_law_slip" "_law_slip" sSlip f fd) (hP : Hv P w K mg base 1 "_law_pick" ["_law_purse_here", "_law_size"] spPk) (hRe : Hv P w K mg base 1 "_law_reached" ["_law_box_here", "_law_begin"] spReachedB) (hLw : Hv P w K mg base 2 "_law_live" ["_law_box_here"] spLiveW) (hUn : Hv P w K mg base 1 "_law_unlike" ["_law_box_here"] spUnlike)
    (hHt : Hv P w K mg base 1 "_law_heights" ["_law_box_here", "_law_unlike_here", "_law_some"] spHeights) (hL : mg "len" = none) (hLi : mg "list" = none) (hTu : mg "tuple" = none) (hMx : mg "max" = none) : FnOk P w K mg base CX0 3 f fd ["_law_purse_here", "_law_box_here", "_law_mate", "_law_sort"] spSlip3 := by
  refine F.ok scSlip3 (fun vs H Q E h => ?_) (fun cdv A outer s H vs Q E hr h => ?_)
  · obtain ⟨p, q1, q2, p1, p2, sort, rfl, _⟩ := h
    rfl
  · obtain ⟨p, q1, q2, p1, p2, sort, rfl, hW, hB1, hB2, hsg, ok1, ok2, z1, z2, kW, kH⟩ := h
    have hu := hu_of hr
    have hu2 : (A.deeper (envOfC "_law_slip" (defScope sSlip) s.heap.objs.size f cdv)).units + 2 < cLine := by have := hr.units; omega
    have hr1 : Room 1 (A.deeper (envOfC "_law_slip" (defScope sSlip) s.heap.objs.size f cdv)) := hr.mono (by decide)
    have hr2 : Room 2 (A.deeper (envOfC "_law_slip" (defScope sSlip) s.heap.objs.size f cdv)) := hr.mono (by decide)
    refine ⟨_, pss_cons (ps_if (pt_cmpR op_eq (pv 3) pe_str (nomark _))
        (PSs_impL (t' := tWith) (pss_cons (ps_par (i := 4) (j := 5) rfl scSlip3.nd rfl rfl (by decide) rfl rfl (pa_cons (pe_lst (pa_cons (pe_tup (pa_cons (pe_ix ix_list (pe_ix ix_tup (pv 1) pe_int (fun _ _ => rfl)) pe_int (fun _ _ => rfl)) (pa_cons (pe_ix ix_list (pe_ix ix_tup (pv 2) pe_int (fun _ _ => rfl)) pe_int (fun _ _ => rfl)) pa_nil))) pa_nil)) (pa_cons pe_int pa_nil)) rfl)
        (pss_cons (ps_while PassesOwn.never (pt_cmpR op_lt (pv 5) (pe_callB call_len_seq (by rfl) hL PySem.boot_len (pa_cons (pv 4) pa_nil)) (nomark _))
          (pss_cons (ps_for PassesOwn.never rfl (pi_str (pe_ix ix_tup (pv 1) pe_int (fun _ _ => rfl))) (pg_name (i := 6) scSlip3.nd rfl (Or.inl rfl))
            (pss_cons (ps_set (i := 7) scSlip3.nd rfl (Or.inl rfl) (pe_tup (pa_cons (pe_dget hu (pe_ix ix_tup (pv 1) pe_int (fun _ _ => rfl)) (pe_tup (pa_cons (pe_ix ix_tup (pe_ix ix_list (pv 4) (pv 5) (fun _ _ => rfl)) pe_int (fun _ _ => rfl)) (pa_cons (pv 6) pa_nil))) (fun _ _ => rfl)) (pa_cons (pe_dget hu (pe_ix ix_tup (pv 2) pe_int (fun _ _ => rfl)) (pe_tup (pa_cons (pe_ix ix_tup (pe_ix ix_list (pv 4) (pv 5) (fun _ _ => rfl)) pe_int (fun _ _ => rfl)) (pa_cons (pv 6) pa_nil))) (fun _ _ => rfl)) pa_nil))))
            (pss_one (ps_if (pt_cmpR (op_notInP hu2) (pv 7) (pv 4) (by rfl)) (pss_one (ps_expr (pe_bm PySem.F.plainAttrs_list PySem.F.slot_list_append PySem.F.type_list_append mt_append (pv 4) (pa_cons (pv 7) pa_nil)))) pss_nil))))
          (pss_one (ps_set (i := 5) scSlip3.nd rfl (Or.inl rfl) (pe_op op_add (pv 5) pe_int)))))
        (pss_one (ps_ret (pe_callTy call_tuple_of (by rfl) hTu (by decide +kernel) (pa_cons (pe_slice sl_list (pv 4) (po_some (pe_op op_fdiv (pe_cl hP hr1 rfl pass0 (pa_cons (pv 0) (pa_cons pe_int pa_nil))) pe_int)) po_none) pa_nil)))))) ?iWith) pss_nil)
      (pss_cons (ps_set (i := 8) scSlip3.nd rfl (Or.inl rfl) (PE_imp (t' := tSome3) (pe_ifExp (pt_cmpR op_eq (pv 3) pe_str (nomark _)) (pe_cl hRe hr1 rfl pass0 (pa_cons (pv 1) (pa_cons (pe_ix ix_list (pe_ix ix_tup (pv 1) pe_int (fun _ _ => rfl)) pe_int (fun _ _ => rfl)) pa_nil))) (pe_cl hLw hr2 rfl pass0 (pa_cons (pv 1) pa_nil))) ?iSome))
      (pss_cons (ps_set (i := 9) scSlip3.nd rfl (Or.inr rfl) (pe_cl hHt hr1 rfl pass0 (pa_cons (pv 1) (pa_cons (pe_cl hUn hr1 rfl pass0 (pa_cons (pv 1) pa_nil)) (pa_cons (pv 8) pa_nil)))))
      (pss_cons (ps_setLc (i := 10) (own := [("_law_pair", 7)]) (g := gName 7) (tt := tYes) (by rfl) scSlip3.nd rfl rfl (sw_true rfl rfl rfl (by decide +kernel)) (pi_list (pe_callTy (call_list_dT rfl) (by rfl) hLi (by decide +kernel) (pa_cons (pv 9) pa_nil))) (blkOk_by (N := nSlip3) (sc := defScope sSlip) (by decide +kernel)) (fun _ _ _ _ _ => pg_name (i := 7) scSlip3.nd rfl (Or.inl rfl)) (fun _ _ _ _ _ => pts_nil) (fun _ _ _ _ _ => pe_tup (pa_cons (pe_ix (ix_tupK (K := K) rfl) (pv 7) pe_int (fun _ _ => rfl)) (pa_cons (pe_ix (ix_tupK (K := K) rfl) (pv 7) pe_int (fun _ _ => rfl)) (pa_cons (pe_dget hu (pv 9) (pv 7) (fun _ _ => rfl)) pa_nil)))))
      (pss_cons (PS_imp (t' := tLow3) (ps_if (pt_cmpR op_eq (pe_cl hP hr1 rfl pass0 (pa_cons (pv 0) (pa_cons pe_int pa_nil))) pe_int (nomark _)) (pss_cons (ps_set (i := 11) scSlip3.nd rfl (Or.inr rfl) (pe_cl hP hr1 rfl pass0 (pa_cons (pv 0) (pa_cons pe_int pa_nil))))
        (pss_one (ps_setLc (i := 10) (own := [("_law_thing", 12)]) (g := gName 12) (tt := tYes) (by rfl) scSlip3.nd rfl rfl (sw_true rfl rfl rfl (by decide +kernel)) (pi_list (pv 10)) (blkOk_by (N := nSlip3) (sc := defScope sSlip) (by decide +kernel)) (fun _ _ _ _ _ => pg_name (i := 12) scSlip3.nd rfl (Or.inl rfl)) (fun _ _ _ _ _ => pts_nil) (fun _ _ _ _ _ => pe_tup (pa_cons (pe_ix (ix_tupK (K := K) rfl) (pv 12) pe_int (fun _ _ => rfl)) (pa_cons (pe_ix (ix_tupK (K := K) rfl) (pv 12) pe_int (fun _ _ => rfl)) (pa_cons (pe_callB (call_max2 rfl) (by rfl) hMx (by decide +kernel) (pa_cons pe_int (pa_cons (pe_op op_sub (pe_ix (ix_tupK (K := K) rfl) (pv 12) pe_int (fun _ _ => rfl)) (pv 11)) pa_nil))) pa_nil))))))) pss_nil) ?iLow)
      (pss_one (ps_ret (pe_callTy call_tuple_of (by rfl) hTu (by decide +kernel) (pa_cons (pe_slice sl_list (pv 10) (po_some (pe_op op_fdiv (pe_cl hP hr1 rfl pass0 (pa_cons (pv 0) (pa_cons pe_int pa_nil))) pe_int)) po_none) pa_nil)))))))), ?_⟩
    case iWith =>
      rintro D σ H ⟨p, q1, q2, p1, p2, x3, rfl, hW, ⟨lw1, lf1, g1, kvs1, eq1, ew1, ef1, eg1, cv1⟩, ⟨lw2, lf2, g2, kvs2, eq2, ew2, ef2, eg2, cv2⟩, esg, ok1, ok2, z1, z2, y⟩
      obtain ⟨ms1, ex1⟩ := ok1.first
      obtain ⟨ms2, ex2⟩ := ok2.first
      have e1f : (p1.ms.map V.str)[0]? = some (.str (firstL p1)) := by rw [ex1]; rfl
      have e2f : (p2.ms.map V.str)[0]? = some (.str (firstL p2)) := by rw [ex2]; rfl
      have f1m : firstL p1 ∈ p1.ms := by rw [ex1]; simp
      have f2m : firstL p2 ∈ p2.ms := by rw [ex2]; simp
      clear ex1 ex2
      refine ⟨_, rfl, q1, _, _, V.ref lw1, rfl, rfl, SqT.of eq1, atI_nat (j := 1) rfl, lw1, _, _, V.str (firstL p1), rfl, rfl, SqL.of ew1, atI_nat (j := 0) e1f, _, rfl, q2, _, _, V.ref lw2, rfl, rfl, SqT.of eq2, atI_nat (j := 1) rfl, lw2, _, _, V.str (firstL p2), rfl, rfl, SqL.of ew2, atI_nat (j := 0) e2f, by show 2 ≤ sizeLine; decide, fun t0 nt0 => ⟨by show 1 ≤ sizeLine; decide, fun l hl => ⟨_, _, rfl, ?_⟩⟩⟩
      have st := same_new (o := .tup [.str (firstL p1), .str (firstL p2)]) nt0
      have sH := st.trans (same_new (o := .lst [.ref t0]) hl)
      have et0 := keep1 (o := .lst [.ref t0]) (upd_same (a := t0) (H := H) (o := .tup [.str (firstL p1), .str (firstL p2)])) hl
      have el := upd_same (a := l) (H := upd H t0 (.tup [.str (firstL p1), .str (firstL p2)])) (o := .lst [.ref t0])
      have fl : ∀ b o, H b = some o → b ≠ l := fun b o e => ne_of_none (st _ _ e) hl
      generalize upd (upd H t0 (.tup [.str (firstL p1), .str (firstL p2)])) l (.lst [.ref t0]) = H1 at sH et0 el ⊢
      clear st hl nt0
      have b0 : Clo H1 H1 l p1 p2 [t0] [(firstL p1, firstL p2)] := ⟨fun _ _ _ e => e, el, ⟨et0, trivial⟩, by simp, fun ab m => by rw [List.mem_singleton] at m; subst m; exact ⟨f1m, f2m⟩⟩
      have q1' := sH _ _ eq1
      have q2' := sH _ _ eq2
      have g1' := sH _ _ eg1
      have g2' := sH _ _ eg2
      have nq1 := fl _ _ eq1
      have nq2 := fl _ _ eq2
      have ng1 := fl _ _ eg1
      have ng2 := fl _ _ eg2
      refine while_by (fun σ H' => ∃ (n : Nat) (v5 v6 : Option V) (as' : List Addr) (ps' : List (Str × Str)), σ = [some (.ref p), some (.ref q1), some (.ref q2), x3, some (.ref l), some (.int (n : Int)), v5, v6, none, none, none, none, none] ∧ Clo H1 H' l p1 p2 as' ps' ∧ n ≤ as'.length) (fun σ _ => atS3 σ)
        ⟨0, none, none, [t0], [(firstL p1, firstL p2)], rfl, b0, Nat.zero_le _⟩ (fun σ H2 h => ?_) ?mono
      case mono =>
        rintro σ H Q Q' m ⟨a1, a2, a3, a4, a5, a6, a7, a8, a9, a10, a11, a12, a13, a14, q⟩
        exact ⟨a1, a2, a3, a4, a5, a6, a7, a8, a9, a10, a11, a12, a13, a14, m _ _ q⟩
      obtain ⟨n, v5, v6, as1, ps1, rfl, S2, hn⟩ := h
      refine ⟨_, rfl, _, rfl, l, _, rfl, .inl (SqL.of S2.el), _, _, rfl, rfl, _, rfl, ite2 (fun c => ?_) (fun c => ?_)⟩
      · have c1 : (n : Int) < ((as1.map V.ref).length : Int) := of_decide_eq_true c
        rw [List.length_map] at c1
        have hlt : n < as1.length := by omega
        clear c c1
        refine ⟨_, rfl, q1, _, _, V.str p1.sg, rfl, rfl, SqT.of (S2.ks _ _ nq1 q1'), atI_nat (j := 0) rfl, p1.sg, rfl, ?_⟩
        refine for_it walk_str (fun i σ H' => ∃ (v5 v6 : Option V) (as' : List Addr) (ps' : List (Str × Str)), σ = [some (.ref p), some (.ref q1), some (.ref q2), x3, some (.ref l), some (.int (n : Int)), v5, v6, none, none, none, none, none] ∧ Clo H1 H' l p1 p2 as' ps' ∧ as1.length ≤ as'.length)
          ⟨v5, v6, as1, ps1, rfl, S2, Nat.le_refl _⟩ (fun _ _ _ _ _ => trivial) (fun i y σ H4 H5 hi h hy => ?_) (fun σ H4 h => ?_)
        · obtain ⟨rfl, c, hc, rfl⟩ := hy
          obtain ⟨v5, v6, as', ps', rfl, S5, hla⟩ := h
          rw [← Array.getElem?_toList] at hc
          have hc1 : c ∈ p1.sg.cps.toList := List.mem_of_getElem? hc
          have hc2 : c ∈ p2.sg.cps.toList := by rw [← esg]; exact hc1
          have hnn : n < as'.length := by omega
          have ha : as'[n]? = some as'[n] := List.getElem?_eq_getElem hnn
          generalize as'[n] = a at ha
          obtain ⟨uv, hp, ea⟩ := S5.pr.get ha
          have hm := S5.ok.2 uv (List.mem_of_getElem? hp)
          obtain ⟨u, v⟩ := uv
          have dg1 := cv1 u hm.1 c hc1
          have dg2 := cv2 v hm.2 c hc2
          have ga := (ok1.goal hm.1 hc1).1
          have gb := (ok2.goal hm.2 hc2).1
          generalize ledL p1 u c = a1 at dg1 ga
          generalize ledL p2 v c = a2 at dg2 gb
          have hai : (as'.map V.ref)[n]? = some (.ref a) := by rw [List.getElem?_map, ha]; rfl
          refine ⟨_, rfl, q1, _, _, V.ref g1, rfl, rfl, SqT.of (S5.ks _ _ nq1 q1'), atI_nat (j := 3) rfl, _, rfl, _, rfl, l, _, _, V.ref a, rfl, rfl, SqL.of S5.el, atI_nat hai, a, _, _, V.str u, rfl, rfl, SqT.of ea, atI_nat (j := 0) rfl, _, rfl, (by show 2 ≤ sizeLine; decide), fun ta hta => ⟨g1, V.str a1, rfl, ?_, ?_⟩⟩
          · have := DGet.t (k := kT u c) (keep1 (S5.ks _ _ ng1 g1') hta) (upd_same (o := .tup ((kT u c).map kV)))
            rw [dg1] at this
            exact this
          have S6 := S5.new (same_new (o := .tup ((kT u c).map kV)) hta)
          have ea := keep1 (o := .tup ((kT u c).map kV)) ea hta
          show ∃ _, _
          generalize eH6 : upd H5 ta (.tup ((kT u c).map kV)) = H6 at S6 ea
          have eH6' : upd H5 ta (.tup [.str u, .str (sg c)]) = H6 := eH6
          rw [eH6']
          clear eH6 eH6' hta
          refine ⟨_, rfl, q2, _, _, V.ref g2, rfl, rfl, SqT.of (S6.ks _ _ nq2 q2'), atI_nat (j := 3) rfl, _, rfl, _, rfl, l, _, _, V.ref a, rfl, rfl, SqL.of S6.el, atI_nat hai, a, _, _, V.str v, rfl, rfl, SqT.of ea, atI_nat (j := 1) rfl, _, rfl, (by show 2 ≤ sizeLine; decide), fun tb htb => ⟨g2, V.str a2, rfl, ?_, (by show 2 ≤ sizeLine; decide), fun tq htq => ?_⟩⟩
          · have := DGet.t (k := kT v c) (keep1 (S6.ks _ _ ng2 g2') htb) (upd_same (o := .tup ((kT v c).map kV)))
            rw [dg2] at this
            exact this
          have S7 := (S6.new (same_new htb)).new (same_new (o := .tup [.str a1, .str a2]) htq)
          have etq := upd_same (a := tq) (H := upd H6 tb (.tup [.str v, .str (sg c)])) (o := .tup [.str a1, .str a2])
          generalize upd (upd H6 tb (.tup [.str v, .str (sg c)])) tq (.tup [.str a1, .str a2]) = H7 at S7 etq ⊢
          clear htb htq S6 S5
          have fw := S7.few z1 z2
          refine ⟨_, rfl, _, rfl, tq, l, .str a1, .str a2, .str a1, .str a2, as', ps', rfl, rfl, SqT.of etq, .fl (.str a1), .fl (.str a2), .inl (SqL.of S7.el), S7.pr, _, rfl, ?_⟩
          rw [any_pair, Bool.true_xor]
          by_cases hm2 : (a1, a2) ∈ ps'
          · rw [decide_eq_true hm2]
            exact iteF ⟨_, _, _, _, rfl, S7, hla⟩
          · rw [decide_eq_false hm2]
            refine iteT ?_
            refine ⟨_, rfl, .inl ⟨rfl, _, SqL.of S7.el⟩, _, rfl, l, _, _, rfl, rfl, S7.el, ?_, ?_⟩
            · rw [List.length_map, sizeLine_eq]
              omega
            · have S8 := S7.put hm2 ga gb etq
              rw [List.map_append] at S8
              exact ⟨_, _, as' ++ [tq], ps' ++ [(a1, a2)], rfl, S8, by rw [List.length_append]; omega⟩
        · obtain ⟨v5, v6, as', ps', rfl, S5, hla⟩ := h
          have fw := S2.few z1 z2
          refine ⟨_, rfl, _, _, rfl, rfl, ⟨n + 1, _, _, as', ps', by rw [show ((n + 1 : Nat) : Int) = (n : Int) + 1 by omega]; rfl, S5, by omega⟩, ?_⟩
          show 200 - ((n : Int) + 1).toNat < 200 - (n : Int).toNat
          omega
      · have fw := S2.few z1 z2
        have npl : p ≠ l := by
          obtain ⟨_, _, _, _, _, e⟩ := id hW
          exact fl _ _ e
        have hW2 : Wl H2 p := by
          obtain ⟨w0, w1, w2, a, b, e⟩ := id hW
          exact ⟨w0, w1, w2, a, b, S2.ks _ _ npl (sH _ _ e)⟩
        refine ⟨_, rfl, _, rfl, p, 4, rfl, hW2, by decide, by decide, fun d H3 d0 d1 s3 hW3 => ?_⟩
        obtain ⟨j, rfl⟩ := Int.eq_ofNat_of_zero_le d0
        have el3 := s3 _ _ npl.symm S2.el
        have pr3 : Pr2 H3 as1 ps1 := S2.pr.keep fun b u v e => s3 _ _ (hW2.ne e fun _ _ _ z => by cases z) e
        refine ⟨_, _, rfl, rfl, ⟨by decide, by decide⟩, _, rfl, l, _, rfl, SqL.of el3, fun a1 n1 => ?_⟩
        rw [show ((j : Int) / 3) = ((j / 3 : Nat) : Int) by omega, cut_fromV _ _ (by omega), ← List.map_drop]
        have s4 := same_new (o := .lst ((as1.drop (j / 3)).map V.ref)) n1
        have e4 := upd_same (a := a1) (H := H3) (o := .lst ((as1.drop (j / 3)).map V.ref))
        generalize upd H3 a1 (.lst ((as1.drop (j / 3)).map V.ref)) = H4 at s4 e4 ⊢
        refine ⟨a1, _, rfl, .inl ⟨SqL.of e4, fun t nt => ?_⟩⟩
        have s5 := s4.trans (same_new (o := .tup ((as1.drop (j / 3)).map V.ref)) nt)
        have sb0 : Sb p H H2 := fun b o n e => S2.ks _ _ (fl _ _ e) (sH _ _ e)
        exact y _ _ _ (pap_pr upd_same ((pr3.drop (j / 3)).same s5) (by rw [List.length_drop]; omega)) ((sb0.trans s3).trans (Sb.of s5)) (hW3.same s5)
    case iSome =>
      rintro σ H Q ⟨q, p, sort, e1, e3, hB, ok, y⟩
      obtain ⟨lw, lf, g, kvs, eq, ew, _⟩ := id hB
      obtain ⟨ms, ex⟩ := ok.first
      have e1f : (p.ms.map V.str)[0]? = some (.str (firstL p)) := by rw [ex]; rfl
      have f1m : firstL p ∈ p.ms := by rw [ex]; simp
      clear ex
      refine ⟨_, e3, rfl, _, rfl, ite2 (fun c => ?_) (fun c => ?_)⟩
      · exact ⟨_, e1, _, e1, q, _, _, V.ref lw, rfl, rfl, SqT.of eq, atI_nat (j := 1) rfl, lw, _, _, V.str (firstL p), rfl, rfl, SqL.of ew, atI_nat (j := 0) e1f, q, p, firstL p, rfl, hB, ok, f1m, fun l ws H1 s1 nl el cl few => y l ws H1 s1 el⟩
      · exact ⟨_, e1, q, p, rfl, hB, ok, fun l ws H1 s1 nl el cl few => y l ws H1 s1 el⟩
    case iLow =>
      rintro D σ H ⟨p, th, x1, x2, x3, x4, x5, x6, x7, x8, x9, as, hs, rfl, hW, eth, tr, h100, y⟩
      have nth := hW.ne eth (refs_no3 _)
      refine ⟨_, rfl, p, 3, rfl, hW, by decide, by decide, fun d H1 d0 d1 s1 hW1 => ⟨rfl, _, rfl, ite2 (fun c => ?_) (fun c => y th as hs none H1 (s1 _ _ nth eth) (tr.sb hW s1) h100 s1 hW1)⟩⟩
      refine ⟨_, rfl, p, 2, rfl, hW1, by decide, by decide, fun e H2 e0 e1 s2 hW2 => ?_⟩
      have sb := s1.trans s2
      have eth2 := sb _ _ nth eth
      have tr2 := tr.sb hW sb
      have hl := tr2.len
      refine ⟨_, rfl, th, rfl, ⟨_, SqL.of eth2⟩, fun D1 hD1 => ?_⟩
      refine lcR (walk_listL (K := K) (a := th) as V.ref) (fun i ys H' => ∃ (bs : List Addr) (gs : List Hgt), ys = bs.map V.ref ∧ Tr3 H' bs gs ∧ gs.length = i) (fun i ys H H' s ⟨bs, gs, e, h, r⟩ => ⟨bs, gs, e, h.same s, r⟩) ⟨[], [], rfl, trivial, rfl⟩ (by omega) hD1 (yat_same _) (fun H' s' => SqL.of (s' _ _ eth2)) (fun j x ys H4 H5 k hj sj eD hI hy k1 k0 => ?_) (fun ys H7 hl7 s7 e7 hI => ?_)
      · obtain ⟨rfl, hy⟩ := hy
        obtain ⟨bs, gs, rfl, trb, lg⟩ := hI
        have ha : as[j]? = some as[j] := List.getElem?_eq_getElem hj
        obtain rfl := map_get ha hy
        generalize as[j] = a at ha
        obtain ⟨z, _, ea⟩ := tr2.get ha
        have ea := sj _ _ ea
        refine ⟨rfl, _, rfl, a, _, _, V.str z.1.1, rfl, rfl, SqT.of ea, atI_nat (j := 0) rfl, _, rfl, a, _, _, V.str z.1.2, rfl, rfl, SqT.of ea, atI_nat (j := 1) rfl, _, rfl, a, _, _, V.int z.2, rfl, rfl, SqT.of ea, atI_nat (j := 2) rfl, _, rfl, _, _, rfl, rfl, _, _, rfl, by show 3 ≤ sizeLine; decide, fun t nt => ?_⟩
        generalize (if z.2 - e > 1 then z.2 - e else 1) = n
        have st := same_new (o := .tup [.str z.1.1, .str z.1.2, .int n]) nt
        have et := upd_same (a := t) (H := H5) (o := .tup [.str z.1.1, .str z.1.2, .int n])
        have ntD : t ≠ D1 := (ne_of_none eD nt).symm
        exact k1 (.ref t) _ st ⟨bs ++ [t], gs ++ [(z.1, n)], by rw [List.map_append]; rfl, (trb.same (same_del st)).app ⟨by rw [del_ne ntD]; exact et, trivial⟩, by rw [List.length_append, lg]; rfl⟩
      · obtain ⟨bs, gs, rfl, trb, lg⟩ := hI
        exact y D1 bs gs _ H7 e7 (trb.same (del_same_of H7 D1)) (by omega) (sb.trans (Sb.of s7)) (hW2.same s7)
    refine ⟨_, rfl, rfl, _, rfl, ite2 (fun c => ?_) (fun c => ?_)⟩
    · have es : sort = "within" := by
        have := of_decide_eq_true c
        injection this
      exact ⟨p, q1, q2, p1, p2, _, rfl, hW, hB1, hB2, hsg, ok1, ok2, z1, z2, kW es⟩
    have es : sort ≠ "within" := fun z => c (decide_eq_true (by rw [z]))
    have kH := kH es
    refine ⟨q1, p1, sort, rfl, rfl, hB1, ok1, fun l ws H1 s1 el => ?_⟩
    refine ⟨_, rfl, _, rfl, q1, p1, rfl, hB1.same s1, ok1, z1, fun d0 ps H2 s2 nd0 ed0 ndp inp => ?_⟩
    have ps100 : ps.length ≤ 100 := by
      have := pairs_bound ndp inp
      have m : p1.ms.length * p1.ms.length ≤ 10 * 10 := Nat.mul_le_mul z1 z1
      omega
    refine ⟨_, rfl, q1, d0, l, p1, ps, ws, rfl, hB1.same (s1.trans s2), ok1, z1, ed0, ps100, inp, s2 _ _ el, fun d hs H3 s3 nd ed hok => ?_⟩
    have few' := hok.few z1
    have sB := (s1.trans s2).trans s3
    have hW3 := hW.same sB
    clear s1 s2 s3 nd0 ed0 nd el
    refine ⟨_, rfl, d, _, rfl, .inl ed, fun lk bs nk ik => ⟨lk, rfl, ⟨_, SqL.of upd_same⟩, fun D1 hD1 => ?_⟩⟩
    have prk := (keys_hs ik).same (same_new (o := .lst (bs.map V.ref)) nk)
    have sk := same_new (o := .lst (bs.map V.ref)) nk
    have ek := upd_same (a := lk) (H := H3) (o := .lst (bs.map V.ref))
    generalize upd H3 lk (.lst (bs.map V.ref)) = H8 at prk sk ek hD1 ⊢
    have hlk := prk.len
    rw [List.length_map] at hlk
    refine lcR (walk_listL (K := K) (a := lk) bs V.ref) (fun i ys H' => ∃ (as : List Addr) (gs : List Hgt), ys = as.map V.ref ∧ Tr3 H' as gs ∧ gs.length ≤ i) (fun i ys H H' s ⟨bs, gs, e, h, r⟩ => ⟨bs, gs, e, h.same s, r⟩) ⟨[], [], rfl, trivial, Nat.le_refl _⟩ (by omega) hD1 (yat_same _) (fun H' s' => SqL.of (s' _ _ ek)) (fun j x ys H9 HA k hj sj eD hI hy k1 k0 => ?_) (fun ys H9 hl9 s9 e9 hI => ?_)
    · obtain ⟨rfl, hy⟩ := hy
      obtain ⟨as, gs, rfl, trc, lg⟩ := hI
      have hbj : bs[j]? = some bs[j] := List.getElem?_eq_getElem hj
      obtain rfl := map_get hbj hy
      generalize bs[j] = bj at hbj
      obtain ⟨g', hg, eb⟩ := prk.get hbj
      have eb5 := sj _ _ eb
      have ed5 := sj _ _ (sk _ _ ed)
      have dg := DGet.t (k := My.k2 g'.1 g'.2) ed5 eb5
      rw [hs_val, hgt_some (List.mem_of_getElem? hg)] at dg
      refine ⟨rfl, _, rfl, bj, _, _, V.str g'.1, rfl, rfl, SqT.of eb5, atI_nat (j := 0) rfl, _, rfl, bj, _, _, V.str g'.2, rfl, rfl, SqT.of eb5, atI_nat (j := 1) rfl, _, rfl, _, rfl, d, V.int (hv hs g'.1 g'.2), rfl, dg, by show 3 ≤ sizeLine; decide, fun t nt => ?_⟩
      have st := same_new (o := .tup [.str g'.1, .str g'.2, .int (hv hs g'.1 g'.2)]) nt
      have et := upd_same (a := t) (H := HA) (o := .tup [.str g'.1, .str g'.2, .int (hv hs g'.1 g'.2)])
      have ntD : t ≠ D1 := (ne_of_none eD nt).symm
      exact k1 (.ref t) _ st ⟨as ++ [t], gs ++ [(g', hv hs g'.1 g'.2)], by rw [List.map_append]; rfl, (trc.same (same_del st)).app ⟨by rw [del_ne ntD]; exact et, trivial⟩, by rw [List.length_append]; show _ + 1 ≤ _; omega⟩
    obtain ⟨as, gs, rfl, trc, lg⟩ := hI
    have trc := trc.same (del_same_of H9 D1)
    have sD := sk.trans s9
    have hW9 := hW3.same sD
    have sC := sB.trans sD
    clear prk ek hD1 nk ik sk s9 ed hW3 sB
    refine ⟨p, D1, _, _, _, _, _, _, _, _, _, as, gs, rfl, hW9, e9, trc, by omega, fun th as' gs' y11 HB eth tr h100 sb hWB => ?_⟩
    have nth := hWB.ne eth (refs_no3 _)
    refine ⟨_, rfl, _, rfl, p, 4, rfl, hWB, by decide, by decide, fun d H5 d0 d1 s5 hW5 => ?_⟩
    obtain ⟨j, rfl⟩ := Int.eq_ofNat_of_zero_le d0
    have el5 := s5 _ _ nth eth
    have tr5 := tr.sb hWB s5
    have hl5 := tr5.len
    refine ⟨_, _, rfl, rfl, ⟨by decide, by decide⟩, _, rfl, th, _, rfl, SqL.of el5, fun a1 n1 => ?_⟩
    rw [show ((j : Int) / 3) = ((j / 3 : Nat) : Int) by omega, cut_fromV _ _ (by omega), ← List.map_drop]
    have s6 := same_new (o := .lst ((as'.drop (j / 3)).map V.ref)) n1
    have e6 := upd_same (a := a1) (H := H5) (o := .lst ((as'.drop (j / 3)).map V.ref))
    generalize upd H5 a1 (.lst ((as'.drop (j / 3)).map V.ref)) = H6 at s6 e6 ⊢
    refine ⟨a1, _, rfl, .inl ⟨SqL.of e6, fun t nt => ?_⟩⟩
    have s7 := s6.trans (same_new (o := .tup ((as'.drop (j / 3)).map V.ref)) nt)
    exact kH _ _ _ (paph_tr upd_same ((tr5.drop (j / 3)).same s7) (by rw [List.length_drop]; omega)) ((((Sb.of sC).trans sb).trans s5).trans (Sb.of s7)) (hW5.same s7)
end
end My
namespace L2
open PySem PySem.Spec PyProof.Rows PySem.GX
/-! a dict whose keys are tuples of a text and a bool -/
def lkKey (z : Str × Bool) : List Leaf := [.text z.1, .num (if z.2 then 1 else 0)]
theorem lkKey_inj {y z : Str × Bool} (h : lkKey y = lkKey z) : y = z := by
  obtain ⟨a, b⟩ := y
  obtain ⟨c, d⟩ := z
  injection h with h1 h2
  injection h1 with h1
  injection h2 with h2 _
  injection h2 with h2
  subst h1
  cases b <;> cases d <;> first | rfl | cases h2
def LkOk (P : Program) (w : World) (d : Addr) (xs : List (List Leaf × Addr × Value)) (h : Heap) : Prop := xs.length ≤ sizeLine ∧ (d == sysModules) = false ∧ ∃ o es ep, h.get? d = some o ∧ o.ExactDict ∧ o.data = .dict es ep ∧ es.toList = xs.map (entryOfKey (tupleKind (leafKind P w))) ∧ (xs.map (·.1)).Nodup
def LkD (P : Program) (w : World) (d : Addr) (xs : List (List Leaf × Addr × Value)) : HO := .ext (LkOk P w d xs)
/-- the tuples that are keys -/
def LkT (H : Hp) (zs : List (Str × Bool)) (xs : List (List Leaf × Addr × Value)) : Prop := Paired (fun z x => x.1 = lkKey z ∧ H x.2.1 = some (.tup [.str z.1, .bl z.2])) zs xs
def LkAt (P : Program) (w : World) (H : Hp) (d : Addr) (zs : List (Str × Bool)) : Prop := ∃ xs, H d = some (LkD P w d xs) ∧ LkT H zs xs
theorem LkT.same {H H' : Hp} {zs : List (Str × Bool)} {xs : List (List Leaf × Addr × Value)} (h : LkT H zs xs) (s : ∀ b x y, H b = some (.tup [.str x, .bl y]) → H' b = some (.tup [.str x, .bl y])) : LkT H' zs xs := Paired.mapP h fun _ _ a => ⟨a.1, s _ _ _ a.2⟩
theorem lk_objOk {X : Cx} {H : Hp} {h : Heap} {d : Addr} {xs : List (List Leaf × Addr × Value)} (k : LkOk X.prog X.w d xs h) : ObjOk X.prog X.w H h d (LkD X.prog X.w d xs) := by
  refine ⟨k, ?_, fun h1 h2 k1 e => ?_⟩
  · obtain ⟨_, _, o, _, _, ho, _⟩ := k
    exact ⟨o, ho⟩
  · obtain ⟨a, b, o, es, ep, ho, r⟩ := k1
    exact ⟨a, b, o, es, ep, e o ho, r⟩
theorem lk_is {X : Cx} {H : Hp} {h : Heap} {t : Addr} {z : Str × Bool} (ok : HOk X.prog X.w H h) (e : H t = some (.tup [.str z.1, .bl z.2])) : (tupleKind (leafKind X.prog X.w)).is h (lkKey z) t := by
  obtain ⟨_, its, r, o, h1, h2, n, h3⟩ := (show ObjOk X.prog X.w H h t (.tup [.str z.1, .bl z.2]) from ok t _ e)
  obtain ⟨u, v, rfl, ru, rv⟩ := vals2 r
  obtain ⟨tk, rfl⟩ := ru
  obtain rfl : v = Value.bool z.2 := rv
  refine ⟨o, _, n, h1, h2, h3, ?_⟩
  have e1 : (leafKind X.prog X.w).is (.text z.1) (.str z.1 tk) = true := by
    show Value.isStrOf z.1 (.str z.1 tk) = true
    simp [Value.isStrOf]
  have e2 : (leafKind X.prog X.w).is (.num (if z.2 then 1 else 0)) (.bool z.2) = true := by
    show decide ((if z.2 = true then (1 : Int) else 0) = (if z.2 = true then 1 else 0)) = true
    exact decide_eq_true rfl
  exact .cons e1 (.cons e2 .nil)
section
variable {X : Cx} {pins : List (Addr × Obj)} {σ : St} {H : Hp} {s : Shared}
theorem lk_all {h : Heap} (ok : HOk X.prog X.w H h) {zs : List (Str × Bool)} {xs : List (List Leaf × Addr × Value)} (t : LkT H zs xs) : ∀ x ∈ xs, (tupleKind (leafKind X.prog X.w)).is h x.1 x.2.1 := by
  unfold LkT at t
  induction t with
  | nil => intro x hx; exact nomatch hx
  | @cons p q ps qs hq t ih =>
    intro x hx
    rcases List.mem_cons.mp hx with e | hx
    · subst e
      rw [hq.1]
      exact lk_is ok hq.2
    · exact ih x hx
theorem lk_dict {h : Heap} (ok : HOk X.prog X.w H h) {d : Addr} {zs : List (Str × Bool)} {xs : List (List Leaf × Addr × Value)} (e : H d = some (LkD X.prog X.w d xs)) (t : LkT H zs xs) : xs.length ≤ sizeLine ∧ (d == sysModules) = false ∧ h.DictOfH (tupleKind (leafKind X.prog X.w)) d xs := by
  obtain ⟨⟨a, b, o, es, ep, h1, h2, h3, h4, h5⟩, _⟩ := (show ObjOk X.prog X.w H h d (LkD X.prog X.w d xs) from ok d _ e)
  exact ⟨a, b, o, es, ep, h1, h2, h3, h4, lk_all ok t, h5⟩
theorem LkT.at_ {zs : List (Str × Bool)} {xs : List (List Leaf × Addr × Value)} (t : LkT H zs xs) {z : Str × Bool} (h : (atKey xs (lkKey z)).isSome = true) : z ∈ zs := by
  unfold LkT at t
  induction t with
  | nil => cases h
  | @cons p q ps qs hq t ih =>
    by_cases e : q.1 = lkKey z
    · rw [hq.1] at e
      rw [lkKey_inj e]
      simp
    · refine List.mem_cons_of_mem _ (ih ?_)
      unfold atKey at h ⊢
      rw [List.find?_cons_of_neg (by simpa using e)] at h
      exact h
theorem LkT.put {zs : List (Str × Bool)} {xs : List (List Leaf × Addr × Value)} (t : LkT H zs xs) {z : Str × Bool} {b : Addr} (hb : H b = some (.tup [.str z.1, .bl z.2])) (v : Value) : ∃ zs', LkT H zs' (storedH xs (lkKey z) b v) ∧ ∀ y ∈ zs', y ∈ zs ∨ y = z := by
  unfold storedH
  by_cases q : (atKey xs (lkKey z)).isSome = true
  · rw [if_pos q]
    refine ⟨zs, ?_, fun y hy => .inl hy⟩
    unfold LkT at t ⊢
    clear q
    induction t with
    | nil => exact .nil
    | @cons p q ps qs hq t ih =>
      refine .cons ?_ ih
      unfold putAt
      split <;> exact hq
  · rw [if_neg q]
    refine ⟨zs ++ [z], Paired.snoc t ⟨rfl, hb⟩, fun y hy => ?_⟩
    rcases List.mem_append.mp hy with hy | hy
    · exact .inl hy
    · rw [List.mem_singleton] at hy
      exact .inr hy
def tDNewL (X : Cx) : TE := fun σ H Q => ∀ d, H d = none → Q (.ref d) (upd H d (LkD X.prog X.w d []))
theorem pe_dnewL {pos : Pos} : PE X (.Dict [] [] pos) (tDNewL X) := ⟨fun pins s σ H Q I h =>
  wpAny_Dict_empty ⟨.ref s.heap.objs.size, _, I.laid (a := s.heap.objs.size) (o := LkD X.prog X.w s.heap.objs.size []) (t' := s.toks) (fun _ _ q => Heap.get?_push_of_some _ q) (Nat.le_refl _) (lk_objOk ⟨Nat.zero_le _, beq_eq_false_iff_ne.mpr (Ne.symm (Nat.ne_of_lt I.big)), _, _, _, Heap.get?_push_size _ rfl, ⟨rfl, rfl, rfl⟩, rfl, rfl, .nil⟩), rfl, h _ (I.hok.fresh (Nat.le_refl _))⟩⟩
theorem pe_or2 {e : Expr} {t1 t2 : TE} (h1 : PE X e t1) (h2 : PE X e t2) : PE X e (fun σ H Q => t1 σ H Q ∨ t2 σ H Q) := ⟨fun pins s σ H Q I h => h.elim (h1.run pins s σ H Q I) (h2.run pins s σ H Q I)⟩
/-- d[(x, b)] = v -/
def LPut (P : Program) (w : World) (H : Hp) (a : Addr) (y v : V) (H' : Hp) : Prop := ∃ (t : Addr) (zs : List (Str × Bool)) (xs : List (List Leaf × Addr × Value)) (z : Str × Bool), y = .ref t ∧ v = .bl true ∧ H a = some (LkD P w a xs) ∧ LkT H zs xs ∧ H t = some (.tup [.str z.1, .bl z.2]) ∧ xs.length < sizeLine ∧ H' = upd H a (LkD P w a (storedH xs (lkKey z) t (.bool true)))
def sLPut (P : Program) (w : World) (td ty tv : TE) : TS := fun D σ H => tv σ H fun v H1 => td σ H1 fun x H2 => ty σ H2 fun y H3 => ∃ a H4, x = .ref a ∧ LPut P w H3 a y v H4 ∧ D.nx σ H4
def tLIn (P : Program) (w : World) (ty td : TE) : TE := fun σ H Q => ty σ H fun y H1 => td σ H1 fun x H2 => ∃ (a t : Addr) (zs : List (Str × Bool)) (xs : List (List Leaf × Addr × Value)) (z : Str × Bool), x = .ref a ∧ y = .ref t ∧ H2 a = some (LkD P w a xs) ∧ LkT H2 zs xs ∧ H2 t = some (.tup [.str z.1, .bl z.2]) ∧ Q (.bl (atKey xs (lkKey z)).isSome) H2
variable {o i e value : Expr} {pos pos' : Pos} {td ty tv : TE}
theorem ps_lput (hu : X.A.units + 1 < cLine) (ho : PE X o td) (hi : PE X i ty) (hv : PE X value tv) (hs : swapsWith value (some (.Subscript o i pos')) pos.line X.env = pure false) :
    PS X (.Assign [.Subscript o i pos'] value pos) (sLPut X.prog X.w td ty tv) := by
  refine ⟨fun pins s σ H D I h => ?_⟩
  refine wpAny_Assign_Subscript (thn (hv.run pins s σ H _ I h) fun r s1 ⟨v, H1, I1, rv, q1⟩ => thn (ho.run pins s1 σ H1 _ I1 q1) fun u s2 ⟨x, H2, I2, rx, q2⟩ => thn (hi.run pins s2 σ H2 _ I2 q2) fun iv s3 ⟨y, H3, I3, ry, a, H4, ex, g, q3⟩ => ?_) hs
  subst ex
  obtain rfl : u = Value.ref a := rx
  obtain ⟨t, zs, xs, z, rfl, rfl, e, lt, et, few, rfl⟩ := g
  obtain rfl : iv = Value.ref t := ry
  obtain rfl : r = Value.bool true := rv
  obtain ⟨z1, hd, dd⟩ := lk_dict I3.hok e lt
  refine wpAny_setItem_heap (hsz := z1) (tupleKind_room_in1 hu) (lk_is I3.hok et) dd fun h' dd' hs => ?_
  obtain ⟨q, es, ep, hq, h2, h3, h4, _, h5⟩ := dd'
  have hl := storedH_length xs (lkKey z) t (Value.bool true)
  exact ⟨σ, _, d_write I3 (by rw [e]; exact True.intro) hs ⟨q, hq⟩ (lk_objOk ⟨by omega, hd, q, es, ep, hq, h2, h3, h4, h5⟩), q3⟩
theorem pc_lin (hu : X.A.units + 1 < cLine) (hi : PE X i ty) (ho : PE X o td) : PC X .In i o (tLIn X.prog X.w ty td) := by
  refine ⟨fun pins s σ H Q I h => ?_⟩
  refine thn (hi.run pins s σ H _ I h) fun iv s1 ⟨y, H1, I1, ry, q1⟩ => thn (ho.run pins s1 σ H1 _ I1 q1) fun u s2 ⟨x, H2, I2, rx, a, t, zs, xs, z, ex, ey, e, lt, et, q2⟩ => ?_
  subst ex ey
  obtain rfl : u = Value.ref a := rx
  obtain rfl : iv = Value.ref t := ry
  obtain ⟨z1, hd, dd⟩ := lk_dict I2.hok e lt
  exact wpAny_in_heap (tupleKind_room_in1 hu) (lk_is I2.hok et) hd dd ⟨.bl _, H2, I2.tok _, rfl, q2⟩
end
end L2
namespace My
open PySem PySem.Spec PyProof.Rows L2 PySem.GX L2H LamX
/-- a row is good -/
def GdR (p : Parts) (r : Str) : Prop := walkL p (firstL p) r.cps.toList ∈ p.gs
theorem pcsL_len {n : Nat} {r : Str} (h : r.length ≤ 7) : (pcsL n r).length ≤ 10 := by
  unfold pcsL
  split
  · exact (by decide : 1 ≤ 10)
  · rw [pcs_len, mark_len]
    omega
def spIsSo : Sp := fun vs H Q _ => ∃ (q1 q2 l : Addr) (p1 p2 : Parts) (sort : Str) (n : Nat) (lines : List Str), vs = [.ref q1, .ref q2, .str sort, .int (n : Int), .ref l] ∧ BxF H q1 p1 p1.ms ∧ BxF H q2 p2 p2.ms ∧ PartsOk p1 ∧ PartsOk p2 ∧ H l = some (.lst (lines.map V.str)) ∧ lines.length ≤ 100000 ∧ (∀ r ∈ lines, r.length ≤ 7 ∧ InS p1 r ∧ InS p2 r) ∧ n ≤ 1000 ∧
  ((sort = "within" ∧ ∀ r ∈ lines, GdR p1 r → GdR p2 r) ∨ (sort = "last" ∧ ∀ x ∈ lines, ∀ y ∈ lines, GdR p1 y → lookZ n x = lookZ n y → GdR p1 x) ∨ (sort = "windows" ∧ ∀ x ∈ lines, (∀ w ∈ pcsL n x, ∃ y ∈ lines, GdR p1 y ∧ w ∈ pcsL n y) → GdR p1 x)) ∧
  ∀ H', Same H H' → Q (.bl true) H'
section
variable {P : Program} {w : World} {K : PySem.W.Frag} {mg : Str → Option Value} {base : Heap}
abbrev nIsSo : List Str := ["_law_box_here", "_law_mate", "_law_sort", "_law_size", "_law_lines", "_law_good", "_law_looks_here", "_law_line", "_law_piece"]
theorem scIsSo : FnScope nIsSo ["_law_box_here", "_law_mate", "_law_sort", "_law_size", "_law_lines"] (defScope sIsSo) := ⟨rfl, rfl, rfl, by decide +kernel, rfl, by decide +kernel, by decide +kernel⟩
theorem ok_isSo {f : Addr} {fd : FuncData} (F : Fun K "_law_is_so" "_law_is_so" sIsSo f fd) (hFi : Hv P w K mg base 2 "_law_is_fine" ["_law_box_here", "_law_line"] spGood1) (hLk : Hv P w K mg base 1 "_law_look" ["_law_sort", "_law_size", "_law_line"] spLookL) (hPc : Hv P w K mg base 1 "_law_pieces" ["_law_size", "_law_line"] spPcW) : FnOk P w K mg base CX0 3 f fd ["_law_box_here", "_law_mate", "_law_sort", "_law_size", "_law_lines"] spIsSo := by
  refine F.ok scIsSo (fun vs H Q E h => ?_) (fun cdv A outer s H vs Q E hr h => ?_)
  · obtain ⟨q1, q2, l, p1, p2, sort, n, lines, rfl, _⟩ := h
    rfl
  · obtain ⟨q1, q2, l, p1, p2, sort, n, lines, rfl, hB1, hB2, ok1, ok2, el, zl, hin, n1000, hso, kk⟩ := h
    have hu := hu_of hr
    have hu0 : (A.deeper (envOfC "_law_is_so" (defScope sIsSo) s.heap.objs.size f cdv)).units < cLine := by omega
    have hr1 : Room 1 (A.deeper (envOfC "_law_is_so" (defScope sIsSo) s.heap.objs.size f cdv)) := hr.mono (by decide)
    have hr2 : Room 2 (A.deeper (envOfC "_law_is_so" (defScope sIsSo) s.heap.objs.size f cdv)) := hr.mono (by decide)
    refine ⟨_, pss_cons (ps_setLc (i := 5) (own := [("_law_line", 7)]) (g := gName 7) (by rfl) scIsSo.nd rfl rfl (sw_true rfl rfl rfl (by decide +kernel)) (pi_list (pv 4)) (blkOk_by (N := nIsSo) (sc := defScope sIsSo) (by decide +kernel)) (fun _ _ _ _ _ => pg_name (i := 7) scIsSo.nd rfl (Or.inl rfl)) (fun _ _ _ _ _ => pts_one (pt_val (pe_cl hFi hr2 rfl pass0 (pa_cons (pv 0) (pa_cons (pv 7) pa_nil))))) (fun _ _ _ _ _ => pv 7))
      (pss_cons (ps_if (pt_cmpR op_eq (pv 2) pe_str (nomark _)) (pss_one (ps_ret (pe_cmpR (op_eqNil hu0) (pe_lc (own := [("_law_line", 7)]) (g := gName 7) rfl scIsSo.nd (pi_list (pv 5)) (blkOk_by (N := nIsSo) (sc := defScope sIsSo) (by decide +kernel)) (fun _ _ _ _ _ => pg_name (i := 7) scIsSo.nd rfl (Or.inl rfl)) (fun _ _ _ _ _ => pts_one (pt_not (pt_val (pe_cl hFi hr2 rfl pass0 (pa_cons (pv 1) (pa_cons (pv 7) pa_nil)))))) (fun _ _ _ _ _ => pv 7)) (pe_lst pa_nil) (nomark _)))) pss_nil)
      (pss_cons (ps_set (i := 6) scIsSo.nd rfl (Or.inr rfl) (pe_or2 (t1 := fun _ H Q => ∀ d, H d = none → Q (.ref d) (upd H d (LkD P w d []))) pe_dnewL pe_dnewK))
      (pss_cons (ps_for PassesOwn.never rfl (pi_list (pv 5)) (pg_name (i := 7) scIsSo.nd rfl (Or.inl rfl))
        (pss_one (ps_if (pt_cmpR op_eq (pv 2) pe_str (nomark _))
          (pss_one (ps_lput hu (pv 6) (pe_cl hLk hr1 rfl pass0 (pa_cons pe_str (pa_cons (pv 3) (pa_cons (pv 7) pa_nil)))) pe_bl rfl))
          (pss_one (ps_for PassesOwn.never rfl (pi_list (pe_cl hPc hr1 rfl pass0 (pa_cons (pv 3) (pa_cons (pv 7) pa_nil)))) (pg_name (i := 8) scIsSo.nd rfl (Or.inl rfl)) (pss_one (ps_dput hu (pv 6) (pv 8) pe_bl rfl)))))))
      (pss_cons (ps_for PassesOwn.never rfl (pi_list (pv 4)) (pg_name (i := 7) scIsSo.nd rfl (Or.inl rfl))
        (pss_cons (ps_if (PW.pt (pw_and (pt_cmpR op_notIn_seq (pv 7) (pv 5) (by rfl)) (pw_and (pt_cmpR op_eq (pv 2) pe_str (nomark _)) (pw_and1 (pt_cmp (pc_lin hu (pe_cl hLk hr1 rfl pass0 (pa_cons pe_str (pa_cons (pv 3) (pa_cons (pv 7) pa_nil)))) (pv 6))))))) (pss_one (ps_ret pe_bl)) pss_nil)
        (pss_one (ps_if (PW.pt (pw_and (pt_cmpR op_notIn_seq (pv 7) (pv 5) (by rfl)) (pw_and1 (pt_cmpR op_eq (pv 2) pe_str (nomark _))))) (pss_one (ps_if (pt_cmpR (op_eqNil hu0) (pe_lc (own := [("_law_piece", 8)]) (g := gName 8) rfl scIsSo.nd (pi_list (pe_cl hPc hr1 rfl pass0 (pa_cons (pv 3) (pa_cons (pv 7) pa_nil)))) (blkOk_by (N := nIsSo) (sc := defScope sIsSo) (by decide +kernel)) (fun _ _ _ _ _ => pg_name (i := 8) scIsSo.nd rfl (Or.inl rfl)) (fun _ _ _ _ _ => pts_one (pt_cmp (pc_dnotin hu (pv 8) (pv 6)))) (fun _ _ _ _ _ => pv 8)) (pe_lst pa_nil) (nomark _)) (pss_one (ps_ret pe_bl)) pss_nil)) pss_nil))))
      (pss_one (ps_ret pe_bl)))))), ?_⟩
    have eif : ∀ b : Bool, (if false = true then !b else b) = b := fun _ => rfl
    have eit : ∀ b : Bool, (if true = true then !b else b) = !b := fun _ => rfl
    refine ⟨_, rfl, l, rfl, ⟨_, SqL.of el⟩, fun D1 hD1 => ?_⟩
    refine lcR (walk_listL (K := K) (a := l) lines V.str) (fun i ys _ => ∃ gl : List Str, ys = gl.map V.str ∧ gl.length ≤ i ∧ ∀ r, r ∈ gl ↔ r ∈ lines.take i ∧ GdR p1 r) (fun _ _ _ _ _ h => h) ⟨[], rfl, Nat.le_refl _, fun m => ⟨(fun z => by cases z), fun z => by rw [List.take_zero] at z; cases z.1⟩⟩ (by omega) hD1 (yat_same _) (fun H' s' => SqL.of (s' _ _ el)) (fun j x ys H4 H5 k hj sj eD hI hy k1 k0 => ?_) (fun ys H2 hl2 s2 e2 hI => ?_)
    · obtain ⟨rfl, hy⟩ := hy
      obtain ⟨gl, rfl, lg, hg⟩ := hI
      have hr' : lines[j]? = some lines[j] := List.getElem?_eq_getElem hj
      obtain rfl := map_get hr' hy
      generalize lines[j] = r at hr'
      have hrm := List.mem_of_getElem? hr'
      have tk : lines.take (j + 1) = lines.take j ++ [r] := by rw [List.take_add_one, hr']; rfl
      refine ⟨rfl, _, rfl, _, rfl, q1, p1, r, rfl, hB1.same sj, ok1, (hin r hrm).2.1, fun H6 s6 => ⟨_, rfl, ?_⟩⟩
      by_cases hgd : GdR p1 r
      · rw [decide_eq_true (show walkL p1 (firstL p1) r.cps.toList ∈ p1.gs from hgd)]
        refine iteT ⟨_, rfl, k1 _ _ s6 ⟨gl ++ [r], by rw [List.map_append]; rfl, by rw [List.length_append]; show _ + 1 ≤ _; omega, fun m => ?_⟩⟩
        rw [tk, List.mem_append, hg, List.mem_append, List.mem_singleton]
        constructor
        · rintro (⟨a, b⟩ | rfl)
          · exact ⟨.inl a, b⟩
          · exact ⟨.inr rfl, hgd⟩
        · rintro ⟨a | rfl, b⟩
          · exact .inl ⟨a, b⟩
          · exact .inr rfl
      · rw [decide_eq_false (show ¬ walkL p1 (firstL p1) r.cps.toList ∈ p1.gs from hgd)]
        refine iteF (k0 _ s6 ⟨gl, rfl, by omega, fun m => ?_⟩)
        rw [tk, hg, List.mem_append, List.mem_singleton]
        constructor
        · rintro ⟨a, b⟩
          exact ⟨.inl a, b⟩
        · rintro ⟨a | rfl, b⟩
          · exact ⟨a, b⟩
          · exact absurd b hgd
    obtain ⟨gl, rfl, lg, hg⟩ := hI
    rw [List.take_length] at hg
    have el2 := s2 _ _ el
    rcases hso with ⟨rfl, hso⟩ | hso
    · -- within
      refine ⟨_, rfl, rfl, _, rfl, iteT ?_⟩
      refine ⟨_, rfl, D1, rfl, ⟨_, SqL.of e2⟩, fun D2 hD2 => ?_⟩
      refine lcR (walk_listL (K := K) (a := D1) gl V.str) (fun i ys _ => ys = []) (fun _ _ _ _ _ h => h) rfl (by omega) hD2 (yat_same _) (fun H' s' => SqL.of (s' _ _ e2)) (fun j x ys H4 H5 k hj sj eD hI hy k1 k0 => ?_) (fun ys H3 hl3 s3 e3 hI => ?_)
      · obtain ⟨rfl, hy⟩ := hy
        have hr' : gl[j]? = some gl[j] := List.getElem?_eq_getElem hj
        obtain rfl := map_get hr' hy
        generalize gl[j] = r at hr'
        have hrm := (hg r).mp (List.mem_of_getElem? hr')
        refine ⟨rfl, _, rfl, _, rfl, q2, p2, r, rfl, hB2.same (s2.trans sj), ok2, (hin r hrm.1).2.2, fun H6 s6 => ⟨_, rfl, ?_⟩⟩
        rw [decide_eq_true (show walkL p2 (firstL p2) r.cps.toList ∈ p2.gs from hso r hrm.1 hrm.2)]
        exact iteF (k0 _ s6 hI)
      · subst hI
        refine ⟨by show 0 ≤ sizeLine; decide, fun l0 h0' => ⟨D2, l0, _, rfl, rfl, SqL.of (keep1 e3 h0'), SqL.of upd_same, ?_⟩⟩
        exact kk _ ((s2.trans s3).trans (same_new (o := .lst []) h0'))
    rcases hso with ⟨rfl, hso⟩ | ⟨rfl, hso⟩
    · -- last
      refine ⟨_, rfl, rfl, _, rfl, iteF ?_⟩
      refine .inl fun d hd => ?_
      have sd := same_new (o := LkD P w d []) hd
      have ed := upd_same (a := d) (H := H2) (o := LkD P w d [])
      have fd' : ∀ b o, H2 b = some o → b ≠ d := fun b o e => ne_of_none e hd
      generalize upd H2 d (LkD P w d []) = H3 at sd ed ⊢
      have el3 := sd _ _ el2
      have e3 := sd _ _ e2
      have nl := fd' _ _ el2
      have nD := fd' _ _ e2
      refine ⟨_, rfl, D1, rfl, ⟨_, SqL.of e3⟩, ?_⟩
      refine for_it (walk_listL (K := K) (a := D1) gl V.str) (fun i σ H' => ∃ (x7 : Option V) (zs : List (Str × Bool)) (xs : List (List Leaf × Addr × Value)), σ = [some (.ref q1), some (.ref q2), some (.str "last"), some (.int (n : Int)), some (.ref l), some (.ref D1), some (.ref d), x7, none] ∧ (∀ b o, b ≠ d → H3 b = some o → H' b = some o) ∧ H' d = some (LkD P w d xs) ∧ LkT H' zs xs ∧ xs.length ≤ i ∧ ∀ z ∈ zs, ∃ y ∈ gl, z = lookZ n y)
        ⟨none, [], [], rfl, fun _ _ _ e => e, ed, .nil, Nat.le_refl _, fun _ m => by cases m⟩ (fun i σ H' _ h => ?_) (fun i y σ H4 H5 hi h hy => ?_) (fun σ H4 h => ?_)
      · obtain ⟨_, _, _, _, ks, _⟩ := h
        exact SqL.of (ks _ _ nD e3)
      · obtain ⟨rfl, hy⟩ := hy
        obtain ⟨x7, zs, xs, rfl, ks, ed', lt, lx, snd⟩ := h
        have hr' : gl[i]? = some gl[i] := List.getElem?_eq_getElem hi
        obtain rfl := map_get hr' hy
        generalize gl[i] = r at hr'
        have hrg := List.mem_of_getElem? hr'
        have hrm := (hg r).mp hrg
        refine ⟨_, rfl, rfl, _, rfl, iteT ?_⟩
        refine ⟨_, rfl, _, rfl, _, rfl, n, r, rfl, by have := (hin r hrm.1).1; omega, fun t H6 s6 et => ?_⟩
        have ed6 := s6 _ _ ed'
        have lt6 : LkT H6 zs xs := lt.same fun b x y e => s6 _ _ e
        have ntd : t ≠ d := ne_of et ed6 (by intro z; cases z)
        obtain ⟨zs', lt', hz'⟩ := lt6.put (z := lookZ n r) et (Value.bool true)
        have hl' := storedH_length xs (lkKey (lookZ n r)) t (Value.bool true)
        refine ⟨d, _, rfl, ⟨t, zs, xs, lookZ n r, rfl, rfl, ed6, lt6, et, by rw [sizeLine_eq]; omega, rfl⟩, ?_⟩
        refine ⟨_, zs', _, rfl, fun b o n1 e => by rw [upd_ne n1]; exact s6 _ _ (ks b o n1 e), upd_same, lt'.same fun b x y e => by rw [upd_ne (ne_of e ed6 (by intro z; cases z))]; exact e, by omega, fun z hz => ?_⟩
        rcases hz' z hz with m | m
        · exact snd z m
        · exact ⟨r, hrg, m⟩
      · obtain ⟨x7, zs, xs, rfl, ks, ed', lt, lx, snd⟩ := h
        have el4 := ks _ _ nl el3
        have e4 := ks _ _ nD e3
        have sF : Same H H4 := fun b o e => ks b o (fd' b o (s2 _ _ e)) (sd _ _ (s2 _ _ e))
        refine ⟨_, rfl, l, rfl, ⟨_, SqL.of el4⟩, ?_⟩
        refine for_it (walk_listL (K := K) (a := l) lines V.str) (fun i σ H' => ∃ (x7 : Option V), σ = [some (.ref q1), some (.ref q2), some (.str "last"), some (.int (n : Int)), some (.ref l), some (.ref D1), some (.ref d), x7, none] ∧ Same H4 H')
          ⟨x7, rfl, Same.refl _⟩ (fun i σ H' _ h => ?_) (fun i y σ H5 H6 hi h hy => ?_) (fun σ H5 h => ?_)
        · obtain ⟨_, _, st⟩ := h
          exact SqL.of (st _ _ el4)
        · obtain ⟨rfl, hy⟩ := hy
          obtain ⟨x7, rfl, st⟩ := h
          have hr' : lines[i]? = some lines[i] := List.getElem?_eq_getElem hi
          obtain rfl := map_get hr' hy
          generalize lines[i] = r at hr'
          have hrm := List.mem_of_getElem? hr'
          have e6 := st _ _ e4
          refine ⟨_, rfl, _, rfl, D1, _, rfl, .inl (SqL.of e6), rfl, flat_strs _, _, rfl, ?_⟩
          rw [eit, in_strs]
          by_cases hin2 : r ∈ gl
          · rw [decide_eq_true hin2]
            refine iteF ⟨_, rfl, _, rfl, D1, _, rfl, .inl (SqL.of e6), rfl, flat_strs _, _, rfl, ?_⟩
            rw [eit, in_strs, decide_eq_true hin2]
            exact iteF ⟨_, rfl, st⟩
          · rw [decide_eq_false hin2]
            refine iteT ⟨_, rfl, rfl, _, rfl, iteT ?_⟩
            refine ⟨_, rfl, _, rfl, n, r, rfl, by have := (hin r hrm).1; omega, fun t H7 s7 et => ?_⟩
            have s47 := st.trans s7
            refine ⟨_, rfl, d, t, zs, xs, lookZ n r, rfl, rfl, s47 _ _ ed', lt.same fun b x y e => s47 _ _ e, et, _, rfl, ite2 (fun c => ?_) (fun c => ?_)⟩
            · obtain ⟨y, hy1, hy2⟩ := snd _ (LkT.at_ lt c)
              have hym := (hg y).mp hy1
              exact absurd ((hg r).mpr ⟨hrm, hso r hrm y hym.1 hym.2 hy2⟩) hin2
            · refine ⟨_, rfl, _, rfl, D1, _, rfl, .inl (SqL.of (s7 _ _ e6)), rfl, flat_strs _, _, rfl, ?_⟩
              rw [eit, in_strs, decide_eq_false hin2]
              exact iteT ⟨_, rfl, rfl, _, rfl, iteF ⟨_, rfl, s47⟩⟩
        · obtain ⟨x7, rfl, st⟩ := h
          exact kk _ (sF.trans st)
    · -- windows
      refine ⟨_, rfl, rfl, _, rfl, iteF ?_⟩
      refine .inr fun d hd => ?_
      have sd := same_new (o := .dK []) hd
      have ed := upd_same (a := d) (H := H2) (o := .dK [])
      have fd' : ∀ b o, H2 b = some o → b ≠ d := fun b o e => ne_of_none e hd
      generalize upd H2 d (.dK []) = H3 at sd ed ⊢
      have el3 := sd _ _ el2
      have e3 := sd _ _ e2
      have nl := fd' _ _ el2
      have nD := fd' _ _ e2
      refine ⟨_, rfl, D1, rfl, ⟨_, SqL.of e3⟩, ?_⟩
      refine for_it (walk_listL (K := K) (a := D1) gl V.str) (fun i σ H' => ∃ (x7 x8 : Option V) (ws : List Str), σ = [some (.ref q1), some (.ref q2), some (.str "windows"), some (.int (n : Int)), some (.ref l), some (.ref D1), some (.ref d), x7, x8] ∧ (∀ b o, b ≠ d → H3 b = some o → H' b = some o) ∧ H' d = some (.dK (setD ws)) ∧ ws.length ≤ 10 * i ∧ ∀ z ∈ ws, ∃ y ∈ gl, z ∈ pcsL n y)
        ⟨none, none, [], rfl, fun _ _ _ e => e, ed, Nat.le_refl _, fun _ m => by cases m⟩ (fun i σ H' _ h => ?_) (fun i y σ H4 H5 hi h hy => ?_) (fun σ H4 h => ?_)
      · obtain ⟨_, _, _, _, ks, _⟩ := h
        exact SqL.of (ks _ _ nD e3)
      · obtain ⟨rfl, hy⟩ := hy
        obtain ⟨x7, x8, ws, rfl, ks, ed', lx, snd⟩ := h
        have hr' : gl[i]? = some gl[i] := List.getElem?_eq_getElem hi
        obtain rfl := map_get hr' hy
        generalize gl[i] = r at hr'
        have hrg := List.mem_of_getElem? hr'
        have hrm := (hg r).mp hrg
        refine ⟨_, rfl, rfl, _, rfl, iteF ?_⟩
        refine ⟨_, rfl, _, rfl, n, r, rfl, by have := (hin r hrm.1).1; omega, n1000, fun lp H6 s6 elp => ⟨lp, rfl, ⟨_, SqL.of elp⟩, ?_⟩⟩
        have ed6 := s6 _ _ ed'
        have nlp : lp ≠ d := ne_of elp ed6 (by intro z; cases z)
        have hp10 := pcsL_len (n := n) (hin r hrm.1).1
        refine for_it (walk_listL (K := K) (a := lp) (pcsL n r) V.str) (fun j σ H' => ∃ (x8 : Option V) (ws' : List Str), σ = [some (.ref q1), some (.ref q2), some (.str "windows"), some (.int (n : Int)), some (.ref l), some (.ref D1), some (.ref d), some (.str r), x8] ∧ (∀ b o, b ≠ d → H6 b = some o → H' b = some o) ∧ H' d = some (.dK (setD ws')) ∧ ws'.length ≤ 10 * i + j ∧ ∀ z ∈ ws', ∃ y ∈ gl, z ∈ pcsL n y)
          ⟨x8, ws, rfl, fun _ _ _ e => e, ed6, by omega, snd⟩ (fun i σ H' _ h => ?_) (fun j y σ H7 H8 hj h hy => ?_) (fun σ H7 h => ?_)
        · obtain ⟨_, _, _, ks', _⟩ := h
          exact SqL.of (ks' _ _ nlp elp)
        · obtain ⟨rfl, hy⟩ := hy
          obtain ⟨x8, ws', rfl, ks', ed7, lx', snd'⟩ := h
          have hq' : (pcsL n r)[j]? = some (pcsL n r)[j] := List.getElem?_eq_getElem hj
          obtain rfl := map_get hq' hy
          generalize (pcsL n r)[j] = pc at hq'
          have eset : setD (ws' ++ [pc]) = putK (setD ws') (Sum.inr pc) (.bl true) := dOf_snoc _ _ _ _
          refine ⟨_, rfl, _, rfl, d, upd H8 d (.dK (setD (ws' ++ [pc]))), rfl, ?_, ?_⟩
          · rw [eset]
            refine DPut.k (k := Sum.inr pc) ed7 ?_
            have := dOf_len (fun x => (Sum.inr x : Key)) (fun _ => V.bl true) ws'
            have h2 : (setD ws').length ≤ ws'.length := this
            rw [sizeLine_eq]
            omega
          · refine ⟨_, ws' ++ [pc], rfl, fun b o n1 e => by rw [upd_ne n1]; exact ks' b o n1 e, upd_same, by rw [List.length_append]; show _ + 1 ≤ _; omega, fun z hz => ?_⟩
            rcases List.mem_append.mp hz with m | m
            · exact snd' z m
            · rw [List.mem_singleton] at m
              subst m
              exact ⟨r, hrg, List.mem_of_getElem? hq'⟩
        · obtain ⟨x8, ws', rfl, ks', ed7, lx', snd'⟩ := h
          exact ⟨_, _, ws', rfl, fun b o n1 e => ks' b o n1 (s6 _ _ (ks b o n1 e)), ed7, by omega, snd'⟩
      · obtain ⟨x7, x8, ws, rfl, ks, ed', lx, snd⟩ := h
        have el4 := ks _ _ nl el3
        have e4 := ks _ _ nD e3
        have sF : Same H H4 := fun b o e => ks b o (fd' b o (s2 _ _ e)) (sd _ _ (s2 _ _ e))
        refine ⟨_, rfl, l, rfl, ⟨_, SqL.of el4⟩, ?_⟩
        refine for_it (walk_listL (K := K) (a := l) lines V.str) (fun i σ H' => ∃ (x7 x8 : Option V), σ = [some (.ref q1), some (.ref q2), some (.str "windows"), some (.int (n : Int)), some (.ref l), some (.ref D1), some (.ref d), x7, x8] ∧ Same H4 H')
          ⟨x7, x8, rfl, Same.refl _⟩ (fun i σ H' _ h => ?_) (fun i y σ H5 H6 hi h hy => ?_) (fun σ H5 h => ?_)
        · obtain ⟨_, _, _, st⟩ := h
          exact SqL.of (st _ _ el4)
        · obtain ⟨rfl, hy⟩ := hy
          obtain ⟨x7, x8, rfl, st⟩ := h
          have hr' : lines[i]? = some lines[i] := List.getElem?_eq_getElem hi
          obtain rfl := map_get hr' hy
          generalize lines[i] = r at hr'
          have hrm := List.mem_of_getElem? hr'
          have e6 := st _ _ e4
          refine ⟨_, rfl, _, rfl, D1, _, rfl, .inl (SqL.of e6), rfl, flat_strs _, _, rfl, ?_⟩
          rw [eit, in_strs]
          by_cases hin2 : r ∈ gl
          · rw [decide_eq_true hin2]
            refine iteF ⟨_, rfl, _, rfl, D1, _, rfl, .inl (SqL.of e6), rfl, flat_strs _, _, rfl, ?_⟩
            rw [eit, in_strs, decide_eq_true hin2]
            exact iteF ⟨_, _, rfl, st⟩
          · rw [decide_eq_false hin2]
            refine iteT ⟨_, rfl, rfl, _, rfl, iteF ?_⟩
            refine ⟨_, rfl, _, rfl, D1, _, rfl, .inl (SqL.of e6), rfl, flat_strs _, _, rfl, ?_⟩
            rw [eit, in_strs, decide_eq_false hin2]
            refine iteT ⟨_, rfl, rfl, _, rfl, iteT ?_⟩
            refine ⟨_, rfl, _, rfl, n, r, rfl, by have := (hin r hrm).1; omega, n1000, fun lp H7 s7 elp => ⟨lp, rfl, ⟨_, SqL.of elp⟩, fun D2 hD2 => ?_⟩⟩
            have s47 := st.trans s7
            have hp10 := pcsL_len (n := n) (hin r hrm).1
            refine lcR (walk_listL (K := K) (a := lp) (pcsL n r) V.str) (fun i ys _ => ys.isEmpty = true ↔ ∀ z ∈ (pcsL n r).take i, z ∈ ws) (fun _ _ _ _ _ h => h) ⟨(fun _ _ m => by rw [List.take_zero] at m; cases m), fun _ => rfl⟩ (by omega) hD2 (yat_same _) (fun H' s' => SqL.of (s' _ _ elp)) (fun j x ys H8 H9 k hj sj eD hI hy k1 k0 => ?_) (fun ys H8 hl8 s8 e8 hI => ?_)
            · obtain ⟨rfl, hy⟩ := hy
              have hq' : (pcsL n r)[j]? = some (pcsL n r)[j] := List.getElem?_eq_getElem hj
              obtain rfl := map_get hq' hy
              generalize (pcsL n r)[j] = pc at hq'
              have tk : (pcsL n r).take (j + 1) = (pcsL n r).take j ++ [pc] := by rw [List.take_add_one, hq']; rfl
              refine ⟨rfl, _, rfl, _, rfl, d, _, rfl, DGet.k (k := Sum.inr pc) (sj _ _ (s47 _ _ ed')), _, rfl, ?_⟩
              rw [setD_val]
              by_cases m : pc ∈ ws
              · rw [decide_eq_true m]
                refine iteF (k0 _ (Same.refl _) ?_)
                rw [hI, tk]
                refine ⟨fun h b' m' => ?_, fun h b' m' => h b' (List.mem_append_left _ m')⟩
                rcases List.mem_append.mp m' with m' | m'
                · exact h b' m'
                · rw [List.mem_singleton] at m'
                  rw [m']
                  exact m
              · rw [decide_eq_false m]
                refine iteT ⟨_, rfl, k1 _ _ (Same.refl _) ?_⟩
                rw [tk]
                refine ⟨fun h => ?_, fun h => absurd (h pc (by simp)) m⟩
                cases ys <;> cases h
            · rw [List.take_length] at hI
              refine ⟨by show 0 ≤ sizeLine; decide, fun l0 h0' => ⟨D2, l0, _, rfl, rfl, SqL.of (keep1 e8 h0'), SqL.of upd_same, _, rfl, ?_⟩⟩
              rw [eif]
              refine ite2 (fun c => ?_) (fun c => ⟨_, _, rfl, (s47.trans s8).trans (same_new (o := .lst []) h0')⟩)
              have all := hI.mp c
              refine absurd ((hg r).mpr ⟨hrm, hso r hrm fun z hz => ?_⟩) hin2
              obtain ⟨y, hy1, hy2⟩ := snd z (all z hz)
              have hym := (hg y).mp hy1
              exact ⟨y, hym.1, hym.2, hy2⟩
        · obtain ⟨x7, x8, rfl, st⟩ := h
          exact kk _ (sF.trans st)
end
end My
namespace My
open PySem PySem.Spec PyProof.Rows L2 PySem.GX L2H LamX
def spAcc3 (C : Addr) : Sp := fun vs H Q E => spAccW C vs H Q E ∨ spAccL C vs H Q E ∨ spAccV C vs H Q E
theorem FnOk.or3 {P : Program} {w : World} {K : PySem.W.Frag} {mg : Str → Option Value} {base : Heap} {CX : CXT} {k : Nat} {f : Addr} {fd : FuncData} {ps : List Str} {s1 s2 s3 : Sp} (a : FnOk P w K mg base CX k f fd ps s1) (b : FnOk P w K mg base CX k f fd ps s2) (c : FnOk P w K mg base CX k f fd ps s3) : FnOk P w K mg base CX k f fd ps (fun vs H Q E => s1 vs H Q E ∨ s2 vs H Q E ∨ s3 vs H Q E) :=
  ⟨fun vs H Q E h => h.elim (a.len vs H Q E) fun h => h.elim (b.len vs H Q E) (c.len vs H Q E), fun A outer s H args us vs Q E hr e0 hb r h => h.elim (a.run A outer s H args us vs Q E hr e0 hb r) fun h => h.elim (b.run A outer s H args us vs Q E hr e0 hb r) (c.run A outer s H args us vs Q E hr e0 hb r)⟩
def spRightB : Sp := fun vs H Q _ => ∃ p : Addr, vs = [.ref p] ∧ Wl H p ∧ ∀ H' : Hp, Sb p H H' → Q (.bl true) H'
/-- a rule's box, its text -/
def BoxT (H : Hp) (q : Addr) (t : Str) (pp : Parts) : Prop := ∃ x ws fs kvs, Fine x ws fs kvs ∧ BxAt H q x ws fs kvs ∧ ws.length ≤ 10 ∧ t = textL x ws fs kvs ∧ pp = partsF x ws fs kvs
section
variable {H H' : Hp} {q p : Addr} {t : Str} {pp : Parts}
theorem BoxT.same (h : BoxT H q t pp) (s : Same H H') : BoxT H' q t pp := let ⟨x, ws, fs, kvs, a, b, r⟩ := h; ⟨x, ws, fs, kvs, a, b.same s, r⟩
theorem BoxT.sb (h : BoxT H q t pp) (w : Wl H p) (s : Sb p H H') : BoxT H' q t pp := let ⟨x, ws, fs, kvs, a, b, r⟩ := h; ⟨x, ws, fs, kvs, a, b.sb w s, r⟩
theorem BoxT.bxf (h : BoxT H q t pp) : BxF H q pp pp.ms := by
  obtain ⟨x, ws, fs, kvs, a, b, c, rfl, rfl⟩ := h
  exact bxF_of a b
theorem BoxT.ok (h : BoxT H q t pp) : PartsOk pp := by
  obtain ⟨x, ws, fs, kvs, a, b, c, rfl, rfl⟩ := h
  exact pok_of a
theorem BoxT.few (h : BoxT H q t pp) : pp.ms.length ≤ 10 := by
  obtain ⟨x, ws, fs, kvs, a, b, c, rfl, rfl⟩ := h
  exact c
theorem BoxT.text (h : BoxT H q t pp) : t.length ≤ 1000000 ∧ PyData.strOk t = true ∧ parseL t = some pp := by
  obtain ⟨x, ws, fs, kvs, a, b, c, rfl, rfl⟩ := h
  exact ⟨text_small (a.short (by omega)), text_ok a, fine_parse a⟩
theorem BoxT.told (h : BoxT H q t pp) : ∃ x ws fs kvs, BxAt H q x ws fs kvs ∧ Short x ws fs kvs ∧ t = textL x ws fs kvs := by
  obtain ⟨x, ws, fs, kvs, a, b, c, rfl, rfl⟩ := h
  exact ⟨x, ws, fs, kvs, b, a.short (by omega), rfl⟩
end
/-! what follows from a paper -/
theorem so_last {p : Parts} {n : Nat} {o : Option (List Itt)} (h : HoldsH p (n : Int) o) {x y : Str} (lx : x.length ≤ 7) (ly : y.length ≤ 7) (ix : InS p x) (iy : InS p y) (gy : GdR p y) (e : lookZ n x = lookZ n y) : GdR p x := by
  rcases look_same (by omega) (by omega) e with rfl | ⟨x0, y0, s, ex, ey, hn⟩
  · exact gy
  · unfold GdR at gy ⊢
    have hx : ∀ c ∈ x0 ++ s, c ∈ p.sg.cps.toList := fun c m => ix c (by rw [ex]; exact m)
    have hy : ∀ c ∈ y0 ++ s, c ∈ p.sg.cps.toList := fun c m => iy c (by rw [ey]; exact m)
    rw [ex, walk_app]
    rw [ey, walk_app] at gy
    exact (last_sound h (come_walk .first x0 fun c m => hx c (by simp [m])) (come_walk .first y0 fun c m => hy c (by simp [m])) s (fun c m => hx c (by simp [m])) hn).mpr gy
theorem so_windows {p : Parts} {n : Nat} {o : Option (List Itt)} (ok : PartsOk p) (h1 : 1 ≤ n) (h : HoldsW p (n : Int) o) {lines : List Str} (hl : ∀ r ∈ lines, r.length ≤ 7 ∧ InS p r) {x : Str} (lx : x.length ≤ 7) (ix : InS p x) (hp : ∀ w ∈ pcsL n x, ∃ y ∈ lines, GdR p y ∧ w ∈ pcsL n y) : GdR p x := by
  obtain ⟨ws, cl, hF⟩ := h
  refine win_sound ok cl h1 hF _ ix fun w hw => ?_
  rw [← pcsL_cps (by omega)] at hw
  obtain ⟨z, hz, rfl⟩ := List.mem_map.mp hw
  obtain ⟨y, hy, gy, m⟩ := hp z hz
  refine ⟨y.cps.toList, (hl y hy).2, gy, ?_⟩
  rw [← pcsL_cps (by have := (hl y hy).1; omega)]
  exact List.mem_map.mpr ⟨z, m, rfl⟩
/-- the second rule -/
def tMate : TE := fun σ H Q => ∃ (p q : Addr) (x : Str) (ws fs : List Str) (kvs : List (List Key × V)), σ[0]? = some (some (.ref p)) ∧ σ[1]? = some (some (.str x)) ∧ σ[2]? = some (some (.ref q)) ∧ Wl H p ∧ areSignsL [x] = true ∧ Fine x ws fs kvs ∧ BxAt H q x ws fs kvs ∧ ws.length ≤ 5 ∧
  ∀ (q' : Addr) (ws' fs' : List Str) (kvs' : List (List Key × V)) (H' : Hp), Fine x ws' fs' kvs' → BxAt H' q' x ws' fs' kvs' → ws'.length ≤ 5 → Sb p H H' → Wl H' p → Q (.ref q') H'
/-- how long the rows are -/
def tMost : TE := fun σ H Q => ∃ x : Str, σ[1]? = some (some (.str x)) ∧ 1 ≤ x.length ∧ x.length ≤ 3 ∧ ∀ (m : Nat) (H' : Hp), m ≤ 7 → Same H H' → Q (.int (m : Int)) H'
/-- the sort -/
def tSort : TE := fun σ H Q => ∃ p : Addr, σ[0]? = some (some (.ref p)) ∧ Wl H p ∧ ∀ (sort : Str) (H' : Hp), (sort = "last" ∨ sort = "windows" ∨ sort = "within") → Sb p H H' → Wl H' p → Q (.str sort) H'
/-- the number -/
def tNumC : TE := fun σ H Q => ∃ p : Addr, σ[0]? = some (some (.ref p)) ∧ Wl H p ∧ ∀ (n : Nat) (H' : Hp), 1 ≤ n → n ≤ 4 → Sb p H H' → Wl H' p → Q (.int (n : Int)) H'
/-- one claim -/
def tTurnC : TS := fun D σ H => ∃ (x1 x5 x6 x7 x8 : Option V) (p q1 q2 l : Addr) (t1 t2 : Str) (p1 p2 : Parts) (lines : List Str), σ = [some (.ref p), x1, some (.ref q1), some (.ref q2), some (.ref l), x5, x6, x7, x8] ∧ Wl H p ∧ BoxT H q1 t1 p1 ∧ BoxT H q2 t2 p2 ∧ p1.sg = p2.sg ∧ H l = some (.lst (lines.map V.str)) ∧ lines.length ≤ 100000 ∧ (∀ r ∈ lines, r.length ≤ 7 ∧ InS p1 r ∧ InS p2 r) ∧
  ∀ (y6 y7 y8 : Option V) (H' : Hp), Sb p H H' → Wl H' p → D.nx [some (.ref p), x1, some (.ref q1), some (.ref q2), some (.ref l), x5, y6, y7, y8] H'
section
variable {P : Program} {w : World} {K : PySem.W.Frag} {mg : Str → Option Value} {base : Heap} {C : Addr}
abbrev nRight3 : List Str := ["_law_purse_here", "_law_letters_here", "_law_box_here", "_law_mate", "_law_lines", "_law_turn", "_law_sort", "_law_size", "_law_thing"]
theorem scRight3 : FnScope nRight3 ["_law_purse_here"] (defScope sRight) := ⟨rfl, rfl, rfl, by decide +kernel, rfl, by decide +kernel, by decide +kernel⟩
theorem ok_right3 {f : Addr} {fd : FuncData} (F : Fun K "_law_right" "_law_right" sRight f fd) (hP : Hv P w K mg base 1 "_law_pick" ["_law_purse_here", "_law_size"] spPk) (hLt : Hv P w K mg base 2 "_law_letters" ["_law_purse_here", "_law_size"] spLetters) (hBx : Hv P w K mg base 3 "_law_box" ["_law_purse_here", "_law_letters_here"] spBox)
    (hWi : Hv P w K mg base 2 "_law_wider" ["_law_purse_here", "_law_box_here"] spWider) (hRo : Hv P w K mg base 1 "_law_rows_to" ["_law_letters_here", "_law_most"] spRowsTo) (hTx : Hv P w K mg base 1 "_law_text" ["_law_box_here"] spTextB)
    (hSl : Hv P w K mg base 3 "_law_slip" ["_law_purse_here", "_law_box_here", "_law_mate", "_law_sort"] spSlip3) (hSo : Hv P w K mg base 3 "_law_is_so" ["_law_box_here", "_law_mate", "_law_sort", "_law_size", "_law_lines"] spIsSo)
    (hAc : Hv P w K mg base 10 "accepts" ["claim", "paper"] (spAcc3 C)) (hR : mg "range" = none) (hL : mg "len" = none) : FnOk P w K mg base CX0 11 f fd ["_law_purse_here"] spRightB := by
  refine F.ok scRight3 (fun vs H Q E h => ?_) (fun cdv A outer s H vs Q E hr h => ?_)
  · obtain ⟨p, rfl, _⟩ := h
    rfl
  · obtain ⟨p, rfl, hW, k⟩ := h
    have hr1 : Room 1 (A.deeper (envOfC "_law_right" (defScope sRight) s.heap.objs.size f cdv)) := hr.mono (by decide)
    have hr2 : Room 2 (A.deeper (envOfC "_law_right" (defScope sRight) s.heap.objs.size f cdv)) := hr.mono (by decide)
    have hr3 : Room 3 (A.deeper (envOfC "_law_right" (defScope sRight) s.heap.objs.size f cdv)) := hr.mono (by decide)
    refine ⟨_, pss_cons (ps_set (i := 1) scRight3.nd rfl (Or.inl rfl) (pe_cl hLt hr2 rfl pass0 (pa_cons (pv 0) (pa_cons (pe_op op_add pe_int (pe_cl hP hr1 rfl pass0 (pa_cons (pv 0) (pa_cons pe_int pa_nil)))) pa_nil))))
      (pss_cons (ps_set (i := 2) scRight3.nd rfl (Or.inl rfl) (pe_cl hBx hr3 rfl pass0 (pa_cons (pv 0) (pa_cons (pv 1) pa_nil))))
      (pss_cons (ps_set (i := 3) scRight3.nd rfl (Or.inl rfl) (PE_imp (t' := tMate) (pe_ifExp (pt_cmpR op_eq (pe_cl hP hr1 rfl pass0 (pa_cons (pv 0) (pa_cons pe_int pa_nil))) pe_int (nomark _)) (pe_cl hWi hr2 rfl pass0 (pa_cons (pv 0) (pa_cons (pv 2) pa_nil))) (pe_cl hBx hr3 rfl pass0 (pa_cons (pv 0) (pa_cons (pv 1) pa_nil)))) ?iMate))
      (pss_cons (ps_set (i := 4) scRight3.nd rfl (Or.inl rfl) (pe_cl hRo hr1 rfl pass0 (pa_cons (pv 1) (pa_cons (PE_imp (t' := tMost) (pe_ix ix_list (pe_lst (pa_cons pe_int (pa_cons pe_int (pa_cons pe_int pa_nil)))) (pe_op op_sub (pe_callB call_len_str (by rfl) hL PySem.boot_len (pa_cons (pv 1) pa_nil)) pe_int) (fun _ _ => rfl)) ?iMost) pa_nil))))
      (pss_cons (ps_for PassesOwn.never rfl (pi_range1 rfl hR (pa_cons pe_int pa_nil)) (pg_name (i := 5) scRight3.nd rfl (Or.inl rfl))
        (PSs_impL (t' := tTurnC) (pss_cons (ps_par (i := 6) (j := 7) rfl scRight3.nd rfl rfl (by decide) rfl rfl (pa_cons (PE_imp (t' := tSort) (pe_ix ix_list (pe_lst (pa_cons pe_str (pa_cons pe_str (pa_cons pe_str pa_nil)))) (pe_cl hP hr1 rfl pass0 (pa_cons (pv 0) (pa_cons pe_int pa_nil))) (fun _ _ => rfl)) ?iSort) (pa_cons (PE_imp (t' := tNumC) (pe_op op_add pe_int (pe_cl hP hr1 rfl pass0 (pa_cons (pv 0) (pa_cons pe_int pa_nil)))) ?iNumC) pa_nil)) rfl)
        (pss_cons (ps_set (i := 8) scRight3.nd rfl (Or.inl rfl) (pe_tup (pa_cons (pv 6) (pa_cons (pe_cl hTx hr1 rfl pass0 (pa_cons (pv 2) pa_nil)) (pa_cons (pe_ifExp (pt_cmpR op_eq (pv 6) pe_str (nomark _)) (pe_cl hTx hr1 rfl pass0 (pa_cons (pv 3) pa_nil)) (pv 7)) pa_nil)))))
        (pss_one (ps_if (PW.pt (pw_and (pt_val (pe_cl hAc hr rfl pass0 (pa_cons (pv 8) (pa_cons (pe_cl hSl hr3 rfl pass0 (pa_cons (pv 0) (pa_cons (pv 2) (pa_cons (pv 3) (pa_cons (pv 6) pa_nil))))) pa_nil)))) (pw_and1 (pt_not (pt_val (pe_cl hSo hr3 rfl pass0 (pa_cons (pv 2) (pa_cons (pv 3) (pa_cons (pv 6) (pa_cons (pv 7) (pa_cons (pv 4) pa_nil))))))))))) (pss_one (ps_ret pe_bl)) pss_nil)))) ?iTurn))
      (pss_one (ps_ret pe_bl)))))), ?_⟩
    case iMate =>
      rintro σ H Q ⟨p, q, x, ws, fs, kvs, e0, e1, e2, hW, hx, fine, hB, w5, y⟩
      refine ⟨_, e0, p, 2, rfl, hW, by decide, by decide, fun d H1 d0 d1 s1 hW1 => ⟨rfl, _, rfl, ite2 (fun c => ?_) (fun c => ?_)⟩⟩
      · exact ⟨_, e0, _, e2, p, q, x, ws, fs, kvs, rfl, hW1, hB.sb hW s1, fine, w5, fun q' fs' H' fi sb hW' b' => y q' ws fs' kvs H' fi b' w5 (s1.trans sb) hW'⟩
      · exact ⟨_, e0, _, e1, p, x, rfl, hW1, hx, fun q' ws' fs' kvs' H' fi l5 _ sb hW' b' => y q' ws' fs' kvs' H' fi b' l5 (s1.trans sb) hW'⟩
    case iMost =>
      rintro σ H Q ⟨x, e1, z1, z3, y⟩
      refine ⟨by show 3 ≤ sizeLine; decide, fun l hl => ?_⟩
      have s1 := same_new (o := .lst [.int 7, .int 6, .int 4]) hl
      have el := upd_same (a := l) (H := H) (o := .lst [.int 7, .int 6, .int 4])
      refine ⟨_, e1, x, rfl, by rw [sizeLine_eq]; omega, _, _, rfl, rfl, ?_⟩
      have c : x.length = 1 ∨ x.length = 2 ∨ x.length = 3 := by omega
      rcases c with c | c | c
      · rw [c]; exact ⟨l, _, _, V.int 7, rfl, rfl, SqL.of el, atI_nat (j := 0) rfl, y 7 _ (by decide) s1⟩
      · rw [c]; exact ⟨l, _, _, V.int 6, rfl, rfl, SqL.of el, atI_nat (j := 1) rfl, y 6 _ (by decide) s1⟩
      · rw [c]; exact ⟨l, _, _, V.int 4, rfl, rfl, SqL.of el, atI_nat (j := 2) rfl, y 4 _ (by decide) s1⟩
    case iSort =>
      rintro σ H Q ⟨p, e0, hW, y⟩
      refine ⟨by show 3 ≤ sizeLine; decide, fun l hl => ?_⟩
      have s1 := same_new (o := .lst [.str "last", .str "windows", .str "within"]) hl
      have el := upd_same (a := l) (H := H) (o := .lst [.str "last", .str "windows", .str "within"])
      have nl := hW.new hl
      refine ⟨_, e0, p, 3, rfl, hW.same s1, by decide, by decide, fun d H1 d0 d1 s2 hW1 => ?_⟩
      obtain ⟨j, rfl⟩ := Int.eq_ofNat_of_zero_le d0
      have el1 := s2 _ _ nl el
      have sb := (Sb.of s1).trans s2
      match j, d1 with
      | 0, _ => exact ⟨l, _, _, V.str "last", rfl, rfl, SqL.of el1, atI_nat (j := 0) rfl, y _ _ (.inl rfl) sb hW1⟩
      | 1, _ => exact ⟨l, _, _, V.str "windows", rfl, rfl, SqL.of el1, atI_nat (j := 1) rfl, y _ _ (.inr (.inl rfl)) sb hW1⟩
      | 2, _ => exact ⟨l, _, _, V.str "within", rfl, rfl, SqL.of el1, atI_nat (j := 2) rfl, y _ _ (.inr (.inr rfl)) sb hW1⟩
      | j + 3, d1 => exact absurd d1 (by omega)
    case iNumC =>
      rintro σ H Q ⟨p, e0, hW, y⟩
      refine ⟨_, e0, p, 4, rfl, hW, by decide, by decide, fun d H2 d0 d1 s2 hW2 => ⟨_, _, rfl, rfl, ?_⟩⟩
      obtain ⟨m, rfl⟩ := Int.eq_ofNat_of_zero_le d0
      have y := y (1 + m) H2 (by omega) (by omega) s2 hW2
      rw [show ((1 + m : Nat) : Int) = 1 + (m : Int) by omega] at y
      exact y
    case iTurn =>
      rintro D σ H ⟨x1, x5, x6, x7, x8, p, q1, q2, l, t1, t2, p1, p2, lines, rfl, hW, hB1, hB2, hsg, el, zl, hin, y⟩
      refine ⟨p, rfl, hW, fun sort H1 hsort s1 hW1 => ?_⟩
      refine ⟨p, rfl, hW1, fun n H2 n1 n4 s2 hW2 => ⟨_, _, rfl, ?_⟩⟩
      have sA := s1.trans s2
      have nl := hW.neS el
      have hB1 := hB1.sb hW sA
      have hB2 := hB2.sb hW sA
      have el := sA _ _ nl el
      clear s1 s2 hW1
      have ok1 := hB1.ok
      have ok2 := hB2.ok
      have tx1 := hB1.text
      have tx2 := hB2.text
      obtain ⟨xa, wsa, fsa, kvsa, hBa, sha, eta⟩ := hB1.told
      rcases hsort with rfl | rfl | rfl
      · -- last
        refine ⟨_, rfl, _, rfl, q1, xa, wsa, fsa, kvsa, rfl, hBa, sha, fun H3 s3 => ?_⟩
        rw [← eta]
        refine ⟨_, rfl, rfl, _, rfl, iteF ⟨_, rfl, by show 3 ≤ sizeLine; decide, fun c hc => ?_⟩⟩
        have sc := s3.trans (same_new (o := .tup [.str "last", .str t1, .int (n : Int)]) hc)
        have ec := upd_same (a := c) (H := H3) (o := .tup [.str "last", .str t1, .int (n : Int)])
        generalize upd H3 c (.tup [.str "last", .str t1, .int (n : Int)]) = H4 at sc ec ⊢
        have hW4 := hW2.same sc
        have hB1 := hB1.same sc
        have hB2 := hB2.same sc
        have el := sc _ _ el
        have nc : c ≠ p := hW4.ne ec fun _ _ _ z => by cases z
        have nl := hW4.neS el
        refine ⟨_, rfl, _, rfl, _, rfl, _, rfl, _, rfl, p, q1, q2, p1, p2, "last", rfl, hW4, hB1.bxf, hB2.bxf, hsg, ok1, ok2, hB1.few, hB2.few, fun z => absurd z (by decide), fun _ v o H5 hP s5 hW5 => ?_⟩
        have ec := s5 _ _ nc ec
        refine .inr (.inl ⟨c, t1, p1, _, v, _, o, rfl, ec, tx1.1, tx1.2.1, tx1.2.2, .int _, hP, fun b H6 s6 hb => ⟨_, rfl, ite2 (fun cb => ?_) (fun cb => ?_)⟩⟩)
        · obtain ⟨n', e, _, _, hH⟩ := hb.mp cb
          injection e with e
          subst e
          have hB1 := (hB1.sb hW4 s5).same s6
          have hB2 := (hB2.sb hW4 s5).same s6
          refine ⟨_, rfl, _, rfl, _, rfl, _, rfl, _, rfl, q1, q2, l, p1, p2, "last", n, lines, rfl, hB1.bxf, hB2.bxf, ok1, ok2, s6 _ _ (s5 _ _ nl el), zl, hin, by omega, .inr (.inl ⟨rfl, fun x hx z hz gz e => so_last hH (hin x hx).1 (hin z hz).1 (hin x hx).2.1 (hin z hz).2.1 gz e⟩), fun H7 s7 => ⟨_, rfl, iteF ?_⟩⟩
          have s67 := s6.trans s7
          exact y _ _ _ _ ((sA.trans (Sb.of sc)).trans (s5.trans (Sb.of s67))) (hW5.same s67)
        · exact y _ _ _ _ ((sA.trans (Sb.of sc)).trans (s5.trans (Sb.of s6))) (hW5.same s6)
      · -- windows
        refine ⟨_, rfl, _, rfl, q1, xa, wsa, fsa, kvsa, rfl, hBa, sha, fun H3 s3 => ?_⟩
        rw [← eta]
        refine ⟨_, rfl, rfl, _, rfl, iteF ⟨_, rfl, by show 3 ≤ sizeLine; decide, fun c hc => ?_⟩⟩
        have sc := s3.trans (same_new (o := .tup [.str "windows", .str t1, .int (n : Int)]) hc)
        have ec := upd_same (a := c) (H := H3) (o := .tup [.str "windows", .str t1, .int (n : Int)])
        generalize upd H3 c (.tup [.str "windows", .str t1, .int (n : Int)]) = H4 at sc ec ⊢
        have hW4 := hW2.same sc
        have hB1 := hB1.same sc
        have hB2 := hB2.same sc
        have el := sc _ _ el
        have nc : c ≠ p := hW4.ne ec fun _ _ _ z => by cases z
        have nl := hW4.neS el
        refine ⟨_, rfl, _, rfl, _, rfl, _, rfl, _, rfl, p, q1, q2, p1, p2, "windows", rfl, hW4, hB1.bxf, hB2.bxf, hsg, ok1, ok2, hB1.few, hB2.few, fun z => absurd z (by decide), fun _ v o H5 hP s5 hW5 => ?_⟩
        have ec := s5 _ _ nc ec
        refine .inr (.inr ⟨c, t1, p1, _, v, _, o, rfl, ec, tx1.1, tx1.2.1, tx1.2.2, .int _, hP, fun b H6 s6 hb => ⟨_, rfl, ite2 (fun cb => ?_) (fun cb => ?_)⟩⟩)
        · obtain ⟨n', e, _, _, hH⟩ := hb.mp cb
          injection e with e
          subst e
          have hB1 := (hB1.sb hW4 s5).same s6
          have hB2 := (hB2.sb hW4 s5).same s6
          refine ⟨_, rfl, _, rfl, _, rfl, _, rfl, _, rfl, q1, q2, l, p1, p2, "windows", n, lines, rfl, hB1.bxf, hB2.bxf, ok1, ok2, s6 _ _ (s5 _ _ nl el), zl, hin, by omega, .inr (.inr ⟨rfl, fun x hx hp => so_windows ok1 n1 hH (fun r hr => ⟨(hin r hr).1, (hin r hr).2.1⟩) (hin x hx).1 (hin x hx).2.1 hp⟩), fun H7 s7 => ⟨_, rfl, iteF ?_⟩⟩
          have s67 := s6.trans s7
          exact y _ _ _ _ ((sA.trans (Sb.of sc)).trans (s5.trans (Sb.of s67))) (hW5.same s67)
        · exact y _ _ _ _ ((sA.trans (Sb.of sc)).trans (s5.trans (Sb.of s6))) (hW5.same s6)
      · -- within
        refine ⟨_, rfl, _, rfl, q1, xa, wsa, fsa, kvsa, rfl, hBa, sha, fun H3 s3 => ?_⟩
        rw [← eta]
        obtain ⟨xb, wsb, fsb, kvsb, hBb, shb, etb⟩ := (hB2.same s3).told
        refine ⟨_, rfl, rfl, _, rfl, iteT ⟨_, rfl, q2, xb, wsb, fsb, kvsb, rfl, hBb, shb, fun H3' s3' => ?_⟩⟩
        rw [← etb]
        refine ⟨by show 3 ≤ sizeLine; decide, fun c hc => ?_⟩
        have sc := (s3.trans s3').trans (same_new (o := .tup [.str "within", .str t1, .str t2]) hc)
        have ec := upd_same (a := c) (H := H3') (o := .tup [.str "within", .str t1, .str t2])
        generalize upd H3' c (.tup [.str "within", .str t1, .str t2]) = H4 at sc ec ⊢
        have hW4 := hW2.same sc
        have hB1 := hB1.same sc
        have hB2 := hB2.same sc
        have el := sc _ _ el
        have nc : c ≠ p := hW4.ne ec fun _ _ _ z => by cases z
        have nl := hW4.neS el
        refine ⟨_, rfl, _, rfl, _, rfl, _, rfl, _, rfl, p, q1, q2, p1, p2, "within", rfl, hW4, hB1.bxf, hB2.bxf, hsg, ok1, ok2, hB1.few, hB2.few, fun _ v o H5 hP s5 hW5 => ?_, fun z => absurd rfl z⟩
        have ec := s5 _ _ nc ec
        refine .inl ⟨c, t1, t2, p1, p2, v, o, rfl, ec, tx1.1, tx1.2.1, tx1.2.2, tx2.1, tx2.2.1, tx2.2.2, hP, fun b H6 s6 hb => ⟨_, rfl, ite2 (fun cb => ?_) (fun cb => ?_)⟩⟩
        · have hH := hb.mp cb
          have hB1 := (hB1.sb hW4 s5).same s6
          have hB2 := (hB2.sb hW4 s5).same s6
          refine ⟨_, rfl, _, rfl, _, rfl, _, rfl, _, rfl, q1, q2, l, p1, p2, "within", n, lines, rfl, hB1.bxf, hB2.bxf, ok1, ok2, s6 _ _ (s5 _ _ nl el), zl, hin, by omega, .inl ⟨rfl, fun x hx hg => within_sound hH _ (hin x hx).2.1 hg⟩, fun H7 s7 => ⟨_, rfl, iteF ?_⟩⟩
          have s67 := s6.trans s7
          exact y _ _ _ _ ((sA.trans (Sb.of sc)).trans (s5.trans (Sb.of s67))) (hW5.same s67)
        · exact y _ _ _ _ ((sA.trans (Sb.of sc)).trans (s5.trans (Sb.of s6))) (hW5.same s6)
    refine ⟨_, rfl, _, rfl, p, 3, rfl, hW, by decide, by decide, fun d H1 d0 d1 s1 hW1 => ?_⟩
    obtain ⟨m, rfl⟩ := Int.eq_ofNat_of_zero_le d0
    refine ⟨_, _, rfl, rfl, p, 1 + m, by rw [show ((1 + m : Nat) : Int) = 1 + (m : Int) by omega]; rfl, hW1, by omega, by omega, fun x H2 hx lx s2 hW2 => ?_⟩
    refine ⟨_, rfl, _, rfl, p, x, rfl, hW2, hx, fun q1 ws fs kvs H3 fine w5 k15 s3 hW3 bx => ?_⟩
    refine ⟨p, q1, x, ws, fs, kvs, rfl, rfl, rfl, hW3, hx, fine, bx, w5, fun q2 ws2 fs2 kvs2 H4 fine2 bx2 w52 s4 hW4 => ?_⟩
    refine ⟨_, rfl, x, rfl, by omega, by omega, fun mo H5 hmo s5 => ?_⟩
    refine ⟨x, mo, rfl, by omega, by omega, hmo, fun l lines H6 s6 el zl hl => ?_⟩
    have s56 := s5.trans s6
    have sA := ((s1.trans s2).trans s3).trans s4
    have sC := sA.trans (Sb.of s56)
    have hB1 : BoxT H6 q1 (textL x ws fs kvs) (partsF x ws fs kvs) := ⟨x, ws, fs, kvs, fine, (bx.sb hW3 s4).same s56, by omega, rfl, rfl⟩
    have hB2 : BoxT H6 q2 (textL x ws2 fs2 kvs2) (partsF x ws2 fs2 kvs2) := ⟨x, ws2, fs2, kvs2, fine2, bx2.same s56, by omega, rfl, rfl⟩
    have hW6 := hW4.same s56
    have hin : ∀ r ∈ lines, r.length ≤ 7 ∧ InS (partsF x ws fs kvs) r ∧ InS (partsF x ws2 fs2 kvs2) r := fun r hr => ⟨(hl r hr).1, (hl r hr).2, (hl r hr).2⟩
    have hsg : (partsF x ws fs kvs).sg = (partsF x ws2 fs2 kvs2).sg := rfl
    have nl := hW6.neS el
    refine ⟨8, rfl, by decide, by decide, for_range (n := 8) (fun i σ H' => (∃ x5 x6 x7 x8, σ = [some (.ref p), some (.str x), some (.ref q1), some (.ref q2), some (.ref l), x5, x6, x7, x8]) ∧ Sb p H6 H' ∧ Wl H' p) ⟨⟨_, _, _, _, rfl⟩, Sb.refl _ _, hW6⟩ (fun i σ H9 hi h => ?_) (fun σ H9 h => ?_)⟩
    · obtain ⟨⟨x5, x6, x7, x8, rfl⟩, s9, hW9⟩ := h
      exact ⟨_, _, _, _, _, p, q1, q2, l, _, _, _, _, lines, rfl, hW9, hB1.sb hW6 s9, hB2.sb hW6 s9, hsg, s9 _ _ nl el, zl, hin, fun y6 y7 y8 H' s' hW' => ⟨⟨_, _, _, _, rfl⟩, s9.trans s', hW'⟩⟩
    · obtain ⟨_, s9, _⟩ := h
      exact k H9 (sC.trans s9)
end
end My
namespace My
open PySem PySem.Spec PyProof.Rows L2 PySem.GX L2H LamX
abbrev nLawB : List Str := ["_law_script", "_law_k"]
def spLawB (K : PySem.W.Frag) : Sp := fun vs H Q _ => ∃ (a : Addr) (ns : List Int), vs = [.ref a] ∧ SqL K H a (ns.map V.int) ∧ ns.length ≤ 63 ∧ ∀ H', Q (.bl true) H'
theorem all_repB (n : Nat) : (List.replicate n true).all id = true := by
  induction n with
  | zero => rfl
  | succ n ih => rw [List.replicate_succ, List.all_cons, ih]; rfl
theorem sq_sameB {K : PySem.W.Frag} {H H' : Hp} {a : Addr} {xs : List V} (s : Same H H') (h : SqL K H a xs) : SqL K H' a xs := by
  rcases h with (h | ⟨o, h⟩) | h
  · exact .inl (.inl (s _ _ h))
  · exact .inl (.inr ⟨o, s _ _ h⟩)
  · exact .inr h
section
variable {P : Program} {w : World} {K : PySem.W.Frag} {mg : Str → Option Value} {base : Heap}
theorem scLawB : FnScope nLawB ["_law_script"] (defScope sLaw) := ⟨rfl, rfl, rfl, by decide +kernel, rfl, by decide +kernel, by decide +kernel⟩
theorem ok_lawB {f : Addr} {fd : FuncData} (F : Fun K "law" "law" sLaw f fd) (hAll : mg "all" = none) (hRange : mg "range" = none) (hMax : mg "max" = none) (hMin : mg "min" = none) (hL : mg "len" = none)
    (hCe : Hv P w K mg base 1 "_law_cell" ["_law_cells", "_law_k"] (spCell K)) (hPu : Hv P w K mg base 1 "_law_purse" ["_law_cell_here"] spPurse) (hRi : Hv P w K mg base 11 "_law_right" ["_law_purse_here"] spRightB) : FnOk P w K mg base CX0 12 f fd ["_law_script"] (spLawB K) := by
  refine F.ok scLawB (fun vs H Q E h => ?_) (fun cdv A outer s H vs Q E hr h => ?_)
  · obtain ⟨a, ns, rfl, _⟩ := h
    rfl
  · obtain ⟨a, ns, rfl, hS, hl, k⟩ := h
    have hr1 : Room 1 (A.deeper (envOfC "law" (defScope sLaw) s.heap.objs.size f cdv)) := hr.mono (by decide)
    refine ⟨_, pss_one (ps_ret (pe_callB (cr_all rfl) (by rfl) hAll (by decide +kernel) (pa_cons
        (pe_lc (own := [("_law_k", 1)]) (g := gName 1) (tt := tYes) rfl scLawB.nd
          (pi_range1 rfl hRange (pa_cons (pe_callB (call_max2 rfl) (by rfl) hMax (by decide +kernel) (pa_cons pe_int (pa_cons (pe_callB (call_min2 rfl) (by rfl) hMin (by decide +kernel) (pa_cons (pe_callB call_len_seq (by rfl) hL PySem.boot_len (pa_cons (pv 0) pa_nil)) (pa_cons pe_int pa_nil))) pa_nil))) pa_nil))
          (blkOk_by (N := nLawB) (sc := defScope sLaw) (by decide +kernel)) (fun _ _ _ _ _ => pg_name (i := 1) scLawB.nd rfl (Or.inl rfl)) (fun _ _ _ _ _ => pts_nil)
          (fun _ _ _ _ _ => pe_cl hRi hr rfl pass0 (pa_cons (pe_cl hPu hr1 rfl pass0 (pa_cons (pe_cl hCe hr1 rfl pass0 (pa_cons (pv 0) (pa_cons (pv 1) pa_nil))) pa_nil)) pa_nil))) pa_nil))), ?_⟩
    refine ⟨_, rfl, a, _, rfl, .inl hS, _, _, rfl, _, _, rfl, _, rfl, ?_, ?_, fun D hD => ?_⟩
    · rw [List.length_map]
      split <;> split <;> omega
    · rw [List.length_map]
      split <;> split <;> omega
    · rw [List.length_map] at *
      generalize hn : (if (if (3 : Int) < (ns.length : Int) then (3 : Int) else (ns.length : Int)) > 2 then (if (3 : Int) < (ns.length : Int) then (3 : Int) else (ns.length : Int)) else 2) = n
      have n1 : 0 ≤ n ∧ n ≤ 3 := by
        rw [← hn]
        constructor <;> split <;> split <;> omega
      refine lc_range (lo := 0) (n := n.toNat) (fun j H' => Same H H' ∧ H' D = some (.lst (List.replicate j (V.bl true)))) ⟨same_new hD, upd_same⟩ (fun j H' hj ⟨sH, eD⟩ => ?_) (fun H' ⟨sH, eD⟩ => ?_)
      · refine ⟨rfl, _, rfl, _, rfl, a, ns, _, rfl, sq_sameB sH hS, (by omega), (by omega), fun z H1 s1 => ⟨z, rfl, fun p H2 s2 np hW => ⟨p, rfl, hW, fun H3 s3 => ?_⟩⟩⟩
        have e1 := s1 _ _ eD
        have dp : D ≠ p := ne_of_none e1 np
        have eD2 : H3 D = some (.lst (List.replicate j (V.bl true))) := s3 D _ dp (s2 _ _ e1)
        refine ⟨_, eD2, ?_, fun b o e => ?_, ?_⟩
        · rw [List.length_replicate, sizeLine_eq]
          omega
        · rw [upd_ne (ne_of_none e hD)]
          have z0 := s1 _ _ (sH _ _ e)
          exact s3 b o (ne_of_none z0 np) (s2 _ _ z0)
        · rw [upd_same, ← List.replicate_succ']
      · refine ⟨D, List.replicate n.toNat true, rfl, SqL.of (by rw [List.map_replicate]; exact eD), ?_⟩
        rw [all_repB]
        exact k H'
end
end My
namespace My
open PySem PySem.Spec PyProof.Rows L2 PySem.GX L2H LamX
theorem FnG_of {P : Program} {w : World} {K : PySem.W.Frag} {mg : Str → Option Value} {base : Heap} {CX : CXT} {k : Nat} {f : Addr} {fd : FuncData} {ps : List Str} {sp : Sp} (F : FnOk P w K mg base CX k f fd ps sp) : FnG P w K mg base CX k f fd ps sp :=
  ⟨F.len, fun A outer s H args us vs Q E _ => F.run A outer s H args us vs Q E⟩
def frees : List Str := ["int", "len", "abs", "divmod", "isinstance", "repr", "all", "any", "range", "max", "min", "str", "set", "sorted", "list", "tuple", "dict", "bool"]
def chkF (K : PySem.W.Frag) : Bool := frees.all fun x => PySem.W.nsIn K mainGlobals x == some none
theorem free_of {K : PySem.W.Frag} {h : Heap} {mg : Str → Option Value} (X : K.In h) (G : h.Ns mainGlobals mg) (q : chkF K = true) {x : Str} (hx : x ∈ frees) : mg x = none := by
  unfold chkF at q
  exact PySem.W.mg_none_of X G (beq_iff_eq.mp (List.all_eq_true.mp q x hx))
section
variable {l : PySem.W.OpenLaw} {w : World} {K : PySem.W.Frag} {h : Heap} {mg : Str → Option Value}
theorem all_mk {fa : Addr} {CU C0 gol giw gas gam gag grg grr gro gtw gsa grp gsp gib gco grh glk gsq gsr gac glc glu glp glt gla glb glx gle glf glr glw gln glo glv glh glm glq gls glz glg gll gri pS gpS pM gpM pG gpG aC : Addr} {odol anol odiw aniw odas anas odam anam odag anag odrg anrg odrr anrr odro anro odtw antw odsa ansa odrp anrp odsp ansp odib anib odco anco odrh anrh odlk anlk odsq ansq odsr ansr odac anac odlc anlc odlu anlu odlp anlp odlt anlt odla anla odlb anlb odlx anlx odle anle odlf anlf odlr anlr odlw anlw odln anln odlo anlo odlv anlv odlh anlh odlm anlm odlq anlq odls anls odlz anlz odlg anlg odll anll odri anri odpS anpS odpM anpM odpG anpG : Option Addr} {slol sliw slas slam slag slrg slrr slro sltw slsa slrp slsp slib slco slrh sllk slsq slsr slac sllc sllu sllp sllt slla sllb sllx slle sllf sllr sllw slln sllo sllv sllh sllm sllq slls sllz sllg slll slri slpS slpM slpG slT : Array (Option Value)} {ocol kVol dcol pmol ctol cdol ociw kViw dciw pmiw ctiw cdiw ocas kVas dcas pmas ctas cdas ocam kVam dcam pmam ctam cdam ocag kVag dcag pmag ctag cdag ocrg kVrg dcrg pmrg ctrg cdrg ocrr kVrr dcrr pmrr ctrr cdrr ocro kVro dcro pmro ctro cdro octw kVtw dctw pmtw cttw cdtw ocsa kVsa dcsa pmsa ctsa cdsa ocrp kVrp dcrp pmrp ctrp cdrp ocsp kVsp dcsp pmsp ctsp cdsp ocib kVib dcib pmib ctib cdib occo kVco dcco pmco ctco cdco ocrh kVrh dcrh pmrh ctrh cdrh oclk kVlk dclk pmlk ctlk cdlk ocsq kVsq dcsq pmsq ctsq cdsq ocsr kVsr dcsr pmsr ctsr cdsr ocac kVac dcac pmac ctac cdac oclc kVlc dclc pmlc ctlc cdlc oclu kVlu dclu pmlu ctlu cdlu oclp kVlp dclp pmlp ctlp cdlp oclt kVlt dclt pmlt ctlt cdlt ocla kVla dcla pmla ctla cdla oclb kVlb dclb pmlb ctlb cdlb oclx kVlx dclx pmlx ctlx cdlx ocle kVle dcle pmle ctle cdle oclf kVlf dclf pmlf ctlf cdlf oclr kVlr dclr pmlr ctlr cdlr oclw kVlw dclw pmlw ctlw cdlw ocln kVln dcln pmln ctln cdln oclo kVlo dclo pmlo ctlo cdlo oclv kVlv dclv pmlv ctlv cdlv oclh kVlh dclh pmlh ctlh cdlh oclm kVlm dclm pmlm ctlm cdlm oclq kVlq dclq pmlq ctlq cdlq ocls kVls dcls pmls ctls cdls oclz kVlz dclz pmlz ctlz cdlz oclg kVlg dclg pmlg ctlg cdlg ocll kVll dcll pmll ctll cdll ocri kVri dcri pmri ctri cdri ocpS kVpS dcpS pmpS ctpS cdpS ocpM kVpM dcpM pmpM ctpM cdpM ocpG kVpG dcpG pmpG ctpG cdpG : Value} {tk0 tk1 tk3 tk4 tk6 u0 u1 u2 : Tok} {nT nC : Nat} {rsS rsM rsG : List Value} {esC : Array DictEntry} (X : K.In h) (G : h.Ns mainGlobals mg) (hfa : mg "law" = some (.ref fa))
    (acCU : PySem.W.nsIn K mainGlobals "Rule" = some (some (.ref CU)))
    (acC0 : PySem.W.nsIn K mainGlobals "InvalidText" = some (some (.ref C0)))
    (agol : PySem.W.nsIn K mainGlobals "made_of" = some (some (.ref gol)))
    (lgol : K.lookup gol = some ⟨ocol, odol, .func (PySem.W.fnOf "made_of" "made_of" (defArgs sMade) (defBody sMade) (defScope sMade) .none kVol dcol pmol anol cdol ctol), slol⟩)
    (cgol : PySem.W.codeIn K cdol "made_of" = true)
    (kgol : PySem.W.keepIn K (.ref gol) = true)
    (agiw : PySem.W.nsIn K mainGlobals "is_word" = some (some (.ref giw)))
    (lgiw : K.lookup giw = some ⟨ociw, odiw, .func (PySem.W.fnOf "is_word" "is_word" (defArgs sWord) (defBody sWord) (defScope sWord) .none kViw dciw pmiw aniw cdiw ctiw), sliw⟩)
    (cgiw : PySem.W.codeIn K cdiw "is_word" = true)
    (kgiw : PySem.W.keepIn K (.ref giw) = true)
    (agas : PySem.W.nsIn K mainGlobals "are_signs" = some (some (.ref gas)))
    (lgas : K.lookup gas = some ⟨ocas, odas, .func (PySem.W.fnOf "are_signs" "are_signs" (defArgs sSigns) (defBody sSigns) (defScope sSigns) .none kVas dcas pmas anas cdas ctas), slas⟩)
    (cgas : PySem.W.codeIn K cdas "are_signs" = true)
    (kgas : PySem.W.keepIn K (.ref gas) = true)
    (agam : PySem.W.nsIn K mainGlobals "are_moods" = some (some (.ref gam)))
    (lgam : K.lookup gam = some ⟨ocam, odam, .func (PySem.W.fnOf "are_moods" "are_moods" (defArgs sMoods) (defBody sMoods) (defScope sMoods) .none kVam dcam pmam anam cdam ctam), slam⟩)
    (cgam : PySem.W.codeIn K cdam "are_moods" = true)
    (kgam : PySem.W.keepIn K (.ref gam) = true)
    (agag : PySem.W.nsIn K mainGlobals "are_good" = some (some (.ref gag)))
    (lgag : K.lookup gag = some ⟨ocag, odag, .func (PySem.W.fnOf "are_good" "are_good" (defArgs sGood) (defBody sGood) (defScope sGood) .none kVag dcag pmag anag cdag ctag), slag⟩)
    (cgag : PySem.W.codeIn K cdag "are_good" = true)
    (kgag : PySem.W.keepIn K (.ref gag) = true)
    (agrg : PySem.W.nsIn K mainGlobals "read_goals" = some (some (.ref grg)))
    (lgrg : K.lookup grg = some ⟨ocrg, odrg, .func (PySem.W.fnOf "read_goals" "read_goals" (defArgs sGoals) (defBody sGoals) (defScope sGoals) .none kVrg dcrg pmrg anrg cdrg ctrg), slrg⟩)
    (cgrg : PySem.W.codeIn K cdrg "read_goals" = true)
    (kgrg : PySem.W.keepIn K (.ref grg) = true)
    (agrr : PySem.W.nsIn K mainGlobals "read_rule" = some (some (.ref grr)))
    (lgrr : K.lookup grr = some ⟨ocrr, odrr, .func (PySem.W.fnOf "read_rule" "read_rule" (defArgs sRead) (defBody sRead) (defScope sRead) .none kVrr dcrr pmrr anrr cdrr ctrr), slrr⟩)
    (cgrr : PySem.W.codeIn K cdrr "read_rule" = true)
    (kgrr : PySem.W.keepIn K (.ref grr) = true)
    (agro : PySem.W.nsIn K mainGlobals "rule_of" = some (some (.ref gro)))
    (lgro : K.lookup gro = some ⟨ocro, odro, .func (PySem.W.fnOf "rule_of" "rule_of" (defArgs sRuleOf) (defBody sRuleOf) (defScope sRuleOf) .none kVro dcro pmro anro cdro ctro), slro⟩)
    (cgro : PySem.W.codeIn K cdro "rule_of" = true)
    (kgro : PySem.W.keepIn K (.ref gro) = true)
    (agtw : PySem.W.nsIn K mainGlobals "two_rules" = some (some (.ref gtw)))
    (lgtw : K.lookup gtw = some ⟨octw, odtw, .func (PySem.W.fnOf "two_rules" "two_rules" (defArgs sTwoR) (defBody sTwoR) (defScope sTwoR) .none kVtw dctw pmtw antw cdtw cttw), sltw⟩)
    (cgtw : PySem.W.codeIn K cdtw "two_rules" = true)
    (kgtw : PySem.W.keepIn K (.ref gtw) = true)
    (agsa : PySem.W.nsIn K mainGlobals "as_set" = some (some (.ref gsa)))
    (lgsa : K.lookup gsa = some ⟨ocsa, odsa, .func (PySem.W.fnOf "as_set" "as_set" (defArgs sAsSet) (defBody sAsSet) (defScope sAsSet) .none kVsa dcsa pmsa ansa cdsa ctsa), slsa⟩)
    (cgsa : PySem.W.codeIn K cdsa "as_set" = true)
    (kgsa : PySem.W.keepIn K (.ref gsa) = true)
    (agrp : PySem.W.nsIn K mainGlobals "read_pairs" = some (some (.ref grp)))
    (lgrp : K.lookup grp = some ⟨ocrp, odrp, .func (PySem.W.fnOf "read_pairs" "read_pairs" (defArgs sRdPairs) (defBody sRdPairs) (defScope sRdPairs) .none kVrp dcrp pmrp anrp cdrp ctrp), slrp⟩)
    (cgrp : PySem.W.codeIn K cdrp "read_pairs" = true)
    (kgrp : PySem.W.keepIn K (.ref grp) = true)
    (agsp : PySem.W.nsIn K mainGlobals "shows_within" = some (some (.ref gsp)))
    (lgsp : K.lookup gsp = some ⟨ocsp, odsp, .func (PySem.W.fnOf "shows_within" "shows_within" (defArgs sWithin) (defBody sWithin) (defScope sWithin) .none kVsp dcsp pmsp ansp cdsp ctsp), slsp⟩)
    (cgsp : PySem.W.codeIn K cdsp "shows_within" = true)
    (kgsp : PySem.W.keepIn K (.ref gsp) = true)
    (agib : PySem.W.nsIn K mainGlobals "in_bounds" = some (some (.ref gib)))
    (lgib : K.lookup gib = some ⟨ocib, odib, .func (PySem.W.fnOf "in_bounds" "in_bounds" (defArgs sBounds) (defBody sBounds) (defScope sBounds) .none kVib dcib pmib anib cdib ctib), slib⟩)
    (cgib : PySem.W.codeIn K cdib "in_bounds" = true)
    (kgib : PySem.W.keepIn K (.ref gib) = true)
    (agco : PySem.W.nsIn K mainGlobals "coming_moods" = some (some (.ref gco)))
    (lgco : K.lookup gco = some ⟨occo, odco, .func (PySem.W.fnOf "coming_moods" "coming_moods" (defArgs sComing) (defBody sComing) (defScope sComing) .none kVco dcco pmco anco cdco ctco), slco⟩)
    (cgco : PySem.W.codeIn K cdco "coming_moods" = true)
    (kgco : PySem.W.keepIn K (.ref gco) = true)
    (agrh : PySem.W.nsIn K mainGlobals "read_heights" = some (some (.ref grh)))
    (lgrh : K.lookup grh = some ⟨ocrh, odrh, .func (PySem.W.fnOf "read_heights" "read_heights" (defArgs sRdH) (defBody sRdH) (defScope sRdH) .none kVrh dcrh pmrh anrh cdrh ctrh), slrh⟩)
    (cgrh : PySem.W.codeIn K cdrh "read_heights" = true)
    (kgrh : PySem.W.keepIn K (.ref grh) = true)
    (aglk : PySem.W.nsIn K mainGlobals "live_moods" = some (some (.ref glk)))
    (lglk : K.lookup glk = some ⟨oclk, odlk, .func (PySem.W.fnOf "live_moods" "live_moods" (defArgs sLive) (defBody sLive) (defScope sLive) .none kVlk dclk pmlk anlk cdlk ctlk), sllk⟩)
    (cglk : PySem.W.codeIn K cdlk "live_moods" = true)
    (kglk : PySem.W.keepIn K (.ref glk) = true)
    (agsq : PySem.W.nsIn K mainGlobals "shows_last" = some (some (.ref gsq)))
    (lgsq : K.lookup gsq = some ⟨ocsq, odsq, .func (PySem.W.fnOf "shows_last" "shows_last" (defArgs sLast) (defBody sLast) (defScope sLast) .none kVsq dcsq pmsq ansq cdsq ctsq), slsq⟩)
    (cgsq : PySem.W.codeIn K cdsq "shows_last" = true)
    (kgsq : PySem.W.keepIn K (.ref gsq) = true)
    (agsr : PySem.W.nsIn K mainGlobals "shows_windows" = some (some (.ref gsr)))
    (lgsr : K.lookup gsr = some ⟨ocsr, odsr, .func (PySem.W.fnOf "shows_windows" "shows_windows" (defArgs sWindows) (defBody sWindows) (defScope sWindows) .none kVsr dcsr pmsr ansr cdsr ctsr), slsr⟩)
    (cgsr : PySem.W.codeIn K cdsr "shows_windows" = true)
    (kgsr : PySem.W.keepIn K (.ref gsr) = true)
    (agac : PySem.W.nsIn K mainGlobals "accepts" = some (some (.ref gac)))
    (lgac : K.lookup gac = some ⟨ocac, odac, .func (PySem.W.fnOf "accepts" "accepts" (defArgs sAccepts) (defBody sAccepts) (defScope sAccepts) .none kVac dcac pmac anac cdac ctac), slac⟩)
    (cgac : PySem.W.codeIn K cdac "accepts" = true)
    (kgac : PySem.W.keepIn K (.ref gac) = true)
    (aglc : PySem.W.nsIn K mainGlobals "_law_cell" = some (some (.ref glc)))
    (lglc : K.lookup glc = some ⟨oclc, odlc, .func (PySem.W.fnOf "_law_cell" "_law_cell" (defArgs sCell) (defBody sCell) (defScope sCell) .none kVlc dclc pmlc anlc cdlc ctlc), sllc⟩)
    (cglc : PySem.W.codeIn K cdlc "_law_cell" = true)
    (kglc : PySem.W.keepIn K (.ref glc) = true)
    (aglu : PySem.W.nsIn K mainGlobals "_law_purse" = some (some (.ref glu)))
    (lglu : K.lookup glu = some ⟨oclu, odlu, .func (PySem.W.fnOf "_law_purse" "_law_purse" (defArgs sPurse) (defBody sPurse) (defScope sPurse) .none kVlu dclu pmlu anlu cdlu ctlu), sllu⟩)
    (cglu : PySem.W.codeIn K cdlu "_law_purse" = true)
    (kglu : PySem.W.keepIn K (.ref glu) = true)
    (aglp : PySem.W.nsIn K mainGlobals "_law_pick" = some (some (.ref glp)))
    (lglp : K.lookup glp = some ⟨oclp, odlp, .func (PySem.W.fnOf "_law_pick" "_law_pick" (defArgs sPick) (defBody sPick) (defScope sPick) .none kVlp dclp pmlp anlp cdlp ctlp), sllp⟩)
    (cglp : PySem.W.codeIn K cdlp "_law_pick" = true)
    (kglp : PySem.W.keepIn K (.ref glp) = true)
    (aglt : PySem.W.nsIn K mainGlobals "_law_letters" = some (some (.ref glt)))
    (lglt : K.lookup glt = some ⟨oclt, odlt, .func (PySem.W.fnOf "_law_letters" "_law_letters" (defArgs sLetters) (defBody sLetters) (defScope sLetters) .none kVlt dclt pmlt anlt cdlt ctlt), sllt⟩)
    (cglt : PySem.W.codeIn K cdlt "_law_letters" = true)
    (kglt : PySem.W.keepIn K (.ref glt) = true)
    (agla : PySem.W.nsIn K mainGlobals "_law_aim" = some (some (.ref gla)))
    (lgla : K.lookup gla = some ⟨ocla, odla, .func (PySem.W.fnOf "_law_aim" "_law_aim" (defArgs sAim) (defBody sAim) (defScope sAim) .none kVla dcla pmla anla cdla ctla), slla⟩)
    (cgla : PySem.W.codeIn K cdla "_law_aim" = true)
    (kgla : PySem.W.keepIn K (.ref gla) = true)
    (aglb : PySem.W.nsIn K mainGlobals "_law_box" = some (some (.ref glb)))
    (lglb : K.lookup glb = some ⟨oclb, odlb, .func (PySem.W.fnOf "_law_box" "_law_box" (defArgs sBox) (defBody sBox) (defScope sBox) .none kVlb dclb pmlb anlb cdlb ctlb), sllb⟩)
    (cglb : PySem.W.codeIn K cdlb "_law_box" = true)
    (kglb : PySem.W.keepIn K (.ref glb) = true)
    (aglx : PySem.W.nsIn K mainGlobals "_law_text" = some (some (.ref glx)))
    (lglx : K.lookup glx = some ⟨oclx, odlx, .func (PySem.W.fnOf "_law_text" "_law_text" (defArgs sText) (defBody sText) (defScope sText) .none kVlx dclx pmlx anlx cdlx ctlx), sllx⟩)
    (cglx : PySem.W.codeIn K cdlx "_law_text" = true)
    (kglx : PySem.W.keepIn K (.ref glx) = true)
    (agle : PySem.W.nsIn K mainGlobals "_law_end" = some (some (.ref gle)))
    (lgle : K.lookup gle = some ⟨ocle, odle, .func (PySem.W.fnOf "_law_end" "_law_end" (defArgs sEnd) (defBody sEnd) (defScope sEnd) .none kVle dcle pmle anle cdle ctle), slle⟩)
    (cgle : PySem.W.codeIn K cdle "_law_end" = true)
    (kgle : PySem.W.keepIn K (.ref gle) = true)
    (aglf : PySem.W.nsIn K mainGlobals "_law_is_fine" = some (some (.ref glf)))
    (lglf : K.lookup glf = some ⟨oclf, odlf, .func (PySem.W.fnOf "_law_is_fine" "_law_is_fine" (defArgs sFine) (defBody sFine) (defScope sFine) .none kVlf dclf pmlf anlf cdlf ctlf), sllf⟩)
    (cglf : PySem.W.codeIn K cdlf "_law_is_fine" = true)
    (kglf : PySem.W.keepIn K (.ref glf) = true)
    (aglr : PySem.W.nsIn K mainGlobals "_law_reached" = some (some (.ref glr)))
    (lglr : K.lookup glr = some ⟨oclr, odlr, .func (PySem.W.fnOf "_law_reached" "_law_reached" (defArgs sReached) (defBody sReached) (defScope sReached) .none kVlr dclr pmlr anlr cdlr ctlr), sllr⟩)
    (cglr : PySem.W.codeIn K cdlr "_law_reached" = true)
    (kglr : PySem.W.keepIn K (.ref glr) = true)
    (aglw : PySem.W.nsIn K mainGlobals "_law_live" = some (some (.ref glw)))
    (lglw : K.lookup glw = some ⟨oclw, odlw, .func (PySem.W.fnOf "_law_live" "_law_live" (defArgs sLiveW) (defBody sLiveW) (defScope sLiveW) .none kVlw dclw pmlw anlw cdlw ctlw), sllw⟩)
    (cglw : PySem.W.codeIn K cdlw "_law_live" = true)
    (kglw : PySem.W.keepIn K (.ref glw) = true)
    (agln : PySem.W.nsIn K mainGlobals "_law_unlike" = some (some (.ref gln)))
    (lgln : K.lookup gln = some ⟨ocln, odln, .func (PySem.W.fnOf "_law_unlike" "_law_unlike" (defArgs sUnlike) (defBody sUnlike) (defScope sUnlike) .none kVln dcln pmln anln cdln ctln), slln⟩)
    (cgln : PySem.W.codeIn K cdln "_law_unlike" = true)
    (kgln : PySem.W.keepIn K (.ref gln) = true)
    (aglo : PySem.W.nsIn K mainGlobals "_law_look" = some (some (.ref glo)))
    (lglo : K.lookup glo = some ⟨oclo, odlo, .func (PySem.W.fnOf "_law_look" "_law_look" (defArgs sLLook) (defBody sLLook) (defScope sLLook) .none kVlo dclo pmlo anlo cdlo ctlo), sllo⟩)
    (cglo : PySem.W.codeIn K cdlo "_law_look" = true)
    (kglo : PySem.W.keepIn K (.ref glo) = true)
    (aglv : PySem.W.nsIn K mainGlobals "_law_wider" = some (some (.ref glv)))
    (lglv : K.lookup glv = some ⟨oclv, odlv, .func (PySem.W.fnOf "_law_wider" "_law_wider" (defArgs sWider) (defBody sWider) (defScope sWider) .none kVlv dclv pmlv anlv cdlv ctlv), sllv⟩)
    (cglv : PySem.W.codeIn K cdlv "_law_wider" = true)
    (kglv : PySem.W.keepIn K (.ref glv) = true)
    (aglh : PySem.W.nsIn K mainGlobals "_law_heights" = some (some (.ref glh)))
    (lglh : K.lookup glh = some ⟨oclh, odlh, .func (PySem.W.fnOf "_law_heights" "_law_heights" (defArgs sHeights) (defBody sHeights) (defScope sHeights) .none kVlh dclh pmlh anlh cdlh ctlh), sllh⟩)
    (cglh : PySem.W.codeIn K cdlh "_law_heights" = true)
    (kglh : PySem.W.keepIn K (.ref glh) = true)
    (aglm : PySem.W.nsIn K mainGlobals "_law_rows_to" = some (some (.ref glm)))
    (lglm : K.lookup glm = some ⟨oclm, odlm, .func (PySem.W.fnOf "_law_rows_to" "_law_rows_to" (defArgs sRowsTo) (defBody sRowsTo) (defScope sRowsTo) .none kVlm dclm pmlm anlm cdlm ctlm), sllm⟩)
    (cglm : PySem.W.codeIn K cdlm "_law_rows_to" = true)
    (kglm : PySem.W.keepIn K (.ref glm) = true)
    (aglq : PySem.W.nsIn K mainGlobals "_law_pieces" = some (some (.ref glq)))
    (lglq : K.lookup glq = some ⟨oclq, odlq, .func (PySem.W.fnOf "_law_pieces" "_law_pieces" (defArgs sLPieces) (defBody sLPieces) (defScope sLPieces) .none kVlq dclq pmlq anlq cdlq ctlq), sllq⟩)
    (cglq : PySem.W.codeIn K cdlq "_law_pieces" = true)
    (kglq : PySem.W.keepIn K (.ref glq) = true)
    (agls : PySem.W.nsIn K mainGlobals "_law_slip" = some (some (.ref gls)))
    (lgls : K.lookup gls = some ⟨ocls, odls, .func (PySem.W.fnOf "_law_slip" "_law_slip" (defArgs sSlip) (defBody sSlip) (defScope sSlip) .none kVls dcls pmls anls cdls ctls), slls⟩)
    (cgls : PySem.W.codeIn K cdls "_law_slip" = true)
    (kgls : PySem.W.keepIn K (.ref gls) = true)
    (aglz : PySem.W.nsIn K mainGlobals "_law_is_so" = some (some (.ref glz)))
    (lglz : K.lookup glz = some ⟨oclz, odlz, .func (PySem.W.fnOf "_law_is_so" "_law_is_so" (defArgs sIsSo) (defBody sIsSo) (defScope sIsSo) .none kVlz dclz pmlz anlz cdlz ctlz), sllz⟩)
    (cglz : PySem.W.codeIn K cdlz "_law_is_so" = true)
    (kglz : PySem.W.keepIn K (.ref glz) = true)
    (aglg : PySem.W.nsIn K mainGlobals "_law_right" = some (some (.ref glg)))
    (lglg : K.lookup glg = some ⟨oclg, odlg, .func (PySem.W.fnOf "_law_right" "_law_right" (defArgs sRight) (defBody sRight) (defScope sRight) .none kVlg dclg pmlg anlg cdlg ctlg), sllg⟩)
    (cglg : PySem.W.codeIn K cdlg "_law_right" = true)
    (kglg : PySem.W.keepIn K (.ref glg) = true)
    (agll : PySem.W.nsIn K mainGlobals "law" = some (some (.ref gll)))
    (lgll : K.lookup gll = some ⟨ocll, odll, .func (PySem.W.fnOf "law" "law" (defArgs sLaw) (defBody sLaw) (defScope sLaw) .none kVll dcll pmll anll cdll ctll), slll⟩)
    (cgll : PySem.W.codeIn K cdll "law" = true)
    (kgll : PySem.W.keepIn K (.ref gll) = true)
    (amri : PySem.W.findIn K (.ref CU) "__init__" = some (some (.ref gri)))
    (airi : PySem.W.isFn K (.ref gri) = true)
    (lgri : K.lookup gri = some ⟨ocri, odri, .func (PySem.W.fnOf "__init__" "Rule.__init__" (defArgs sInit) (defBody sInit) (defScope sInit) .none kVri dcri pmri anri cdri ctri), slri⟩)
    (cgri : PySem.W.codeIn K cdri "Rule.__init__" = true)
    (kgri : PySem.W.keepIn K (.ref gri) = true)
    (atS : PySem.W.findIn K (.ref CU) "signs" = some (some (.ref pS)))
    (gtS : PySem.W.specialIn K (.ref pS) "__get__" = some (some (.builtin "property.__get__")))
    (ttS : PySem.W.takesIn K (.ref pS) = some true)
    (rtS : PySem.W.recIn K pS "property" = some (.ref gpS :: rsS))
    (lgpS : K.lookup gpS = some ⟨ocpS, odpS, .func (PySem.W.fnOf "signs" "Rule.signs" (defArgs (inClass sRule 2)) (defBody (inClass sRule 2)) (defScope (inClass sRule 2)) .none kVpS dcpS pmpS anpS cdpS ctpS), slpS⟩)
    (cgpS : PySem.W.codeIn K cdpS "Rule.signs" = true)
    (kgpS : PySem.W.keepIn K (.ref gpS) = true)
    (atM : PySem.W.findIn K (.ref CU) "moods" = some (some (.ref pM)))
    (gtM : PySem.W.specialIn K (.ref pM) "__get__" = some (some (.builtin "property.__get__")))
    (ttM : PySem.W.takesIn K (.ref pM) = some true)
    (rtM : PySem.W.recIn K pM "property" = some (.ref gpM :: rsM))
    (lgpM : K.lookup gpM = some ⟨ocpM, odpM, .func (PySem.W.fnOf "moods" "Rule.moods" (defArgs (inClass sRule 3)) (defBody (inClass sRule 3)) (defScope (inClass sRule 3)) .none kVpM dcpM pmpM anpM cdpM ctpM), slpM⟩)
    (cgpM : PySem.W.codeIn K cdpM "Rule.moods" = true)
    (kgpM : PySem.W.keepIn K (.ref gpM) = true)
    (atG : PySem.W.findIn K (.ref CU) "good" = some (some (.ref pG)))
    (gtG : PySem.W.specialIn K (.ref pG) "__get__" = some (some (.builtin "property.__get__")))
    (ttG : PySem.W.takesIn K (.ref pG) = some true)
    (rtG : PySem.W.recIn K pG "property" = some (.ref gpG :: rsG))
    (lgpG : K.lookup gpG = some ⟨ocpG, odpG, .func (PySem.W.fnOf "good" "Rule.good" (defArgs (inClass sRule 4)) (defBody (inClass sRule 4)) (defScope (inClass sRule 4)) .none kVpG dcpG pmpG anpG cdpG ctpG), slpG⟩)
    (cgpG : PySem.W.codeIn K cdpG "Rule.good" = true)
    (kgpG : PySem.W.keepIn K (.ref gpG) = true)
    (av0 : PySem.W.nsIn K mainGlobals "MOST_SIGNS" = some (some (.int 3 tk0)))
    (av1 : PySem.W.nsIn K mainGlobals "MOST_MOODS" = some (some (.int 300 tk1)))
    (av3 : PySem.W.nsIn K mainGlobals "LONGEST_WORD" = some (some (.int 8 tk3)))
    (av4 : PySem.W.nsIn K mainGlobals "LETTERS" = some (some (.str abc tk4)))
    (av6 : PySem.W.nsIn K mainGlobals "MOST_LOOK" = some (some (.int 1000 tk6)))
    (atT : PySem.W.nsIn K mainGlobals "TITLES" = some (some (.ref tT)))
    (ltT : K.lookup tT = some ⟨.type "tuple", none, .seq #[.str "signs" u0, .str "moods" u1, .str "good" u2] nT, slT⟩)
    (pg : PySem.W.plainGet K CU Str.empty = true)
    (hd : PySem.W.hasDictIn K CU = true)
    (po : PySem.W.plainOver K CU = true)
    (sa : PySem.W.findIn K (.ref CU) "__setattr__" = some (some (.builtin "object.__setattr__")))
    (mk : PySem.W.makesIn K CU = true)
    (kc : PySem.W.keepIn K (.ref CU) = true)
    (nf0 : PySem.W.findIn K (.ref CU) "written" = some none)
    (nf1 : PySem.W.findIn K (.ref CU) "letters" = some none)
    (nf2 : PySem.W.findIn K (.ref CU) "words" = some none)
    (nf3 : PySem.W.findIn K (.ref CU) "chosen" = some none)
    (nf4 : PySem.W.findIn K (.ref CU) "goals" = some none)
    (ataC : PySem.W.nsIn K mainGlobals "CLAIMS" = some (some (.ref aC)))
    (ltaC : K.lookup aC = some ⟨.type "dict", none, .dict esC nC, #[]⟩)
    (klaC : PySem.W.KeysLit w.params esC.toList)
    (loaC : (aC == sysModules) = false)
    (ksp : PySem.W.nsIn K aC "within" = some (some (.ref gsp)))
    (ksq : PySem.W.nsIn K aC "last" = some (some (.ref gsq)))
    (ksr : PySem.W.nsIn K aC "windows" = some (some (.ref gsr)))
    (hcf : chkF K = true) :
    ∃ fd : FuncData, (∀ (s : Shared) (v : Value), BindsTo s fd ⟨[v], []⟩ [("_law_script", v)]) ∧ ∀ base : Heap, K.In base → base.Ns mainGlobals mg → FnG l.prog w K mg base CX0 12 fa fd ["_law_script"] (spLawB K) := by
  have e := hfa.symm.trans (PySem.W.mg_of X G agll)
  cases e
  have fr := fun {x : Str} (hx : x ∈ frees) => free_of X G hcf hx
  have mcCU := PySem.W.mg_of X G acCU
  have mcC0 := PySem.W.mg_of X G acC0
  have Fol := fun_mk (st := sMade) lgol cgol kgol
  have bol := Fol.binds (ps := ["text", "letters"]) fun _ _ _ _ _ _ us hl => match us, hl with | [_, _], _ => rfl
  have mol := PySem.W.mg_of X G agol
  have Fiw := fun_mk (st := sWord) lgiw cgiw kgiw
  have biw := Fiw.binds (ps := ["text"]) fun _ _ _ _ _ _ us hl => match us, hl with | [_], _ => rfl
  have miw := PySem.W.mg_of X G agiw
  have Fas := fun_mk (st := sSigns) lgas cgas kgas
  have bas := Fas.binds (ps := ["words"]) fun _ _ _ _ _ _ us hl => match us, hl with | [_], _ => rfl
  have mas := PySem.W.mg_of X G agas
  have Fam := fun_mk (st := sMoods) lgam cgam kgam
  have bam := Fam.binds (ps := ["words"]) fun _ _ _ _ _ _ us hl => match us, hl with | [_], _ => rfl
  have mam := PySem.W.mg_of X G agam
  have Fag := fun_mk (st := sGood) lgag cgag kgag
  have bag := Fag.binds (ps := ["words", "moods"]) fun _ _ _ _ _ _ us hl => match us, hl with | [_, _], _ => rfl
  have mag := PySem.W.mg_of X G agag
  have Frg := fun_mk (st := sGoals) lgrg cgrg kgrg
  have brg := Frg.binds (ps := ["signs", "moods", "rows"]) fun _ _ _ _ _ _ us hl => match us, hl with | [_, _, _], _ => rfl
  have mrg := PySem.W.mg_of X G agrg
  have Frr := fun_mk (st := sRead) lgrr cgrr kgrr
  have brr := Frr.binds (ps := ["text"]) fun _ _ _ _ _ _ us hl => match us, hl with | [_], _ => rfl
  have mrr := PySem.W.mg_of X G agrr
  have Fro := fun_mk (st := sRuleOf) lgro cgro kgro
  have bro := Fro.binds (ps := ["text"]) fun _ _ _ _ _ _ us hl => match us, hl with | [_], _ => rfl
  have mro := PySem.W.mg_of X G agro
  have Ftw := fun_mk (st := sTwoR) lgtw cgtw kgtw
  have btw := Ftw.binds (ps := ["one", "other"]) fun _ _ _ _ _ _ us hl => match us, hl with | [_, _], _ => rfl
  have mtw := PySem.W.mg_of X G agtw
  have Fsa := fun_mk (st := sAsSet) lgsa cgsa kgsa
  have bsa := Fsa.binds (ps := ["words"]) fun _ _ _ _ _ _ us hl => match us, hl with | [_], _ => rfl
  have msa := PySem.W.mg_of X G agsa
  have Frp := fun_mk (st := sRdPairs) lgrp cgrp kgrp
  have brp := Frp.binds (ps := ["one", "other", "paper"]) fun _ _ _ _ _ _ us hl => match us, hl with | [_, _, _], _ => rfl
  have mrp := PySem.W.mg_of X G agrp
  have Fsp := fun_mk (st := sWithin) lgsp cgsp kgsp
  have bsp := Fsp.binds (ps := ["one", "other", "paper"]) fun _ _ _ _ _ _ us hl => match us, hl with | [_, _, _], _ => rfl
  have msp := PySem.W.mg_of X G agsp
  have Fib := fun_mk (st := sBounds) lgib cgib kgib
  have bib := Fib.binds (ps := ["value", "low", "high"]) fun _ _ _ _ _ _ us hl => match us, hl with | [_, _, _], _ => rfl
  have mib := PySem.W.mg_of X G agib
  have Fco := fun_mk (st := sComing) lgco cgco kgco
  have bco := Fco.binds (ps := ["rule"]) fun _ _ _ _ _ _ us hl => match us, hl with | [_], _ => rfl
  have mco := PySem.W.mg_of X G agco
  have Frh := fun_mk (st := sRdH) lgrh cgrh kgrh
  have brh := Frh.binds (ps := ["moods", "most", "paper"]) fun _ _ _ _ _ _ us hl => match us, hl with | [_, _, _], _ => rfl
  have mrh := PySem.W.mg_of X G agrh
  have Flk := fun_mk (st := sLive) lglk cglk kglk
  have blk := Flk.binds (ps := ["rule"]) fun _ _ _ _ _ _ us hl => match us, hl with | [_], _ => rfl
  have mlk := PySem.W.mg_of X G aglk
  have Fsq := fun_mk (st := sLast) lgsq cgsq kgsq
  have bsq := Fsq.binds (ps := ["text", "number", "paper"]) fun _ _ _ _ _ _ us hl => match us, hl with | [_, _, _], _ => rfl
  have msq := PySem.W.mg_of X G agsq
  have Fsr := fun_mk (st := sWindows) lgsr cgsr kgsr
  have bsr := Fsr.binds (ps := ["text", "number", "paper"]) fun _ _ _ _ _ _ us hl => match us, hl with | [_, _, _], _ => rfl
  have msr := PySem.W.mg_of X G agsr
  have Fac := fun_mk (st := sAccepts) lgac cgac kgac
  have bac := Fac.binds (ps := ["claim", "paper"]) fun _ _ _ _ _ _ us hl => match us, hl with | [_, _], _ => rfl
  have mac := PySem.W.mg_of X G agac
  have Flc := fun_mk (st := sCell) lglc cglc kglc
  have blc := Flc.binds (ps := ["_law_cells", "_law_k"]) fun _ _ _ _ _ _ us hl => match us, hl with | [_, _], _ => rfl
  have mlc := PySem.W.mg_of X G aglc
  have Flu := fun_mk (st := sPurse) lglu cglu kglu
  have blu := Flu.binds (ps := ["_law_cell_here"]) fun _ _ _ _ _ _ us hl => match us, hl with | [_], _ => rfl
  have mlu := PySem.W.mg_of X G aglu
  have Flp := fun_mk (st := sPick) lglp cglp kglp
  have blp := Flp.binds (ps := ["_law_purse_here", "_law_size"]) fun _ _ _ _ _ _ us hl => match us, hl with | [_, _], _ => rfl
  have mlp := PySem.W.mg_of X G aglp
  have Flt := fun_mk (st := sLetters) lglt cglt kglt
  have blt := Flt.binds (ps := ["_law_purse_here", "_law_size"]) fun _ _ _ _ _ _ us hl => match us, hl with | [_, _], _ => rfl
  have mlt := PySem.W.mg_of X G aglt
  have Fla := fun_mk (st := sAim) lgla cgla kgla
  have bla := Fla.binds (ps := ["_law_purse_here", "_law_way", "_law_size", "_law_count", "_law_spot", "_law_step"]) fun _ _ _ _ _ _ us hl => match us, hl with | [_, _, _, _, _, _], _ => rfl
  have mla := PySem.W.mg_of X G agla
  have Flb := fun_mk (st := sBox) lglb cglb kglb
  have blb := Flb.binds (ps := ["_law_purse_here", "_law_letters_here"]) fun _ _ _ _ _ _ us hl => match us, hl with | [_, _], _ => rfl
  have mlb := PySem.W.mg_of X G aglb
  have Flx := fun_mk (st := sText) lglx cglx kglx
  have blx := Flx.binds (ps := ["_law_box_here"]) fun _ _ _ _ _ _ us hl => match us, hl with | [_], _ => rfl
  have mlx := PySem.W.mg_of X G aglx
  have Fle := fun_mk (st := sEnd) lgle cgle kgle
  have ble := Fle.binds (ps := ["_law_box_here", "_law_begin", "_law_line"]) fun _ _ _ _ _ _ us hl => match us, hl with | [_, _, _], _ => rfl
  have mle := PySem.W.mg_of X G agle
  have Flf := fun_mk (st := sFine) lglf cglf kglf
  have blf := Flf.binds (ps := ["_law_box_here", "_law_line"]) fun _ _ _ _ _ _ us hl => match us, hl with | [_, _], _ => rfl
  have mlf := PySem.W.mg_of X G aglf
  have Flr := fun_mk (st := sReached) lglr cglr kglr
  have blr := Flr.binds (ps := ["_law_box_here", "_law_begin"]) fun _ _ _ _ _ _ us hl => match us, hl with | [_, _], _ => rfl
  have mlr := PySem.W.mg_of X G aglr
  have Flw := fun_mk (st := sLiveW) lglw cglw kglw
  have blw := Flw.binds (ps := ["_law_box_here"]) fun _ _ _ _ _ _ us hl => match us, hl with | [_], _ => rfl
  have mlw := PySem.W.mg_of X G aglw
  have Fln := fun_mk (st := sUnlike) lgln cgln kgln
  have bln := Fln.binds (ps := ["_law_box_here"]) fun _ _ _ _ _ _ us hl => match us, hl with | [_], _ => rfl
  have mln := PySem.W.mg_of X G agln
  have Flo := fun_mk (st := sLLook) lglo cglo kglo
  have blo := Flo.binds (ps := ["_law_sort", "_law_size", "_law_line"]) fun _ _ _ _ _ _ us hl => match us, hl with | [_, _, _], _ => rfl
  have mlo := PySem.W.mg_of X G aglo
  have Flv := fun_mk (st := sWider) lglv cglv kglv
  have blv := Flv.binds (ps := ["_law_purse_here", "_law_box_here"]) fun _ _ _ _ _ _ us hl => match us, hl with | [_, _], _ => rfl
  have mlv := PySem.W.mg_of X G aglv
  have Flh := fun_mk (st := sHeights) lglh cglh kglh
  have blh := Flh.binds (ps := ["_law_box_here", "_law_unlike_here", "_law_some"]) fun _ _ _ _ _ _ us hl => match us, hl with | [_, _, _], _ => rfl
  have mlh := PySem.W.mg_of X G aglh
  have Flm := fun_mk (st := sRowsTo) lglm cglm kglm
  have blm := Flm.binds (ps := ["_law_letters_here", "_law_most"]) fun _ _ _ _ _ _ us hl => match us, hl with | [_, _], _ => rfl
  have mlm := PySem.W.mg_of X G aglm
  have Flq := fun_mk (st := sLPieces) lglq cglq kglq
  have blq := Flq.binds (ps := ["_law_size", "_law_line"]) fun _ _ _ _ _ _ us hl => match us, hl with | [_, _], _ => rfl
  have mlq := PySem.W.mg_of X G aglq
  have Fls := fun_mk (st := sSlip) lgls cgls kgls
  have bls := Fls.binds (ps := ["_law_purse_here", "_law_box_here", "_law_mate", "_law_sort"]) fun _ _ _ _ _ _ us hl => match us, hl with | [_, _, _, _], _ => rfl
  have mls := PySem.W.mg_of X G agls
  have Flz := fun_mk (st := sIsSo) lglz cglz kglz
  have blz := Flz.binds (ps := ["_law_box_here", "_law_mate", "_law_sort", "_law_size", "_law_lines"]) fun _ _ _ _ _ _ us hl => match us, hl with | [_, _, _, _, _], _ => rfl
  have mlz := PySem.W.mg_of X G aglz
  have Flg := fun_mk (st := sRight) lglg cglg kglg
  have blg := Flg.binds (ps := ["_law_purse_here"]) fun _ _ _ _ _ _ us hl => match us, hl with | [_], _ => rfl
  have mlg := PySem.W.mg_of X G aglg
  have Fll := fun_mk (st := sLaw) lgll cgll kgll
  have bll := Fll.binds (ps := ["_law_script"]) fun _ _ _ _ _ _ us hl => match us, hl with | [_], _ => rfl
  have mll := PySem.W.mg_of X G agll
  have Fri := fun_mk (st := sInit) lgri cgri kgri
  have bri := Fri.binds (ps := ["self", "text"]) fun _ _ _ _ _ _ us hl => match us, hl with | [_, _], _ => rfl
  have FpS := fun_mk (st := (inClass sRule 2)) lgpS cgpS kgpS
  have bpS := FpS.binds (ps := ["self"]) fun _ _ _ _ _ _ us hl => match us, hl with | [_], _ => rfl
  have FpM := fun_mk (st := (inClass sRule 3)) lgpM cgpM kgpM
  have bpM := FpM.binds (ps := ["self"]) fun _ _ _ _ _ _ us hl => match us, hl with | [_], _ => rfl
  have FpG := fun_mk (st := (inClass sRule 4)) lgpG cgpG kgpG
  have bpG := FpG.binds (ps := ["self"]) fun _ _ _ _ _ _ us hl => match us, hl with | [_], _ => rfl
  have v0 := PySem.W.mg_of X G av0
  have v1 := PySem.W.mg_of X G av1
  have v3 := PySem.W.mg_of X G av3
  have v4 := PySem.W.mg_of X G av4
  have v6 := PySem.W.mg_of X G av6
  refine ⟨PySem.W.fnOf "law" "law" (defArgs sLaw) (defBody sLaw) (defScope sLaw) .none kVll dcll pmll anll cdll ctll, fun s v => .of_eq rfl, fun base _ _ => ?_⟩
  have T : RuC K CU := ⟨⟨pg, hd, po, sa⟩, nf0, nf1, nf2, nf3, nf4⟩
  have hOl : Hv l.prog w K mg base 1 "made_of" ["text", "letters"] spMade := ⟨_, _, ok_made Fol (fr (by decide)), bol, mol, kgol⟩
  have hIw : Hv l.prog w K mg base 2 "is_word" ["text"] spWord := ⟨_, _, ok_word Fiw hOl (fr (by decide)) v3 v4, biw, miw, kgiw⟩
  have hAs : Hv l.prog w K mg base 2 "are_signs" ["words"] (spSigns K) := ⟨_, _, ok_signs Fas hOl v4 (fr (by decide)) (fr (by decide)) (fr (by decide)) v0, bas, mas, kgas⟩
  have hAm : Hv l.prog w K mg base 3 "are_moods" ["words"] (spMoods K) := ⟨_, _, ok_moods Fam hIw (fr (by decide)) (fr (by decide)) (fr (by decide)) v1, bam, mam, kgam⟩
  have hAg : Hv l.prog w K mg base 1 "are_good" ["words", "moods"] (spGood K) := ⟨_, _, ok_good Fag, bag, mag, kgag⟩
  have hRg : Hv l.prog w K mg base 1 "read_goals" ["signs", "moods", "rows"] spGoals := ⟨_, _, ok_goals Frg (fr (by decide)) (fr (by decide)), brg, mrg, kgrg⟩
  have kT : ∀ H, SqT K H tT (titles.map V.str) := fun H => .inr ⟨_, _, _, ltT, rfl, rfl, by show 3 ≤ sizeLine; decide, .cons ⟨_, rfl⟩ (.cons ⟨_, rfl⟩ (.cons ⟨_, rfl⟩ .nil))⟩
  have hRr : Hv l.prog w K mg base 4 "read_rule" ["text"] spRead := ⟨_, _, ok_read Frr hAs hAm hAg hRg (PySem.W.mg_of X G atT) kT (fr (by decide)) (fr (by decide)), brr, mrr, kgrr⟩
  have GI := ok_init (P := l.prog) (w := w) (base := base) Fri T hRr (fr (by decide)) (fr (by decide))
  have MI : Mk K CU gri := ⟨mk, amri, airi, kc⟩
  have hRo : Hv l.prog w K mg base 7 "rule_of" ["text"] (spRuleOf CU) := ⟨_, _, ok_ruleOf Fro MI GI bri mcCU mcC0, bro, mro, kgro⟩
  have scS : FnScope ["self"] ["self"] (defScope (inClass sRule 2)) := ⟨rfl, rfl, rfl, by decide +kernel, rfl, by decide +kernel, by decide +kernel⟩
  have GS : FnOk l.prog w K mg base CX0 1 gpS _ ["self"] (getSp CU "letters") := fn_getter lgpS cgpS scS rfl rfl T.cl nf1
  have PS : PrF l.prog w K mg base CU "signs" "letters" := ⟨pS, gpS, _, ⟨atS, gtS, ttS, _, rtS⟩, GS, bpS⟩
  have scM : FnScope ["self"] ["self"] (defScope (inClass sRule 3)) := ⟨rfl, rfl, rfl, by decide +kernel, rfl, by decide +kernel, by decide +kernel⟩
  have GM : FnOk l.prog w K mg base CX0 1 gpM _ ["self"] (getSp CU "words") := fn_getter lgpM cgpM scM rfl rfl T.cl nf2
  have PM : PrF l.prog w K mg base CU "moods" "words" := ⟨pM, gpM, _, ⟨atM, gtM, ttM, _, rtM⟩, GM, bpM⟩
  have scG : FnScope ["self"] ["self"] (defScope (inClass sRule 4)) := ⟨rfl, rfl, rfl, by decide +kernel, rfl, by decide +kernel, by decide +kernel⟩
  have GG : FnOk l.prog w K mg base CX0 1 gpG _ ["self"] (getSp CU "chosen") := fn_getter lgpG cgpG scG rfl rfl T.cl nf3
  have PG : PrF l.prog w K mg base CU "good" "chosen" := ⟨pG, gpG, _, ⟨atG, gtG, ttG, _, rtG⟩, GG, bpG⟩
  have hSa : Hv l.prog w K mg base 1 "as_set" ["words"] spAsSet := ⟨_, _, ok_asSet Fsa, bsa, msa, kgsa⟩
  have hSl : Hv l.prog w K mg base 1 "as_set" ["words"] spAsSetL := ⟨_, _, ok_asSetL Fsa, bsa, msa, kgsa⟩
  have hIb : Hv l.prog w K mg base 1 "in_bounds" ["value", "low", "high"] (spInB K) := ⟨_, _, ok_inb Fib (fr (by decide)) (fr (by decide)) (fr (by decide)), bib, mib, kgib⟩
  have hCo : Hv l.prog w K mg base 3 "coming_moods" ["rule"] (spComing CU) := ⟨_, _, ok_coming Fco T hSl PM PS (fr (by decide)), bco, mco, kgco⟩
  have hRh : Hv l.prog w K mg base 2 "read_heights" ["moods", "most", "paper"] spReadH := ⟨_, _, ok_readH Frh hSl hIb (fr (by decide)) (fr (by decide)) (fr (by decide)) (fr (by decide)) (fr (by decide)), brh, mrh, kgrh⟩
  have DC : KDict K w aC esC nC := ⟨ltaC, klaC, loaC⟩
  have gC := PySem.W.mg_of X G ataC
  have hLk : Hv l.prog w K mg base 3 "live_moods" ["rule"] (spLiveM CU) := ⟨_, _, ok_liveM Flk T hSl PM PG (fr (by decide)) (fr (by decide)), blk, mlk, kglk⟩
  have hRp : Hv l.prog w K mg base 3 "read_pairs" ["one", "other", "paper"] (spReadP CU) := ⟨_, _, ok_readP Frp T hSa PM (fr (by decide)) (fr (by decide)) (fr (by decide)) (fr (by decide)) (fr (by decide)), brp, mrp, kgrp⟩
  have hTwo : Hv l.prog w K mg base 8 "two_rules" ["one", "other"] (spTwoR CU) := ⟨_, _, ok_twoR Ftw T hRo PS, btw, mtw, kgtw⟩
  have Nsp := ok_within Fsp T hTwo hRp hSa PM PG PS (fr (by decide)) (fr (by decide))
  have Nsq := ok_last Fsq T hRo hIb hCo hRh hSa PG PS (fr (by decide)) v6
  have Nsr := ok_windows Fsr T hRo hIb hLk hCo hRh hSa PG PS (fr (by decide)) v6
  have GW := ok_accW Fac DC gC ksp Nsp kgsp bsp (fr (by decide)) (fr (by decide)) (fr (by decide)) (fr (by decide))
  have GL := (ok_accL Fac DC gC ksq Nsq kgsq bsq (fr (by decide)) (fr (by decide)) (fr (by decide)) (fr (by decide))).mono (by decide : 9 ≤ 10)
  have GV := (ok_accV Fac DC gC ksr Nsr kgsr bsr (fr (by decide)) (fr (by decide)) (fr (by decide)) (fr (by decide))).mono (by decide : 9 ≤ 10)
  have hAc : Hv l.prog w K mg base 10 "accepts" ["claim", "paper"] (spAcc3 CU) := ⟨_, _, FnOk.or3 GW GL GV, bac, mac, kgac⟩
  have hCe : Hv l.prog w K mg base 1 "_law_cell" ["_law_cells", "_law_k"] (spCell K) := ⟨_, _, ok_cell Flc (fr (by decide)) (fr (by decide)), blc, mlc, kglc⟩
  have hPu : Hv l.prog w K mg base 1 "_law_purse" ["_law_cell_here"] spPurse := ⟨_, _, ok_purse Flu (fr (by decide)) (fr (by decide)), blu, mlu, kglu⟩
  have hPk : Hv l.prog w K mg base 1 "_law_pick" ["_law_purse_here", "_law_size"] spPk := ⟨_, _, ok_pk Flp (fr (by decide)) (fr (by decide)), blp, mlp, kglp⟩
  have hLt : Hv l.prog w K mg base 2 "_law_letters" ["_law_purse_here", "_law_size"] spLetters := ⟨_, _, ok_letters Flt hPk (fr (by decide)), blt, mlt, kglt⟩
  have hAi : Hv l.prog w K mg base 2 "_law_aim" ["_law_purse_here", "_law_way", "_law_size", "_law_count", "_law_spot", "_law_step"] spAim := ⟨_, _, ok_aim Fla hPk (fr (by decide)), bla, mla, kgla⟩
  have hBx : Hv l.prog w K mg base 3 "_law_box" ["_law_purse_here", "_law_letters_here"] spBox := ⟨_, _, ok_box Flb hPk hAi (fr (by decide)) (fr (by decide)) (fr (by decide)), blb, mlb, kglb⟩
  have hTx : Hv l.prog w K mg base 1 "_law_text" ["_law_box_here"] spTextB := ⟨_, _, ok_textB Flx, blx, mlx, kglx⟩
  have hEn : Hv l.prog w K mg base 1 "_law_end" ["_law_box_here", "_law_begin", "_law_line"] spEndB := ⟨_, _, ok_endB Fle, ble, mle, kgle⟩
  have hGo : Hv l.prog w K mg base 2 "_law_is_fine" ["_law_box_here", "_law_line"] spGood1 := ⟨_, _, ok_good1 Flf hEn, blf, mlf, kglf⟩
  have hRe : Hv l.prog w K mg base 1 "_law_reached" ["_law_box_here", "_law_begin"] spReachedB := ⟨_, _, ok_reachedB Flr (fr (by decide)), blr, mlr, kglr⟩
  have hRc : Hv l.prog w K mg base 2 "_law_live" ["_law_box_here"] spLiveW := ⟨_, _, ok_liveW Flw hRe, blw, mlw, kglw⟩
  have hUn : Hv l.prog w K mg base 1 "_law_unlike" ["_law_box_here"] spUnlike := ⟨_, _, ok_unlike Fln (fr (by decide)) (fr (by decide)), bln, mln, kgln⟩
  have hLo : Hv l.prog w K mg base 1 "_law_look" ["_law_sort", "_law_size", "_law_line"] spLookL := ⟨_, _, ok_lookL Flo (fr (by decide)), blo, mlo, kglo⟩
  have hWi : Hv l.prog w K mg base 2 "_law_wider" ["_law_purse_here", "_law_box_here"] spWider := ⟨_, _, ok_wider Flv hPk (fr (by decide)), blv, mlv, kglv⟩
  have hHt : Hv l.prog w K mg base 1 "_law_heights" ["_law_box_here", "_law_unlike_here", "_law_some"] spHeights := ⟨_, _, ok_heights Flh (fr (by decide)) (fr (by decide)) (fr (by decide)) (fr (by decide)) (fr (by decide)), blh, mlh, kglh⟩
  have hRt : Hv l.prog w K mg base 1 "_law_rows_to" ["_law_letters_here", "_law_most"] spRowsTo := ⟨_, _, ok_rowsTo Flm (fr (by decide)), blm, mlm, kglm⟩
  have hPc : Hv l.prog w K mg base 1 "_law_pieces" ["_law_size", "_law_line"] spPcW := ⟨_, _, ok_pcW Flq (fr (by decide)) (fr (by decide)), blq, mlq, kglq⟩
  have hSp : Hv l.prog w K mg base 3 "_law_slip" ["_law_purse_here", "_law_box_here", "_law_mate", "_law_sort"] spSlip3 := ⟨_, _, ok_slip3 Fls hPk hRe hRc hUn hHt (fr (by decide)) (fr (by decide)) (fr (by decide)) (fr (by decide)), bls, mls, kgls⟩
  have hSo : Hv l.prog w K mg base 3 "_law_is_so" ["_law_box_here", "_law_mate", "_law_sort", "_law_size", "_law_lines"] spIsSo := ⟨_, _, ok_isSo Flz hGo hLo hPc, blz, mlz, kglz⟩
  have hRi : Hv l.prog w K mg base 11 "_law_right" ["_law_purse_here"] spRightB := ⟨_, _, ok_right3 Flg hPk hLt hBx hWi hRt hTx hSp hSo hAc (fr (by decide)) (fr (by decide)), blg, mlg, kglg⟩
  exact FnG_of (ok_lawB Fll (fr (by decide)) (fr (by decide)) (fr (by decide)) (fr (by decide)) (fr (by decide)) hCe hPu hRi)
end
end My
open PySem PySem.W PyProof.Rows
set_option maxRecDepth 100000 in
set_option maxHeartbeats 0 in
theorem PySem.Challenge.cw_shortlooks_k73_whole_what_is_accepted_is_holds : PySem.Challenge.rw_shortlooks_k73_whole_what_is_accepted_is.Holds := by
  w_on; o_law; k_head; (case hw => w_witness2)
  k_fill
  refine L2.walk_G (l := PySem.Challenge.rw_shortlooks_k73_whole_what_is_accepted_is) (n := 63) (k := 12) (x := "_law_script") (sp := My.spLawB) rfl (by decide) rfl ⟨rfl, by decide, by decide⟩ (fun w h Y => PySem.W.kIn_of Y) ?F (fun _ _ a ns hl _ hS => ⟨a, ns, rfl, hS, hl, fun _ => rfl⟩)
  case F =>
    intro w mg fa h KX G hmg
    refine' My.all_mk KX G hmg ?acCU ?acC0 ?agol ?lgol ?cgol ?kgol ?agiw ?lgiw ?cgiw ?kgiw ?agas ?lgas ?cgas ?kgas ?agam ?lgam ?cgam ?kgam ?agag ?lgag ?cgag ?kgag ?agrg ?lgrg ?cgrg ?kgrg ?agrr ?lgrr ?cgrr ?kgrr ?agro ?lgro ?cgro ?kgro ?agtw ?lgtw ?cgtw ?kgtw ?agsa ?lgsa ?cgsa ?kgsa ?agrp ?lgrp ?cgrp ?kgrp ?agsp ?lgsp ?cgsp ?kgsp ?agib ?lgib ?cgib ?kgib ?agco ?lgco ?cgco ?kgco ?agrh ?lgrh ?cgrh ?kgrh ?aglk ?lglk ?cglk ?kglk ?agsq ?lgsq ?cgsq ?kgsq ?agsr ?lgsr ?cgsr ?kgsr ?agac ?lgac ?cgac ?kgac ?aglc ?lglc ?cglc ?kglc ?aglu ?lglu ?cglu ?kglu ?aglp ?lglp ?cglp ?kglp ?aglt ?lglt ?cglt ?kglt ?agla ?lgla ?cgla ?kgla ?aglb ?lglb ?cglb ?kglb ?aglx ?lglx ?cglx ?kglx ?agle ?lgle ?cgle ?kgle ?aglf ?lglf ?cglf ?kglf ?aglr ?lglr ?cglr ?kglr ?aglw ?lglw ?cglw ?kglw ?agln ?lgln ?cgln ?kgln ?aglo ?lglo ?cglo ?kglo ?aglv ?lglv ?cglv ?kglv ?aglh ?lglh ?cglh ?kglh ?aglm ?lglm ?cglm ?kglm ?aglq ?lglq ?cglq ?kglq ?agls ?lgls ?cgls ?kgls ?aglz ?lglz ?cglz ?kglz ?aglg ?lglg ?cglg ?kglg ?agll ?lgll ?cgll ?kgll ?amri ?airi ?lgri ?cgri ?kgri ?atS ?gtS ?ttS ?rtS ?lgpS ?cgpS ?kgpS ?atM ?gtM ?ttM ?rtM ?lgpM ?cgpM ?kgpM ?atG ?gtG ?ttG ?rtG ?lgpG ?cgpG ?kgpG ?av0 ?av1 ?av3 ?av4 ?av6 ?atT ?ltT ?pg ?hd ?po ?sa ?mk ?kc ?nf0 ?nf1 ?nf2 ?nf3 ?nf4 ?ataC ?ltaC ?klaC ?loaC ?ksp ?ksq ?ksr ?hcf
    (case acCU => k_is)
    (case acC0 => k_is)
    (case agol => k_is)
    (case lgol => k_is)
    (case cgol => k_is)
    (case kgol => k_is)
    (case agiw => k_is)
    (case lgiw => k_is)
    (case cgiw => k_is)
    (case kgiw => k_is)
    (case agas => k_is)
    (case lgas => k_is)
    (case cgas => k_is)
    (case kgas => k_is)
    (case agam => k_is)
    (case lgam => k_is)
    (case cgam => k_is)
    (case kgam => k_is)
    (case agag => k_is)
    (case lgag => k_is)
    (case cgag => k_is)
    (case kgag => k_is)
    (case agrg => k_is)
    (case lgrg => k_is)
    (case cgrg => k_is)
    (case kgrg => k_is)
    (case agrr => k_is)
    (case lgrr => k_is)
    (case cgrr => k_is)
    (case kgrr => k_is)
    (case agro => k_is)
    (case lgro => k_is)
    (case cgro => k_is)
    (case kgro => k_is)
    (case agtw => k_is)
    (case lgtw => k_is)
    (case cgtw => k_is)
    (case kgtw => k_is)
    (case agsa => k_is)
    (case lgsa => k_is)
    (case cgsa => k_is)
    (case kgsa => k_is)
    (case agrp => k_is)
    (case lgrp => k_is)
    (case cgrp => k_is)
    (case kgrp => k_is)
    (case agsp => k_is)
    (case lgsp => k_is)
    (case cgsp => k_is)
    (case kgsp => k_is)
    (case agib => k_is)
    (case lgib => k_is)
    (case cgib => k_is)
    (case kgib => k_is)
    (case agco => k_is)
    (case lgco => k_is)
    (case cgco => k_is)
    (case kgco => k_is)
    (case agrh => k_is)
    (case lgrh => k_is)
    (case cgrh => k_is)
    (case kgrh => k_is)
    (case aglk => k_is)
    (case lglk => k_is)
    (case cglk => k_is)
    (case kglk => k_is)
    (case agsq => k_is)
    (case lgsq => k_is)
    (case cgsq => k_is)
    (case kgsq => k_is)
    (case agsr => k_is)
    (case lgsr => k_is)
    (case cgsr => k_is)
    (case kgsr => k_is)
    (case agac => k_is)
    (case lgac => k_is)
    (case cgac => k_is)
    (case kgac => k_is)
    (case aglc => k_is)
    (case lglc => k_is)
    (case cglc => k_is)
    (case kglc => k_is)
    (case aglu => k_is)
    (case lglu => k_is)
    (case cglu => k_is)
    (case kglu => k_is)
    (case aglp => k_is)
    (case lglp => k_is)
    (case cglp => k_is)
    (case kglp => k_is)
    (case aglt => k_is)
    (case lglt => k_is)
    (case cglt => k_is)
    (case kglt => k_is)
    (case agla => k_is)
    (case lgla => k_is)
    (case cgla => k_is)
    (case kgla => k_is)
    (case aglb => k_is)
    (case lglb => k_is)
    (case cglb => k_is)
    (case kglb => k_is)
    (case aglx => k_is)
    (case lglx => k_is)
    (case cglx => k_is)
    (case kglx => k_is)
    (case agle => k_is)
    (case lgle => k_is)
    (case cgle => k_is)
    (case kgle => k_is)
    (case aglf => k_is)
    (case lglf => k_is)
    (case cglf => k_is)
    (case kglf => k_is)
    (case aglr => k_is)
    (case lglr => k_is)
    (case cglr => k_is)
    (case kglr => k_is)
    (case aglw => k_is)
    (case lglw => k_is)
    (case cglw => k_is)
    (case kglw => k_is)
    (case agln => k_is)
    (case lgln => k_is)
    (case cgln => k_is)
    (case kgln => k_is)
    (case aglo => k_is)
    (case lglo => k_is)
    (case cglo => k_is)
    (case kglo => k_is)
    (case aglv => k_is)
    (case lglv => k_is)
    (case cglv => k_is)
    (case kglv => k_is)
    (case aglh => k_is)
    (case lglh => k_is)
    (case cglh => k_is)
    (case kglh => k_is)
    (case aglm => k_is)
    (case lglm => k_is)
    (case cglm => k_is)
    (case kglm => k_is)
    (case aglq => k_is)
    (case lglq => k_is)
    (case cglq => k_is)
    (case kglq => k_is)
    (case agls => k_is)
    (case lgls => k_is)
    (case cgls => k_is)
    (case kgls => k_is)
    (case aglz => k_is)
    (case lglz => k_is)
    (case cglz => k_is)
    (case kglz => k_is)
    (case aglg => k_is)
    (case lglg => k_is)
    (case cglg => k_is)
    (case kglg => k_is)
    (case agll => k_is)
    (case lgll => k_is)
    (case cgll => k_is)
    (case kgll => k_is)
    (case amri => k_is)
    (case airi => k_is)
    (case lgri => k_is)
    (case cgri => k_is)
    (case kgri => k_is)
    (case atS => k_is)
    (case gtS => k_is)
    (case ttS => k_is)
    (case rtS => k_is)
    (case lgpS => k_is)
    (case cgpS => k_is)
    (case kgpS => k_is)
    (case atM => k_is)
    (case gtM => k_is)
    (case ttM => k_is)
    (case rtM => k_is)
    (case lgpM => k_is)
    (case cgpM => k_is)
    (case kgpM => k_is)
    (case atG => k_is)
    (case gtG => k_is)
    (case ttG => k_is)
    (case rtG => k_is)
    (case lgpG => k_is)
    (case cgpG => k_is)
    (case kgpG => k_is)
    (case av0 => k_is)
    (case av1 => k_is)
    (case av3 => k_is)
    (case av4 => k_is)
    (case av6 => k_is)
    (case atT => k_is)
    (case ltT => k_is)
    (case pg => k_is)
    (case hd => k_is)
    (case po => k_is)
    (case sa => k_is)
    (case mk => k_is)
    (case kc => k_is)
    (case nf0 => k_is)
    (case nf1 => k_is)
    (case nf2 => k_is)
    (case nf3 => k_is)
    (case nf4 => k_is)
    (case ataC => k_is)
    (case ltaC => k_is)
    (case klaC => exact ⟨⟨_, _, rfl, rfl⟩, ⟨_, _, rfl, rfl⟩, ⟨_, _, rfl, rfl⟩, ⟨_, _, rfl, rfl⟩, ⟨_, _, rfl, rfl⟩, trivial⟩)
    (case loaC => exact rfl)
    (case ksp => k_is)
    (case ksq => k_is)
    (case ksr => k_is)
    (case hcf => kernel_rfl)
