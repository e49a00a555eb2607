import PyProof.Rows.All
import Wide.All
import OpenK.AllK
import Wide.FinOn
import PyProof.EqAt
import PyProof.EqKinds
import PyProof.TupleCall
import KE.KFromBytes
import HandS.ForMost
import HandS.Exc
import HandS.ExcInit
import HandS.ExcIs
import HandS.IsInst
import HandS.ExcOwn
import HandS.ExcValue
import HandS.Defaults
import HandS.Set
import HandS.Strs
import PyProof.Rows.SetFrom
import PyProof.StrWalks
import PyProof.Rows.SortStr
import PyProof.Rows.SortShellAny
import PyProof.SetRoads
import HandS.DictComp
import HandS.Walk
import HandS.NoneIn
import HandS.Flow
import HandS.FStr
import HandS.Star
import HandS.Property
import HandS.Words
import KE.KUnpackStar
import HandS.TupAny
import PyProof.StrBlock2
import HandS.Rev
import HandS.MapJoin
import KE.KDictDisplayH
import HandS.HotCalls
import KE.KUnpack
import KE.KTryMore
import HandS.Lambda
import HandS.EndTab
import HandS.Nested
import PyProof.StrLawsRepr
import HandS.SetBool
import PyProof.NeKinds
import HandS.TryOnly
import HandS.More
import HandS.CallLocal
import HandS.Style
import HandS.Replace
import HandS.Comp
import HandS.Iter
import PySem.Challenge.RW_shortlooks_k74_whole_certified_apart_and
set_option Elab.async false
set_option linter.all false
set_option maxRecDepth 100000
set_option maxHeartbeats 8000000
namespace PySem
namespace GX
open PySem.W PySem.Calls PyProof.Rows PySem.HandSPX
open Builtin Builtin.ObjectAttr

section
variable {M : Model} {Ar : Around} {Er : Value → Shared → Prop} {hh : Heap} {gg : Array GenState} {dd : Drawn} {tt : Nat} {oo : OsState}
variable {n1 n2 : Str} {C N : Addr} {b1 b2 b3 : List Value} {hx : Bool} {l1 : List Str} {l2 : List Value} {ab : Bool} {cl : Option Bool} {da : Option Addr} {m0 m1 m2 m3 m5 : Option Value} {B nid iid : String}

theorem chkNew (F : ExcBaseFacts B nid iid b3) (hT : ∀ Y : String, b2.contains (.type Y) = b3.contains (.type Y)) {rs : List Value} {kw : List (Str × Value)} {Q : Unit → Shared → Prop}
    (hC : hh.get? C = some (excClassObj n1 n2 C N b1 b2 hx l1 l2 ab cl da m0 m1 m2 m3 m5 nid))
    (hq : Q () ⟨hh, gg, dd, tt, oo⟩) :
    wpAny M Ar (checkBuiltinCall nid ⟨.ref C :: rs, kw⟩) Q Er ⟨hh, gg, dd, tt, oo⟩ := by
  have c1 : (Value.ref C :: b2).contains (.type B) = true := by
    rw [List.contains_cons, hT, F.hasB, Bool.or_true]
  have c2 := F.noStar
  simp only [checkBuiltinCall, F.newKind, F.newSplit, F.newRow]
  repeat (first
    | refine wpAny_loadPart_at hC ?_
    | (refine wpAny_isSubtype_exc hC ?_; rw [c1])
    | refine wpAny_staticBase_exc hC ?_
    | refine wpAny_madeBy_exc hC ?_
    | simp only [bne_self_eq_false, Bool.false_eq_true, if_false]
    | wp_step)
  exact hq
end
section
variable {pr : Program} {wd : World} {Ar : Around} {Er : Value → Shared → Prop} {Rr : Result → Shared → Prop} {hh : Heap} {gg : Array GenState} {dd : Drawn} {tt : Nat} {oo : OsState}
variable {n1 n2 : Str} {C N : Addr} {b1 b2 b3 : List Value} {hx : Bool} {l1 : List Str} {l2 : List Value} {ab : Bool} {cl : Option Bool} {da : Option Addr} {m0 m1 m2 m3 m5 : Option Value} {B nid iid : String}

theorem newK (F : ExcBaseFacts B nid iid b3) (hT : ∀ Y : String, b2.contains (.type Y) = b3.contains (.type Y)) {rs : List Value} {kw : List (Str × Value)}
    (hC : hh.get? C = some (excClassObj n1 n2 C N b1 b2 hx l1 l2 ab cl da m0 m1 m2 m3 m5 nid))
    (hq : Rr (.ok (.ret (.ref (hh.objs.size + 1)))) ⟨(hh.push (W.kdv_tup rs)).push (excO C hh.objs.size), gg, dd, tt, oo⟩)
    (hrs : rs.length ≤ sizeLine) :
    codeAny (model pr wd) Ar (.builtin nid ⟨.ref C :: rs, kw⟩) Rr ⟨hh, gg, dd, tt, oo⟩ := by
  have c0 := F.ends
  have cB : (Value.ref C :: b2).contains (.type B) = true := by
    rw [List.contains_cons, hT, F.hasB, Bool.or_true]
  have cA : (Value.ref C :: b2).contains (.type "AttributeError") = false := by
    rw [List.contains_cons, hT, F.noAttr]; rfl
  have cN : (Value.ref C :: b2).contains (.type "NameError") = false := by
    rw [List.contains_cons, hT, F.noName]; rfl
  refine codeAny_builtinAt F.entry ?_
  unfold Builtin.«BaseException.__new__»
  refine wpAt_bind ?_
  show wpAt _ _ _ (stack >>= _) _ _ _
  refine wpAt_bind (wpAt_stack fun p below => wpAt_of_wpAny ?_)
  wp_walk
  refine wpAt_of_wpAny ?_
  rw [F.owner]
  repeat (first
    | with_reducible refine wpAny_madeHere_exc F.canon hC ?_
    | with_reducible refine wpAny_loadPart_at hC ?_
    | (with_reducible refine wpAny_isSubtype_exc hC ?_; first | rw [cB] | rw [cA] | rw [cN])
    | wp_step)
  show Rr _ _
  rw [Heap.size_push]
  exact hq
end
end GX
end PySem
namespace PySem
namespace GX
open PySem.W PySem.Calls PyProof.Rows PySem.HandSPX
open Builtin Builtin.ObjectAttr
section
variable {M : Model} {Ar : Around} {Er : Value → Shared → Prop} {hh : Heap} {gg : Array GenState} {dd : Drawn} {tt : Nat} {oo : OsState}
variable {n1 n2 : Str} {C N : Addr} {b1 b2 b3 : List Value} {hx : Bool} {l1 : List Str} {l2 : List Value} {ab : Bool} {cl : Option Bool} {da : Option Addr} {m0 m1 m2 m3 m5 : Option Value} {B nid iid : String}
theorem chkCall {rs : List Value} {kw : List (Str × Value)} {Q : Unit → Shared → Prop}
    (hC : hh.get? C = some (excClassObj n1 n2 C N b1 b2 hx l1 l2 ab cl da m0 m1 m2 m3 m5 nid))
    (hq : Q () ⟨hh, gg, dd, tt, oo⟩) :
    wpAny M Ar (checkBuiltinCall "type.__call__" ⟨.ref C :: rs, kw⟩) Q Er ⟨hh, gg, dd, tt, oo⟩ := by
  have z3 := tc_sub
  have zT : (⟨hh, gg, dd, tt, oo⟩ : Shared).TypeIs (.ref C) "type" := ⟨_, hC, rfl⟩
  simp only [checkBuiltinCall, tc_kind, tc_split]
  repeat (any_goals (first
    | assumption
    | with_reducible refine wpAny_loadPart_at hC ?_
    | with_reducible refine wpAny_onRaise ?_
    | with_reducible refine wpAny_map ?_
    | wp_step))
end
section
variable {pr : Program} {wd : World} {Ar : Around} {Er : Value → Shared → Prop} {Rr : Result → Shared → Prop} {hh : Heap} {gg : Array GenState} {dd : Drawn} {tt : Nat} {oo : OsState}
variable {n1 n2 : Str} {C N : Addr} {b1 b2 b3 : List Value} {hx : Bool} {l1 : List Str} {l2 : List Value} {ab : Bool} {cl : Option Bool} {da : Option Addr} {m0 m1 m2 m3 m5 : Option Value} {B nid iid : String}

theorem typeK (F : ExcBaseFacts B nid iid b3) (hT : ∀ Y : String, b2.contains (.type Y) = b3.contains (.type Y)) {rs : List Value} {kw : List (Str × Value)} {fI : Addr} {Q : Fin → Shared → Prop}
    (hC : hh.get? C = some (excClassObj n1 n2 C N b1 b2 hx l1 l2 ab cl da m0 m1 m2 m3 m5 nid))
    (hi : W.Looks (model pr wd) hh (typeLookup (.ref C) "__init__") (some (.ref fI)))
    (hb : ∀ self, W.Looks (model pr wd) hh (bindSpecial (.ref fI) self) (.ref fI, [self]))
    (hrs : rs.length ≤ sizeLine)
    (hq : codeAny (model pr wd) Ar (.call (.ref fI) ⟨.ref (hh.objs.size + 1) :: rs, kw⟩)
      (fun r s' => match r with
        | .ok (.ret v) => v = .none ∧ Q (.done (.ret (.ref (hh.objs.size + 1)))) s'
        | .ok _ => False
        | .error e => Er e s')
      ⟨(hh.push (W.kdv_tup rs)).push (excO C hh.objs.size), gg, dd, tt, oo⟩) :
    wpAny (model pr wd) Ar (Builtin.«type.__call__» ⟨.ref C :: rs, kw⟩) Q Er ⟨hh, gg, dd, tt, oo⟩ := by
  repeat (first
    | with_reducible refine wpAny_loadPart_at hC ?_
    | with_reducible refine wpAny_madeBy_exc hC ?_
    | wp_step)
  refine codeAny_call_builtin_code (Code.quiet_builtin _ F.quiet) (chkNew F hT hC ?_)
  refine newK F hT hC ?_ hrs
  show wpAny _ _ _ _ _ _
  have kk : ∀ b o, hh.get? b = some o → ((hh.push (W.kdv_tup rs)).push (excO C hh.objs.size)).get? b = some o :=
    fun b o e => Heap.get?_push_of_some _ (Heap.get?_push_of_some _ e)
  have hC1 := kk _ _ hC
  have hgt : ((hh.push (W.kdv_tup rs)).push (excO C hh.objs.size)).get? (hh.objs.size + 1) = some (excO C hh.objs.size) := by
    heap_get
  have cC : (Value.ref C :: b2).contains (.ref C) = true := by simp
  have j1 := hi.keeps kk
  have j2 := (hb (.ref (hh.objs.size + 1))).keeps kk
  unfold isInstance
  repeat (first
    | with_reducible refine wpAny_loadPart_at hgt ?_
    | (with_reducible refine wpAny_isSubtype_exc hC1 ?_; rw [cC])
    | wp_step)
  show wpAny _ _ (typeLookup (.ref C) _) _ _ _
  refine j1.at ?_
  refine wpAny_holding (wpAny_bind (j2.at ?_))
  refine wpAny_bind (wpAny_call (codeAny_mono hq fun r s' z => ?_))
  rcases r with e | (v | _ | _ | _) <;> first | exact z | exact z.elim | skip
  obtain ⟨rfl, z⟩ := z
  first
    | exact wpAny_pure (wpAny_pure z)
    | (wp_walk; exact z)

theorem callK (F : ExcBaseFacts B nid iid b3) (hT : ∀ Y : String, b2.contains (.type Y) = b3.contains (.type Y)) {rs : List Value} {kw : List (Str × Value)} {fI : Addr}
    (hC : hh.get? C = some (excClassObj n1 n2 C N b1 b2 hx l1 l2 ab cl da m0 m1 m2 m3 m5 nid))
    (hi : W.Looks (model pr wd) hh (typeLookup (.ref C) "__init__") (some (.ref fI)))
    (hb : ∀ self, W.Looks (model pr wd) hh (bindSpecial (.ref fI) self) (.ref fI, [self]))
    (hrs : rs.length ≤ sizeLine)
    (hq : codeAny (model pr wd) (Ar.under (.builtin "type.__call__" ⟨.ref C :: rs, kw⟩)) (.call (.ref fI) ⟨.ref (hh.objs.size + 1) :: rs, kw⟩) (W.InitBack (hh.objs.size + 1) Rr)
      ⟨(hh.push (W.kdv_tup rs)).push (excO C hh.objs.size), gg, dd, tt, oo⟩) :
    codeAny (model pr wd) Ar (.call (.ref C) ⟨rs, kw⟩) Rr ⟨hh, gg, dd, tt, oo⟩ := by
  have z1 := tc_lookup
  have z2 := tc_bind (.ref C)
  have zT : (⟨hh, gg, dd, tt, oo⟩ : Shared).TypeIs (.ref C) "type" := ⟨_, hC, rfl⟩
  refine codeAny_of_tree ?_
  show wpAny _ _ (callAny (.ref C) _) _ _ _
  repeat (any_goals (first
    | assumption
    | with_reducible refine wpAny_loadPart_at hC ?_
    | wp_step))
  refine ⟨rfl, ?_⟩
  refine codeAny_call_builtin_at (Code.quiet_builtin _ (by decide +kernel)) entry_typeCall (chkCall hC (typeK F hT hC hi hb hrs ?_))
  refine codeAny_mono hq fun r s' z => ?_
  rcases r with e | (v | _ | _ | _) <;> exact z
end
end GX
end PySem
namespace PySem
namespace GX
open PySem.W PySem.Calls PyProof.Rows PySem.HandSPX
open Builtin Builtin.ObjectAttr
/-- what an own class's mro must say for a store to an instance -/
structure MroOk (l : List Value) : Prop where
  pass : ∀ self, refuseLoop self "__setattr__" l = pure ()
  ob : l.contains (.type "object") = true
  ne : l.isEmpty = false
section
variable {pr : Program} {wd : World} {Ar : Around} {Er : Value → Shared → Prop} {Rr : Result → Shared → Prop} {hh : Heap} {gg : Array GenState} {dd : Drawn} {tt : Nat} {oo : OsState}
theorem osaN {K : W.Frag} {nm : Str} {tk : Tok} {v : Value} {x C : Addr} {fv : Array Value} {cd : ClassData}
    (X : K.In hh) (hx : hh.get? x = some { cls := .ref C, data := .fields fv }) (hcd : W.clsIn K C = some cd) (hm : MroOk cd.mro) (hd : cd.hasDict = true)
    (ha : W.findIn K (.ref C) nm = some none)
    (hq : ∀ h' tk' dx, (∀ b o, b ≠ x → hh.get? b = some o → h'.get? b = some o) → hh.objs.size ≤ dx → dx ≠ x →
      h'.get? x = some { cls := .ref C, dict := some dx, data := .fields fv } →
      h'.Ns1 dx (fun y => if y = nm then some v else none) → Rr (.ok (.ret .none)) ⟨h', gg, dd, tk', oo⟩) :
    codeAny (model pr wd) Ar (.call (.builtin "object.__setattr__") ⟨[.ref x, .str nm tk, v], []⟩) Rr ⟨hh, gg, dd, tt, oo⟩ := by
  have I : W.InstAt hh x { cls := .ref C, data := .fields fv } C none := ⟨hx, rfl, rfl, trivial⟩
  have SF := F.store_object
  have hne := hm.ne
  have hxs : x ≠ hh.objs.size := Nat.ne_of_lt (Heap.lt_size hx)
  have sub : W.Looks (model pr wd) hh (isInstance (.ref x) (.type "object")) true :=
    I.type.andThen (W.looks_mroIn X (by unfold W.mroIn; rw [hcd, Option.bind_some, if_neg (by rw [hne]; decide), hm.ob]))
  refine codeAny_call_builtin SF.slot.plain SF.entry (@W.check_slot (model pr wd) _ _ ⟨hh, gg, dd, tt, oo⟩ "object.__setattr__" "object" "__setattr__" (.ref x)
    [.str nm tk, v] [] _ SF.kind SF.split sub (SF.args (.ref x) (.str nm tk) v) ?_)
  have lm : W.Looks (model pr wd) hh (mroOf (.ref C)) cd.mro := (W.looks_clsIn X hcd).andThen .now
  have lt : W.Looks (model pr wd) hh (storeTaker? none) none := .now
  have lc : W.Looks (model pr wd) hh (classData C) cd := W.looks_clsIn X hcd
  rw [W.osa_eq, refuse_eq]
  refine wpAny_bind (wpAny_bind (I.type.at (wpAny_bind (lm.at ?_))))
  rw [hm.pass]
  refine wpAny_pure (wpAny_bind (I.type.at (wpAny_bind ((W.looks_findIn X ha).at (wpAny_bind (lt.at ?_))))))
  show wpAny _ _ (storeInOwnDict (.ref x) (.ref C) (.str nm tk) nm v false) _ _ _
  obtain ⟨c1, c2, c3, c4, c5, c6, c7, c8, c9, c10, c11⟩ := cd
  dsimp only at hd
  subst hd
  unfold storeInOwnDict ownDictForStores
  repeat (first
    | with_reducible refine store_in_new ?_ ?_
    | with_reducible refine wpAny_loadPart_at hx ?_
    | with_reducible refine lc.at ?_
    | wp_step)
  · exact ⟨_, #[], _, (Heap.get?_update_ne _ _ _ _ hxs.symm).trans (Heap.get?_push_at rfl rfl), rfl, fun e he => absurd he (by simp), fun _ => rfl⟩
  · intro h' tk' hn' hs
    have hx1 : (hh.push { cls := .type "dict", data := .dict #[] }).get? x = some { cls := .ref C, data := .fields fv } :=
      Heap.get?_push_of_some _ hx
    refine hq h' tk' hh.objs.size (fun b o hb ho => ?_) (Nat.le_refl _) hxs.symm ?_ hn'
    · exact (hs.2 b (Nat.ne_of_lt (Heap.lt_size ho))).trans ((Heap.get?_update_ne _ _ _ _ hb).trans (Heap.get?_push_of_some _ ho))
    · exact (hs.2 x hxs).trans (Heap.get?_update_self _ hx1 rfl)
theorem osaO {K : W.Frag} {nm : Str} {tk : Tok} {v : Value} {x C dx : Addr} {fv : Array Value} {cd : ClassData} {m0 : Str → Option Value} {nl : List Str}
    (X : K.In hh) (hx : hh.get? x = some { cls := .ref C, dict := some dx, data := .fields fv }) (hns : hh.Ns1 dx m0) (hw : Within m0 nl) (hz : nl.length ≤ 1000)
    (hcd : W.clsIn K C = some cd) (hm : MroOk cd.mro) (hd : cd.hasDict = true) (ha : W.findIn K (.ref C) nm = some none)
    (hq : ∀ h' tk', (∀ b o, b ≠ dx → hh.get? b = some o → h'.get? b = some o) →
      h'.Ns1 dx (fun y => if y = nm then some v else m0 y) → Rr (.ok (.ret .none)) ⟨h', gg, dd, tk', oo⟩) :
    codeAny (model pr wd) Ar (.call (.builtin "object.__setattr__") ⟨[.ref x, .str nm tk, v], []⟩) Rr ⟨hh, gg, dd, tt, oo⟩ := by
  obtain ⟨oD, esD, epD, hoD, hdD, _⟩ := hns.count hw
  have I : W.InstAt hh x { cls := .ref C, dict := some dx, data := .fields fv } C (some oD) := ⟨hx, rfl, rfl, hoD⟩
  have SF := F.store_object
  have hne := hm.ne
  have sub : W.Looks (model pr wd) hh (isInstance (.ref x) (.type "object")) true :=
    I.type.andThen (W.looks_mroIn X (by unfold W.mroIn; rw [hcd, Option.bind_some, if_neg (by rw [hne]; decide), hm.ob]))
  refine codeAny_call_builtin SF.slot.plain SF.entry (@W.check_slot (model pr wd) _ _ ⟨hh, gg, dd, tt, oo⟩ "object.__setattr__" "object" "__setattr__" (.ref x)
    [.str nm tk, v] [] _ SF.kind SF.split sub (SF.args (.ref x) (.str nm tk) v) ?_)
  have lm : W.Looks (model pr wd) hh (mroOf (.ref C)) cd.mro := (W.looks_clsIn X hcd).andThen .now
  have lt : W.Looks (model pr wd) hh (storeTaker? none) none := .now
  have lc : W.Looks (model pr wd) hh (classData C) cd := W.looks_clsIn X hcd
  rw [W.osa_eq, refuse_eq]
  refine wpAny_bind (wpAny_bind (I.type.at (wpAny_bind (lm.at ?_))))
  rw [hm.pass]
  refine wpAny_pure (wpAny_bind (I.type.at (wpAny_bind ((W.looks_findIn X ha).at (wpAny_bind (lt.at ?_))))))
  show wpAny _ _ (storeInOwnDict (.ref x) (.ref C) (.str nm tk) nm v false) _ _ _
  obtain ⟨c1, c2, c3, c4, c5, c6, c7, c8, c9, c10, c11⟩ := cd
  dsimp only at hd
  subst hd
  unfold storeInOwnDict ownDictForStores
  repeat (first
    | with_reducible refine PySem.OEX.store_in_old hns hw hz ?_
    | with_reducible refine wpAny_loadPart_at hx ?_
    | with_reducible refine lc.at ?_
    | wp_step)
  intro h' tk' hn' hs
  exact hq h' tk' (fun b o hb ho => (hs.2 b hb).trans ho) hn'
end
/-! the three built-in bases -/
abbrev tailOf (B : String) : List Value := [.type B, .type "Exception", .type "BaseException", .type "object"]
theorem pass_VE : ∀ self, refuseLoop self "__setattr__" (tailOf "ValueError") = pure () := fun self => by kernel_rfl
theorem pass_LE : ∀ self, refuseLoop self "__setattr__" (tailOf "LookupError") = pure () := fun self => by kernel_rfl
theorem pass_AE : ∀ self, refuseLoop self "__setattr__" (tailOf "ArithmeticError") = pure () := fun self => by kernel_rfl
theorem mroOk2 {B : String} {a b : Addr} (hp : ∀ self, refuseLoop self "__setattr__" (tailOf B) = pure ()) : MroOk (.ref a :: .ref b :: tailOf B) :=
  ⟨fun self => by rw [refuseLoop_ref, refuseLoop_ref]; exact hp self, by simp [List.contains_cons], rfl⟩
end GX
end PySem
namespace PySem
namespace GX
open PySem.W PySem.Calls PyProof.Rows PySem.HandSPX
section
variable {pr : Program} {wd : World} {Ar : Around} {Er : Value → Shared → Prop} {s : Shared} {K : Frag} {x D : Addr} {ox : Obj} {od : Option Obj}
theorem classG {Q : Option Value → Shared → Prop} (T : L2.ExcC K D) (X : K.In s.heap) (I : InstAt s.heap x ox D od) (h : Q (some (.ref D)) { s with toks := s.toks + 1 }) :
    wpAny (model pr wd) Ar (getAttr? (.ref x) "__class__") Q Er s := by
  have cs : (clsIn K D).isSome = true := by
    obtain ⟨cd, hc, _⟩ := any_some T.hd
    rw [hc]; rfl
  have hf : findObj K D od "__class__" = some (.bind (.builtin "getset_descriptor.__get__") (.builtin "object.__class__")) := by
    cases od with
    | none => exact findObj_dataN cs T.ha T.hn T.ht
    | some o => exact findObj_data cs T.ha T.hn T.ht
  obtain ⟨hp, g, d, t, os⟩ := s
  have y0 := I.type (M := model pr wd)
  have y1 := looks_findIn (M := model pr wd) X T.hg
  have y2 := looks_findIn (M := model pr wd) X T.hk
  have y3 := looks_find (M := model pr wd) X I hf
  have sub : Looks (model pr wd) hp (isInstance (.ref x) (.type "BaseException")) true := y0.andThen (looks_subIn X T.hs)
  have e0 : (false && onTheHeap (Value.builtin "BaseException.__getattribute__")) = false := rfl
  have e2 : (Value.builtin "BaseException.__getattribute__" == Value.builtin "object.__getattribute__") = false := by
    decide +kernel
  have e1 : (onTheHeap (Value.ref D) && Value.builtin "BaseException.__getattribute__" == Value.builtin "object.__getattribute__") = false := by
    rw [e2]; rfl
  unfold getAttr? getAttrBy? getAttrBy
  refine wpAny_bind (wpAny_mkText (wpAny_bind (wpAny_attempt (wpAny_holding (wpAny_bind (y0.at (wpAny_bind (y1.at ?_))))))))
  show wpAny _ _ (if (onTheHeap (Value.ref D) && Value.builtin "BaseException.__getattribute__" == Value.builtin "object.__getattribute__") = true then _ else _) _ _ _
  rw [e1, if_neg Bool.false_ne_true]
  unfold getAttrByItsOwn hookBefore
  refine wpAny_bind ?_
  rw [if_pos (show onTheHeap (Value.ref D) = true from rfl)]
  refine y2.at ?_
  refine wpAny_bind (wpAny_attempt (wpAny_holding ?_))
  unfold callGetattribute
  rw [e0, if_neg Bool.false_ne_true]
  unfold boundAndCalled
  rw [PySem.F.excAttr_ValueError.ga.bind (.ref x)]
  refine wpAny_bind (wpAny_pure ?_)
  show wpAny _ _ (call (.builtin "BaseException.__getattribute__") [.ref x, .str "__class__" t]) _ _ _
  refine wpAny_call (codeAny_call_builtin PySem.F.excAttr_ValueError.ga.plain PySem.F.entry_bexc_ga ?_)
  refine @check_slot (model pr wd) _ _ ⟨hp, g, d, t + 1, os⟩ "BaseException.__getattribute__" "BaseException" "__getattribute__" (.ref x)
    [.str "__class__" t] [] _ (by decide +kernel) (by decide +kernel) sub (PySem.F.args_bexc_ga (.ref x) (.str "__class__" t)) ?_
  unfold Builtin.«object.__getattribute__»
  refine wpAny_bind (wpAny_of_eq (a := ((Value.ref x : Value), [Value.str "__class__" t])) (by first | rfl | (simp only [slotArgs]; rfl)) ?_)
  refine wpAny_bind (wpAny_pure (wpAny_bind (y0.at (wpAny_bind (y3.at ?_)))))
  show wpAny _ _ (holding [Value.builtin "object.__class__"] (call (.builtin "getset_descriptor.__get__") [.builtin "object.__class__", .ref x, .ref D]) >>= ret) _ _ _
  refine wpAny_bind (wpAny_holding (wpAny_call (class_get (s := ⟨hp, g, d, t + 1, os⟩) (ox := ox) (od := od) X I T.hm ?_)))
  refine wpAny_pure ?_
  show wpAny _ _ (handedOut (.ref D)) _ _ _
  rw [handedOut_of (v := .ref D) rfl]
  first
    | exact wpAny_pure (wpAny_pure h)
    | exact wpAny_pure h
    | exact wpAny_pure (wpAny_bind (wpAny_pure (wpAny_pure h)))
theorem kitG (T : L2.ExcC K D) : KitX K (.ref x) (.ref D) (fun h => InstAt h x ox D od) where
  ty := fun _ _ _ I => I.type
  it := fun _ _ X _ => by
    obtain ⟨cdD, hcD, _⟩ := any_some T.hd
    unfold clsIn at hcD
    split at hcD
    · rename_i c' d' cd' sl' ho
      intro A' Q' E' s' k q
      unfold isType loadHead
      exact wpAny_bind (wpAny_loadPart (k _ _ (X _ _ ho)) (wpAny_pure q))
    · cases hcD
  ne := fun h tp dd its n sl X htp => by
    obtain ⟨cdD, hcD, _⟩ := any_some T.hd
    refine Bool.eq_false_iff.mpr fun q => ?_
    have e : D = tp := Value.ref.inj (beq_iff_eq.mp q)
    subst e
    unfold clsIn at hcD
    split at hcD
    · rename_i c' d' cd' sl' ho
      have z := (X _ _ ho).symm.trans htp
      cases z
    · cases hcD
  ca := fun X I k => classG T X I k
end
end GX
end PySem
namespace L2
open PySem PySem.Spec PyProof.Rows PySem.GX
/-- what the written part says of an own exception class at C over a built-in base -/
structure ExG (K : PySem.W.Frag) (C : Addr) : Prop extends ExcC K C where
  cls : ∃ (B nid iid : String) (b3 : List Value) (nm q : Str) (N : Addr) (bs bm : List Value) (sn : List Str) (sub : List Value) (ab : Bool) (col : Option Bool) (dd : Option Addr) (k0 k1 k2 k3 k5 : Option Value),
    ExcBaseFacts B nid iid b3 ∧ (∀ Y : String, bm.contains (.type Y) = b3.contains (.type Y)) ∧ MroOk (.ref C :: bm) ∧
    K.lookup C = some (excClassObj nm q C N bs bm true sn sub ab col dd k0 k1 k2 k3 k5 nid)
  sa : PySem.W.findIn K (.ref C) "__setattr__" = some (some (.builtin "object.__setattr__"))
  kC : PySem.W.keepIn K (.ref C) = true
/-- an exception at a of the class at C with the fields fs (its dict at d) -/
structure ExAt (H : Hp) (a C d : Addr) (fs : List (Str × V)) : Prop where
  ob : H a = some (exo a C (some d))
  di : H d = some (exd d fs)
section
variable {X : Cx} {pins : List (Addr × Obj)} {σ : St} {H : Hp} {s : Shared} {a C d : Addr} {fs : List (Str × V)}
/-- as the library's looks at an instance want it -/
theorem inst_ex {od : Option Addr} (I : Inv X pins σ H s) (e : H a = some (exo a C od)) (hd : ∀ dx, od = some dx → ∃ fs, H dx = some (exd dx fs)) :
    ∃ (ox : Obj) (o : Option Obj), PySem.W.InstAt s.heap a ox C o := by
  obtain ⟨t1, ho⟩ := exo_at I.hok e
  cases od with
  | none => exact ⟨_, none, ⟨ho, rfl, rfl, trivial⟩⟩
  | some dx =>
    obtain ⟨fs, ed⟩ := hd dx rfl
    obtain ⟨mA, ⟨o, es, ep, h1, h2⟩, _⟩ := exd_at I.hok ed
    exact ⟨_, some o, ⟨ho, rfl, rfl, h1⟩⟩
end
/-- isinstance(e, c), e an exception that is a value -/
def rIsX (K : PySem.W.Frag) : List V → Hp → VK → Prop := fun xs H Q => ∃ (a D : Addr) (od : Option Addr) (c : V) (u : Value) (b : Bool), xs = [.ref a, c] ∧ ExcC K D ∧ H a = some (exo a D od) ∧
  (∀ dx, od = some dx → ∃ fs, H dx = some (exd dx fs)) ∧ ClsV c u ∧ PySem.W.kitOne K (.ref D) u = some b ∧ Q (.bl b) H
theorem call_isX {X : Cx} : CallR X (.builtin "isinstance") (rIsX X.K) := by
  intro pins s σ H xs us Q I r h
  obtain ⟨a, D, od, c, u, b, rfl, T, e, hd, k, ek, q⟩ := h
  obtain ⟨u1, u2, rfl, r1, r2⟩ := vals2 r
  have e2 := k.eq r2
  subst e2
  obtain rfl : u1 = Value.ref a := r1
  obtain ⟨ox, o, J⟩ := inst_ex I e hd
  exact PySem.W.kia_one (kitG T) I.kIn J ek (fun z => nomatch z) fun tk => ⟨.bl b, H, I.tok tk, rfl, q⟩
section
variable {X : Cx} {pins : List (Addr × Obj)} {σ : St} {H : Hp} {s : Shared} {a C dx : Addr} {f : Str} {y : V} {u : Value} {fs : List (Str × V)}
/-- e.f -/
def tXf (K : PySem.W.Frag) (f : Str) (te : TE) : TE := fun σ H Q => te σ H fun x H1 => ∃ (a C d : Addr) (fs : List (Str × V)) (v : V), x = .ref a ∧ ExcC K C ∧ ExAt H1 a C d fs ∧
  PySem.W.findIn K (.ref C) f = some none ∧ fs.lookup f = some v ∧ Q v H1
theorem pe_xf {e : Expr} {te : TE} {pos : Pos} (he : PE X e te) (hb : attributeBase e f X.env (eval e X.env) = eval e X.env := by rfl) : PE X (.Attribute e f pos) (tXf X.K f te) := by
  refine ⟨fun pins s σ H Q I h => ?_⟩
  refine attr_of hb (thn (he.run pins s σ H _ I h) fun u s1 hh => ?_)
  obtain ⟨x, H1, I1, rx, a, C, d, fs, v, ex, T, ea, no, l, q⟩ := hh
  subst ex
  obtain rfl : u = Value.ref a := rx
  obtain ⟨t1, ho⟩ := exo_at I1.hok ea.ob
  obtain ⟨mA, hns, rel⟩ := exd_at I1.hok ea.di
  obtain ⟨od, hod, hl⟩ := lookIn_ns hns
  obtain ⟨u, hu, ru⟩ := RelO.some_of (v := v) (o := mA f) (by rw [← l]; exact rel f)
  have J : PySem.W.InstAt s1.heap a _ C (some od) := ⟨ho, rfl, rfl, hod⟩
  exact HandSPX.exc_get I1.kIn J T.hg T.hk T.hs (PySem.W.findObj_own T.hd no rfl (by rw [hl, hu])) (handed_of ru) ⟨v, H1, I1.tok _, ru, q⟩
end
end L2
namespace L2
open PySem PySem.Spec PyProof.Rows PySem.GX
section
variable {X : Cx} {pins : List (Addr × Obj)} {σ : St} {H : Hp} {s : Shared} {a C dx : Addr} {f : Str} {y : V} {u : Value} {fs : List (Str × V)} {Q : Unit → Shared → Prop} {Er : Value → Shared → Prop} {Ar : Around}
/-- the first store gives the exception its dict -/
theorem ostN (T : ExG X.K C) (I : Inv X pins σ H s) (e : H a = some (exo a C none)) (hno : PySem.W.findIn X.K (.ref C) f = some none) (ry : RelV y u)
    (h : ∀ dx s', H dx = none → dx ≠ a → Inv X pins σ (upd (upd H dx (exd dx [(f, y)])) a (exo a C (some dx))) s' → Q () s') :
    wpAny (model X.prog X.w) Ar (setAttr (.ref a) f u) Q Er s := by
  obtain ⟨B, nid, iid, b3, nm, q, N, bs, bm, sn, sub, ab, col, dd, k0, k1, k2, k3, k5, FB, hT, hM, hC⟩ := T.cls
  have hcl : PySem.W.clsIn X.K C = some { name := nm, bases := bs, mro := .ref C :: bm, ns := N, qualname := q, hasDict := true, slotNames := sn, subclasses := sub, abstract := ab, collection := col, hasDel := false } := by
    unfold PySem.W.clsIn; rw [hC] <;> rfl
  obtain ⟨t1, ho⟩ := exo_at I.hok e
  obtain ⟨hp, g, d, t, os⟩ := s
  refine PySem.W.set_plain I.kIn (ox := { cls := .ref C, dict := none, data := .fields #[.ref t1, .none, .none, .none, .bool false, .none] })
    (od := none) ⟨ho, rfl, rfl, trivial⟩ T.sa ?_
  refine osaN I.kIn ho hcl hM rfl hno (fun h' tk' dx k dn dne hx hn => ?_)
  have free1 : H dx = none := I.hok.fresh dn
  have ndx : ∀ {b : Addr} {o : Obj}, hp.get? b = some o → b ≠ dx :=
    fun {b o} q => Nat.ne_of_lt (Nat.lt_of_lt_of_le (Heap.lt_size q) dn)
  have nea : ∀ {b : Addr}, H b = none → b ≠ a := fun {b} n z => by
    rw [z, e] at n; cases n
  have U1 : Un X.fs [] H (upd (upd H dx (exd dx [(f, y)])) a (exo a C (some dx))) hp h' := by
    refine ⟨fun b o q n _ _ => k b o (nea n) q, fun b o q n _ _ => ⟨o.slots, k b o (nea n) q⟩, fun b o q n _ => ?_, fun b o q _ => ?_, fun b xs q => ?_, fun b o v q => ?_, fun b ps q => ⟨#[], ?_⟩⟩
    · rw [upd_ne (nea n), upd_ne (ndx q)]; exact n
    · by_cases hb : b = a
      · exact ⟨_, by rw [hb]; exact hx⟩
      · exact ⟨o, k b o hb q⟩
    · rw [upd_ne (at_ne e q exo_tup), upd_ne (ne_of_none q free1)]; exact q
    · rw [upd_ne (at_ne e q exo_frz), upd_ne (ne_of_none q free1)]; exact q
    · rw [upd_ne (at_ne e q exo_tbl), upd_ne (ne_of_none q free1), q]; simp
  refine h dx _ free1 dne (I.un (t' := tk') U1 fun b o q => ?_)
  by_cases hb : b = a
  · subst hb
    rw [upd_same] at q; cases q
    exact exo_ok hx
  · rw [upd_ne hb] at q
    by_cases hd : b = dx
    · subst hd
      rw [upd_same] at q; cases q
      exact exd_ok hn (relO_put (fs := []) ry fun g => True.intro)
    · rw [upd_ne hd] at q
      refine (I.hok b o q).stay (fun c v hc z => k c v ?_ z) (fun c hc => ?_) (fun c xs hc => ?_)
      · rcases hc with hc | hc
        · rw [hc]; exact hb
        · exact at_ne e hc exo_own
      · rw [upd_ne (at_ne e hc exo_own), upd_ne (ne_of_none hc free1)]; exact hc
      · rw [upd_ne (at_ne e hc exo_tup), upd_ne (ne_of_none hc free1)]; exact hc
theorem ostO (T : ExG X.K C) (I : Inv X pins σ H s) (e : H a = some (exo a C (some dx))) (ed : H dx = some (exd dx fs)) (hl : fs.length ≤ 900) (hno : PySem.W.findIn X.K (.ref C) f = some none) (ry : RelV y u)
    (h : ∀ s', Inv X pins σ (upd H dx (exd dx ((f, y) :: fs))) s' → Q () s') : wpAny (model X.prog X.w) Ar (setAttr (.ref a) f u) Q Er s := by
  obtain ⟨B, nid, iid, b3, nm, q, N, bs, bm, sn, sub, ab, col, dd, k0, k1, k2, k3, k5, FB, hT, hM, hC⟩ := T.cls
  have hcl : PySem.W.clsIn X.K C = some { name := nm, bases := bs, mro := .ref C :: bm, ns := N, qualname := q, hasDict := true, slotNames := sn, subclasses := sub, abstract := ab, collection := col, hasDel := false } := by
    unfold PySem.W.clsIn; rw [hC] <;> rfl
  obtain ⟨t1, ho⟩ := exo_at I.hok e
  obtain ⟨mA, hns, rel⟩ := exd_at I.hok ed
  have hw := within_of rel
  obtain ⟨hp, g, d, t, os⟩ := s
  obtain ⟨oD, _, _, hoD, _, _⟩ := hns.count hw
  refine PySem.W.set_plain I.kIn (ox := { cls := .ref C, dict := some dx, data := .fields #[.ref t1, .none, .none, .none, .bool false, .none] })
    (od := some oD) ⟨ho, rfl, rfl, hoD⟩ T.sa ?_
  refine osaO I.kIn ho hns hw (by rw [List.length_map]; omega) hcl hM rfl hno (fun h' tk' k hn => ?_)
  have hd : ∃ o, h'.get? dx = some o := by
    obtain ⟨o, _, _, e', _⟩ := hn
    exact ⟨o, e'⟩
  exact h _ (I.write (t' := tk') (x := dx) (e := dx) (o := exd dx ((f, y) :: fs)) (by rw [ed]; exact True.intro) (.inl rfl) k hd (exd_ok hn (relO_put ry rel)))
end
/-- self.f = e in an own exception's __init__ -/
def tOsG (K : PySem.W.Frag) (f : Str) (to te : TE) : TS := fun D σ H => te σ H fun y H1 => to σ H1 fun x H2 => ∃ a C : Addr, x = .ref a ∧ ExG K C ∧ PySem.W.findIn K (.ref C) f = some none ∧
  ((H2 a = some (exo a C none) ∧ ∀ dx, H2 dx = none → dx ≠ a → D.nx σ (upd (upd H2 dx (exd dx [(f, y)])) a (exo a C (some dx)))) ∨
    ∃ (dx : Addr) (fs : List (Str × V)), H2 a = some (exo a C (some dx)) ∧ H2 dx = some (exd dx fs) ∧ fs.length ≤ 900 ∧ D.nx σ (upd H2 dx (exd dx ((f, y) :: fs))))
/-- C(e, .., k = v, ..), C's own __init__ keeping sp: the exception stays a tracked value -/
def tMkG (C : Addr) (n m : Nat) (sp : Sp) (gV : List V → List V → List V) (t tk : TA) : TE := fun σ H Q => t σ H fun vs H1 => tk σ H1 fun zs H2 => vs.length = n ∧ zs.length = m ∧ vs.length ≤ 1000 ∧
  ∀ a, H2 a = none → sp (gV (.ref a :: vs) zs) (upd H2 a (exo a C none)) (fun v H3 => v = .non ∧ Q (.ref a) H3) (fun _ _ _ => False)
section
variable {X : Cx} {o e : Expr} {es : List Expr} {to te : TE} {ta tk : TA} {f : Str} {p p' p1 p2 pos : Pos} {kws : List Keyword} {ks : List Str} {n : Nat}
theorem ps_osG (ho : PE X o to) (he : PE X e te) (hs : swapsWith e (some (.Attribute o f p')) pos.line X.env = pure false := by rfl) : PS X (.Assign [.Attribute o f p'] e pos) (tOsG X.K f to te) := by
  refine ⟨fun pins s σ H D I h => ?_⟩
  refine plainObj_wpAny_Assign_Attribute (thn (he.run pins s σ H _ I h) fun v s1 ⟨y, H1, I1, r1, q1⟩ => thn (ho.run pins s1 σ H1 _ I1 q1) fun u s2 ⟨x, H2, I2, r2, a, C, ex, T, hno, q⟩ => ?_) hs
  subst ex
  obtain rfl : u = Value.ref a := r2
  rcases q with ⟨ea, q⟩ | ⟨dx, fs, ea, ed, hl, q⟩
  · exact ostN T I2 ea hno r1 fun dx s' n ne J => ⟨σ, _, J, q dx n ne⟩
  · exact ostO T I2 ea ed hl hno r1 fun s' J => ⟨σ, _, J, q⟩
variable {CX : CXT} {x : Str} {C fI : Addr} {k : Nat} {fd : FuncData} {ps : List Str} {sp : Sp} {g : List Value → List Value → List Value} {gV : List V → List V → List V}
theorem run_mkG {pins : List (Addr × Obj)} {σ : St} {H : Hp} {s : Shared} {Q : VK} {us ws : List Value} {vs zs : List V} (T : ExG X.K C) (iC : PySem.W.findIn X.K (.ref C) "__init__" = some (some (.ref fI)))
    (tI : PySem.W.typeIn X.K (.ref fI) = some (.type "function")) (F1 : FnOk X.prog X.w X.K X.mg X.base CX k fI fd ps sp) (hr : Room (k + 1) X.A) (hb : KBn X.K fd ps (n + 1) ks g gV) (hx : Passes CX X (fun _ _ _ => False))
    (I : Inv X pins σ H s) (r : Vals vs us) (rz : Vals zs ws) (l1 : vs.length = n) (l2 : zs.length = ks.length) (l3 : vs.length ≤ 1000)
    (h : ∀ a, H a = none → sp (gV (.ref a :: vs) zs) (upd H a (exo a C none)) (fun v H3 => v = .non ∧ Q (.ref a) H3) (fun _ _ _ => False)) :
    wpAny (model X.prog X.w) X.A (call (.ref C) us (ks.zip ws)) (EP X pins σ Q) X.xe s := by
  obtain ⟨B, nid, iid, b3, nm, q, N, bs, bm, sn, sub, ab, col, dd, k0, k1, k2, k3, k5, FB, hT, hM, hC⟩ := T.cls
  obtain ⟨hp, gn, dr, tkk, os⟩ := s
  have hsz : hp.objs.size ≤ hp.objs.size + 1 := Nat.le_succ _
  have hn : H (hp.objs.size + 1) = none := I.hok.fresh hsz
  have hq := h (hp.objs.size + 1) hn
  have kk : ∀ b o, hp.get? b = some o → ((hp.push (PySem.W.kdv_tup us)).push (PySem.HandSPX.excO C hp.objs.size)).get? b = some o :=
    fun b o e => Heap.get?_push_of_some _ (Heap.get?_push_of_some _ e)
  have hgt : ((hp.push (PySem.W.kdv_tup us)).push (PySem.HandSPX.excO C hp.objs.size)).get? (hp.objs.size + 1) = some (PySem.HandSPX.excO C hp.objs.size) := by
    heap_get
  have I2 : Inv X pins σ (upd H (hp.objs.size + 1) (exo (hp.objs.size + 1) C none)) ⟨(hp.push (PySem.W.kdv_tup us)).push (PySem.HandSPX.excO C hp.objs.size), gn, dr, tkk, os⟩ :=
    I.laid (t' := tkk) (a := hp.objs.size + 1) (o := exo (hp.objs.size + 1) C none)
      (h' := (hp.push (PySem.W.kdv_tup us)).push (PySem.HandSPX.excO C hp.objs.size)) kk hsz (exo_ok hgt)
  have r1 : Vals (V.ref (hp.objs.size + 1) :: vs) (Value.ref (hp.objs.size + 1) :: us) := .cons rfl r
  have r2 := hb.rel r1 rz
  have n1 : (Value.ref (hp.objs.size + 1) :: us).length = n + 1 := by
    rw [List.length_cons, ← r.length, l1]
  have hus : us.length ≤ sizeLine := by
    rw [← Paired.length r, sizeLine_eq]; omega
  refine wpAny_call (callK FB hT (I.kIn _ _ hC) (PySem.W.looks_findIn I.kIn iC) (fun self => PySem.W.bind_fn I.kIn self tI) hus
    (codeAny_mono (F1.run _ X.stack _ _ ⟨Value.ref (hp.objs.size + 1) :: us, ks.zip ws⟩ (g (Value.ref (hp.objs.size + 1) :: us) ws) _ _ (fun _ _ _ => False)
      (hr.make C us (ks.zip ws)) (I2.env0.make C us (ks.zip ws)) (hb.to _ (Value.ref (hp.objs.size + 1) :: us) ws I2.kIn n1 (rz.length.symm.trans l2)) r2 hq) fun r s' hq' => ?_))
  cases r with
  | error er => exact hx pins σ _ _ er s' I2 hq'
  | ok fl =>
    cases fl with
    | ret u =>
      obtain ⟨v, H', I3, rv, ev, q3⟩ := I2.after hq'
      subst ev
      exact ⟨rv, ⟨V.ref (hp.objs.size + 1), H', I3, rfl, q3⟩⟩
    | next => exact False.elim hq'
    | brk => exact False.elim hq'
    | cont => exact False.elim hq'
theorem pe_mkG (T : ExG X.K C) (iC : PySem.W.findIn X.K (.ref C) "__init__" = some (some (.ref fI))) (tI : PySem.W.typeIn X.K (.ref fI) = some (.type "function"))
    (F1 : FnOk X.prog X.w X.K X.mg X.base CX k fI fd ps sp) (hr : Room (k + 1) X.A) (hg : Gl X x) (hm : X.mg x = some (.ref C)) (hb : KBn X.K fd ps (n + 1) [] g gV) (hx : Passes CX X (fun _ _ _ => False)) (ha : PA X (e :: es) ta)
    (hdb : (x == ("__debug__" : Str)) = false := by decide) (he : starEach (e :: es) X.env = (false, eval e X.env) :: starEach es X.env := by rfl) (hpl : (backTo pos (starEach es X.env)).any (·.1) = false := by rfl) :
    PE X (.Call (.Name x p) (e :: es) [] pos) (tMkG C n 0 sp gV ta tNil) := by
  refine ⟨fun pins s σ H Q I h => ?_⟩
  refine wpAny_Call_Name_kw (ld_glob I hg hm ?_ hdb)
  refine PySem.W.callWith_K (h₀ := X.base) I.ok.mod.kin T.kC (thn (ha.run pos pins s σ H _ I h) fun us s1 ⟨vs, H1, I1, r, l1, l2, l3, q⟩ => ⟨I1.kIn, ?_⟩) he hpl
  exact run_mkG (ws := []) (zs := []) T iC tI F1 hr hb hx I1 r .nil l1 l2 l3 q
theorem pe_mkGK (T : ExG X.K C) (iC : PySem.W.findIn X.K (.ref C) "__init__" = some (some (.ref fI))) (tI : PySem.W.typeIn X.K (.ref fI) = some (.type "function"))
    (F1 : FnOk X.prog X.w X.K X.mg X.base CX k fI fd ps sp) (hr : Room (k + 1) X.A) (hg : Gl X x) (hm : X.mg x = some (.ref C)) (hb : KBn X.K fd ps 1 ks g gV) (hx : Passes CX X (fun _ _ _ => False)) (hkw : PK X kws tk)
    (hall : (backToKw pos (keywordEach kws X.env)).all (·.1.isSome) = true := by rfl) (hks : (backToKw pos (keywordEach kws X.env)).filterMap (·.1) = ks := by rfl) (hdb : (x == ("__debug__" : Str)) = false := by decide)
    (hpl : ((backTo pos (starEach [] X.env)).any (·.1) || (backToKw pos (keywordEach kws X.env)).any (·.1.isNone)) = false := by rfl) :
    PE X (.Call (.Name x p) [] kws pos) (tMkG C 0 ks.length sp gV tNil tk) := by
  refine ⟨fun pins s σ H Q I h => ?_⟩
  refine wpAny_Call_Name_kw (ld_glob I hg hm ?_ hdb)
  refine PySem.W.callWith_KW0 (h₀ := X.base) I.ok.mod.kin T.kC hall ?_ hpl
  refine thn (hkw.run pos pins s σ H _ I h) fun ws s2 ⟨zs, H2, I2, rz, l1, l2, l3, q2⟩ => ⟨I2.kIn, ?_⟩
  rw [hks]
  exact run_mkG (us := []) (vs := []) T iC tI F1 hr hb hx I2 .nil rz rfl l2 (Nat.zero_le _) q2
end
end L2
namespace L2
open PySem PySem.Spec PyProof.Rows PySem.GX
/-- flat things -/
inductive Fl : V → PyData → Prop
  | non : Fl .non .none
  | bl (b : Bool) : Fl (.bl b) (.bool b)
  | int (i : Int) : Fl (.int i) (.int i)
  | str (x : Str) : Fl (.str x) (.str x)
mutual
/-- the data that a value is, dicts of flat things among them -/
inductive Sh (K : PySem.W.Frag) (H : Hp) : V → PyData → Prop
  | fl {v : V} {d : PyData} : Fl v d → Sh K H v d
  | lst {a : Addr} {xs : List V} {ds : List PyData} : SqL K H a xs → ShAll K H xs ds → Sh K H (.ref a) (.list ds)
  | tup {a : Addr} {xs : List V} {ds : List PyData} : SqT K H a xs → ShAll K H xs ds → Sh K H (.ref a) (.tuple ds)
  | dic {a : Addr} {kvs : List (Key × V)} {kds : List (PyData × PyData)} : H a = some (.dK kvs) → Paired Fl (kvs.map fun p => kV p.1) (kds.map (·.1)) → Paired Fl (kvs.map (·.2)) (kds.map (·.2)) →
      Sh K H (.ref a) (.dict kds)
inductive ShAll (K : PySem.W.Frag) (H : Hp) : List V → List PyData → Prop
  | nil : ShAll K H [] []
  | cons {v : V} {vs : List V} {d : PyData} {ds : List PyData} : Sh K H v d → ShAll K H vs ds → ShAll K H (v :: vs) (d :: ds)
end
section
variable {pr : Program} {wd : World} {h0 : Heap}
theorem Fl.reads {v : V} {d : PyData} {u : Value} (f : Fl v d) (r : RelV v u) : Reads h0 u d [] := by
  cases f with
  | non => cases r; exact .none
  | bl b => cases r; exact .bool b
  | int i => obtain ⟨t, rfl⟩ := r; exact .int i t
  | str x => obtain ⟨t, rfl⟩ := r; exact .str x t
theorem Fl.repr {v : V} {d : PyData} {u : Value} (f : Fl v d) (r : RelV v u) (hs : d.showable = true) (hz : d.shown.length ≤ sizeLine) (n : Nat) (bs : List Addr) : ReprK pr wd bs h0 n u d.shown := by
  cases f with
  | non => cases r; simp only [PyData.shown]; exact .of_is ReprIs.none _ _ _
  | bl b => cases r; simp only [PyData.shown]; exact .of_is (ReprIs.bool b) _ _ _
  | int i => obtain ⟨t, rfl⟩ := r; simp only [PyData.shown]; exact .of_is (ReprIs.int t (by simpa [PyData.showable] using hs)) _ _ _
  | str x => obtain ⟨t, rfl⟩ := r; simp only [PyData.shown]; exact .of_is (ReprIs.str x t (by simpa only [PyData.shown] using hz)) _ _ _
theorem flAll_reads : ∀ {vs : List V} {ds : List PyData} {us : List Value}, Paired Fl vs ds → Vals vs us → ReadsAll h0 us ds []
  | _, _, _, .nil, .nil => .nil
  | _, _, _, .cons f t, .cons r q => ReadsAll.cons (as := []) (bs := []) (f.reads r) (flAll_reads t q)
theorem flAll_repr (n : Nat) (bs : List Addr) : ∀ {vs : List V} {ds : List PyData} {us : List Value}, Paired Fl vs ds → Vals vs us → PyData.showableAll ds = true → (∀ t ∈ PyData.shownAll ds, t.length ≤ sizeLine) → ReprAllK pr wd bs h0 n us (PyData.shownAll ds)
  | _, _, _, .nil, .nil, _, _ => by simp only [PyData.shownAll]; exact .nil
  | _, d :: ds, _, .cons f t, .cons r q, hs, hz => by
    have hs' : d.showable = true ∧ PyData.showableAll ds = true := by simpa [PyData.showableAll] using hs
    simp only [PyData.shownAll] at hz ⊢
    exact .cons (f.repr r hs'.1 (hz _ (List.mem_cons_self ..)) n bs) (flAll_repr n bs t q hs'.2 fun t ht => hz t (List.mem_cons_of_mem _ ht))
end
theorem pairs_split {P : Program} {w : World} : ∀ {es : List DictEntry} {kvs : List (Key × V)} {vs : List (Key × Value)}, Pairs (mixKind P w) es vs → KV kvs vs → Vals (kvs.map fun p => kV p.1) (es.map (·.key)) ∧ Vals (kvs.map (·.2)) (es.map (·.val))
  | _, _, _, .nil, .nil => ⟨.nil, .nil⟩
  | e :: es, (k, v) :: kvs, (k', u) :: vs, .cons h1 h2 t, .cons r q => by
    obtain ⟨a, b⟩ := pairs_split t q
    obtain ⟨r1, r2⟩ := r
    have r1' : k = k' := r1
    subst r1'
    have hk : keyIs k e.key = true := h1
    have h2' : e.val = u := h2
    have rk : RelV (kV k) e.key := by
      rcases keyIs_shape hk with ⟨i, t, rfl, q⟩ | ⟨x, t, rfl, q⟩
      · exact ⟨t, q⟩
      · exact ⟨t, q⟩
    exact ⟨.cons rk a, .cons (show RelV v e.val by rw [h2']; exact r2) b⟩
section
variable {X : Cx} {pins : List (Addr × Obj)} {σ : St} {H : Hp} {s : Shared}
mutual
theorem Sh.both (I : Inv X pins σ H s) : ∀ (d : PyData) (v : V) (u : Value), Sh X.K H v d → RelV v u → d.showable = true → d.shown.length ≤ sizeLine →
    (∃ as, Reads s.heap u d as) ∧ ∃ bs, ReadAtMost s.heap d.depth bs ∧ ReprK X.prog X.w bs s.heap d.depth u d.shown
  | .none, _, _, h, r, hs, hz => by
    cases h with
    | fl f => exact ⟨⟨_, f.reads r⟩, [], (fun _ z => nomatch z), f.repr r hs hz _ _⟩
  | .bool b, _, _, h, r, hs, hz => by
    cases h with
    | fl f => exact ⟨⟨_, f.reads r⟩, [], (fun _ z => nomatch z), f.repr r hs hz _ _⟩
  | .int i, _, _, h, r, hs, hz => by
    cases h with
    | fl f => exact ⟨⟨_, f.reads r⟩, [], (fun _ z => nomatch z), f.repr r hs hz _ _⟩
  | .str x, _, _, h, r, hs, hz => by
    cases h with
    | fl f => exact ⟨⟨_, f.reads r⟩, [], (fun _ z => nomatch z), f.repr r hs hz _ _⟩
  | .list ds, _, _, h, r, hs, hz => by
    cases h with
    | fl f => cases f
    | @lst a xs _ hq ha =>
      cases r
      obtain ⟨its, rv, ⟨o, n, ho, hc, _, hd⟩, _⟩ := I.list hq
      have hz' : (listText (PyData.shownAll ds)).length ≤ sizeLine := by simpa only [PyData.shown] using hz
      obtain ⟨⟨as, hr⟩, bs, hb, hk⟩ := Sh.bothAll I ds xs its ha rv (by simpa [PyData.showable] using hs) (fun t ht => Nat.le_trans (listText_mem_le ht) hz')
      have rr : Reads s.heap (.ref a) (.list ds) _ := Reads.list ho hc hd hr
      have hna : a ∉ bs := not_mem_of_deeper rr (by simp only [PyData.depth]; omega) hb
      refine ⟨⟨_, rr⟩, a :: bs, ReadAtMost.cons rr (by simp only [PyData.depth]; omega) hb, ?_⟩
      simp only [PyData.depth, PyData.shown]
      cases its with
      | nil =>
        cases hr
        simp only [PyData.shownAll, listText_nil]
        exact ReprK.listEmpty ho hc hd
      | cons x l => exact ReprK.list ho hc hd hna (by simpa using hk.length_eq) (fun i y e => hk.item i y (by simpa using e))
  | .tuple ds, _, _, h, r, hs, hz => by
    cases h with
    | fl f => cases f
    | @tup a xs _ hq ha =>
      cases r
      obtain ⟨its, rv, ⟨o, ho, hc, n, hd⟩, _⟩ := I.tuple hq
      have hz' : (tupleText (PyData.shownAll ds)).length ≤ sizeLine := by simpa only [PyData.shown] using hz
      obtain ⟨⟨as, hr⟩, bs, hb, hk⟩ := Sh.bothAll I ds xs its ha rv (by simpa [PyData.showable] using hs) (fun t ht => Nat.le_trans (tupleText_mem_le ht) hz')
      have rr : Reads s.heap (.ref a) (.tuple ds) _ := Reads.tuple ho hc hd hr
      have hna : a ∉ bs := not_mem_of_deeper rr (by simp only [PyData.depth]; omega) hb
      refine ⟨⟨_, rr⟩, a :: bs, ReadAtMost.cons rr (by simp only [PyData.depth]; omega) hb, ?_⟩
      simp only [PyData.depth, PyData.shown]
      exact ReprK.tuple ho hc hd hna hk
  | .dict kds, _, _, h, r, hs, hz => by
    cases h with
    | fl f => cases f
    | @dic a kvs _ hq fk fv =>
      cases r
      obtain ⟨_, hsys, vs, rkv, o, es, ep, ho, ⟨hc, _⟩, hd, _, hp, _⟩ := I.hok a _ hq
      obtain ⟨vk, vv⟩ := pairs_split hp rkv
      obtain ⟨hs1, hs2⟩ := PyData.showableKv_split kds (by simpa [PyData.showable] using hs)
      have hz' : (dictText (PyData.shownKv kds)).length ≤ sizeLine := by simpa only [PyData.shown] using hz
      have k1 : ReprAllK X.prog X.w [] s.heap (PyData.depthKv kds) _ _ := flAll_repr (PyData.depthKv kds) [] fk vk hs1 (fun t ht => by
        obtain ⟨p, hp, hl⟩ := PyData.shownKv_key_le kds t ht
        exact Nat.le_trans hl (Nat.le_trans (dictText_mem_le hp) hz'))
      have k2 : ReprAllK X.prog X.w [] s.heap (PyData.depthKv kds) _ _ := flAll_repr (PyData.depthKv kds) [] fv vv hs2 (fun t ht => by
        obtain ⟨p, hp, hl⟩ := PyData.shownKv_val_le kds t ht
        exact Nat.le_trans hl (Nat.le_trans (dictText_mem_le hp) hz'))
      have rr : Reads s.heap (.ref a) (.dict kds) _ := Reads.dict ho hc hd (flAll_reads fk vk) (flAll_reads fv vv)
      refine ⟨⟨_, rr⟩, [a], ReadAtMost.cons rr (n := 0) (Nat.zero_le _) (fun _ z => nomatch z), ?_⟩
      simp only [PyData.depth, PyData.shown, PyData.shownKv_eq]
      exact ReprK.dict ho hc hd hsys (fun z => nomatch z) (ReprEntriesK.of_two es.toList _ _ k1 k2)
theorem Sh.bothAll (I : Inv X pins σ H s) : ∀ (ds : List PyData) (vs : List V) (us : List Value), ShAll X.K H vs ds → Vals vs us → PyData.showableAll ds = true → (∀ t ∈ PyData.shownAll ds, t.length ≤ sizeLine) →
    (∃ as, ReadsAll s.heap us ds as) ∧ ∃ bs, ReadAtMost s.heap (PyData.depthAll ds) bs ∧ ReprAllK X.prog X.w bs s.heap (PyData.depthAll ds) us (PyData.shownAll ds)
  | [], _, _, h, r, _, _ => by
    cases h
    cases r
    refine ⟨⟨_, ReadsAll.nil⟩, [], (fun _ z => nomatch z), ?_⟩
    simp only [PyData.shownAll]
    exact .nil
  | d :: ds, _, _, h, r, hs, hz => by
    cases h with
    | cons h1 h2 =>
      cases r with
      | cons r1 r2 =>
        have hs' : d.showable = true ∧ PyData.showableAll ds = true := by simpa [PyData.showableAll] using hs
        simp only [PyData.shownAll] at hz
        obtain ⟨⟨as, q1⟩, b1, hb1, k1⟩ := Sh.both I d _ _ h1 r1 hs'.1 (hz _ (List.mem_cons_self ..))
        obtain ⟨⟨bs, q2⟩, b2, hb2, k2⟩ := Sh.bothAll I ds _ _ h2 r2 hs'.2 (fun t ht => hz t (List.mem_cons_of_mem _ ht))
        refine ⟨⟨_, ReadsAll.cons q1 q2⟩, b1 ++ b2, ?_, ?_⟩
        · simp only [PyData.depthAll]
          exact (hb1.mono (Nat.le_max_left _ _)).append (hb2.mono (Nat.le_max_right _ _))
        · simp only [PyData.depthAll, PyData.shownAll]
          exact .cons ((k1.more fun b hb => List.mem_append_left _ hb).level_le (Nat.le_max_left _ _)) (k2.more_le (fun b hb => List.mem_append_right _ hb) (Nat.le_max_right _ _))
end
end
/-- repr(x), x a list -/
def rRepr (K : PySem.W.Frag) : List V → Hp → VK → Prop := fun xs H Q => ∃ (a : Addr) (ds : List PyData), xs = [.ref a] ∧ Sh K H (.ref a) (.list ds) ∧ PyData.showableAll ds = true ∧ (PyData.list ds).shown.length ≤ sizeLine ∧ (PyData.list ds).depth ≤ 60 ∧
  Q (.str (PyData.list ds).shown) H
theorem call_reprL {X : Cx} (hg : X.A.guards = some []) (hu : X.A.units + 64 < cLine) : CallR X (.builtin "repr") (rRepr X.K) := by
  intro pins s σ H xs us Q I r h
  obtain ⟨a, ds, rfl, hsh, hs, hz, hdp, q⟩ := h
  cases r with
  | cons r1 r2 =>
    cases r2
    cases r1
    cases hsh with
    | fl f => cases f
    | @lst _ xs _ hq ha =>
      obtain ⟨its, rv, ⟨o, n, ho, hc, _, hd⟩, _⟩ := I.list hq
      have hz' : (listText (PyData.shownAll ds)).length ≤ sizeLine := by simpa only [PyData.shown] using hz
      obtain ⟨⟨as, hr⟩, bs, hb, hk⟩ := Sh.bothAll I ds xs its ha rv hs (fun t ht => Nat.le_trans (listText_mem_le ht) hz')
      have rr : Reads s.heap (.ref a) (.list ds) _ := Reads.list ho hc hd hr
      have hna : a ∉ bs := not_mem_of_deeper rr (by simp only [PyData.depth]; omega) hb
      simp only [PyData.depth] at hdp
      simp only [PyData.shown] at q
      refine call_repr_slot (by omega) ⟨o, ho, hc⟩ F.slot_list_repr.toG ?_
      have fin : ∀ (h' : Heap) (u : Tok) (tk : Nat), (∀ b o, s.heap.get? b = some o → h'.get? b = some o) → EP X pins σ Q (.str (listText (PyData.shownAll ds)) u) { s with heap := h', toks := tk } :=
        fun h' u tk k => ⟨.str (listText (PyData.shownAll ds)), H, I.kept k, ⟨u, rfl⟩, q⟩
      cases its with
      | nil =>
        cases hr
        simp only [PyData.shownAll, listText_nil] at fin
        exact call_list_repr_empty ⟨o, ho, hc⟩ ho hd ⟨_, _, rfl, fin s.heap _ _ fun _ _ e => e⟩
      | cons x l =>
        exact call_list_reprK ho hc hd hna (by simpa using hk.length_eq) (fun i y e => hk.item i y (by simpa using e)) hg (fun b _ => Clear.nil b)
          (by show X.A.units + 1 + _ < cLine; omega) (fun _ _ e => e) (fun h' u tk k => ⟨_, _, rfl, fin h' u tk k⟩) hz'
end L2
namespace L2
open PySem PySem.Spec PyProof.Rows PySem.GX
/-- a def's promise where no repr is under way -/
structure FnG (P : Program) (w : World) (K : PySem.W.Frag) (mg : Str → Option Value) (base : Heap) (CX : CXT) (k : Nat) (f : Addr) (fd : FuncData) (ps : List Str) (sp : Sp) : Prop where
  len : ∀ vs H Q E, sp vs H Q E → vs.length = ps.length
  run : ∀ (A : Around) (outer : List Env) (s : Shared) (H : Hp) (args : Args) (us : List Value) (vs : List V) (Q : VK) (E : XK), A.guards = some [] → Room k A → Env0 P w K mg base A outer s H →
    BindsTo s fd args (ps.zip us) → Vals vs us → sp vs H Q E → codeAny (model P w) A (.call (.ref f) args) (CR CX outer P w H s Q E) s
section
variable {P : Program} {w : World} {K : PySem.W.Frag} {mg : Str → Option Value} {base : Heap} {CX : CXT}
theorem fnG_of {k : Nat} {f : Addr} {name qual : Str} {params : Arguments} {body : List Stmt} {scope : Scope} {dV kV doc pm cdv ct oc : Value} {an od : Option Addr}
    {osl : Array (Option Value)} {N ps : List Str} {sp : Sp} (lk : K.lookup f = some ⟨oc, od, .func (PySem.W.fnOf name qual params body scope dV kV doc pm an cdv ct), osl⟩)
    (hcd : PySem.W.codeIn K cdv qual = true) (S : FnScope N ps scope) (len : ∀ vs H Q E, sp vs H Q E → vs.length = ps.length)
    (hbody : ∀ (A : Around) (outer : List Env) (s : Shared) (H : Hp) (vs : List V) (Q : VK) (E : XK), A.guards = some [] → Room k (A.deeper (envOfC qual scope s.heap.objs.size f cdv)) → sp vs H Q E →
      ∃ t, PSs (cxOf CX P w K mg base N qual scope f cdv A outer s H E) body t ∧ t { nx := fun _ H' => Q .non H', rt := Q } (start N vs) H) :
    FnG P w K mg base CX (k + 1) f (PySem.W.fnOf name qual params body scope dV kV doc pm an cdv ct) ps sp := by
  refine ⟨len, fun A outer s H args us vs Q E hgd hr e0 hb r hsp => ?_⟩
  have hl := len _ _ _ _ hsp
  have KX : K.In s.heap := e0.mod.kin.keeps fun b o e => (e0.bs b o e).1
  have lim : s.heap.NoLimit := e0.mod.nolimit.keeps fun b o e => (e0.bs b o e).1
  have hkind : ∀ y ∈ ps.zip us, scope.names.lookup y.1 = some .local ∨
      (scope.names.lookup y.1 = some .cell ∧ ((cellsFrom (s.heap.objs.size + 1) scope.names []).lookup y.1).isSome = true) := fun ⟨n, v⟩ hy => by
    rcases S.par n (List.of_mem_zip hy).1 with q | q
    · exact .inl q
    · exact .inr ⟨q, PySem.W.cellsFrom_some _ _ _ (.inl q)⟩
  refine codeAny_call_function hr.depth (KX _ _ lk) rfl S.co S.gen rfl (PySem.W.codeRec_of KX hcd) (hb _ _ _ _ ?_)
  refine wpAny_newFunctionEnv_cells S.kind hkind fun env he s1 x => ?_
  subst he
  refine ⟨lim.keeps x.toInCall.keep, codeAny_func ?_⟩
  obtain ⟨t, ht, hq⟩ := hbody A outer s H vs Q E hgd (hr.deeper _) hsp
  have I : Inv (cxOf CX P w K mg base N qual scope f cdv A outer s H E) [] (start N vs) H s1 := inv_start S hr.hd e0 hl r x
  refine wpAny_mono (ht.run [] s1 (start N vs) H _ I hq) (fun fl s' hs => ?_) fun e s' hs => hs
  cases fl with
  | ret u =>
    obtain ⟨v, σ', H', J, rv, q⟩ := hs
    exact ⟨v, H', J.os, J.bare, J.base, J.hok, rv, q⟩
  | next =>
    obtain ⟨σ', H', J, q⟩ := hs
    exact ⟨V.non, H', J.os, J.bare, J.base, J.hok, rfl, q⟩
  | brk =>
    obtain ⟨_, _, _, q⟩ := hs
    exact False.elim q
  | cont =>
    obtain ⟨_, _, _, q⟩ := hs
    exact False.elim q
theorem Fun.okG {x qual : Str} {st : Stmt} {f : Addr} {fd : FuncData} {N ps : List Str} {k : Nat} {sp : Sp} (F : Fun K x qual st f fd) (S : FnScope N ps (defScope st)) (len : ∀ vs H Q E, sp vs H Q E → vs.length = ps.length)
    (hbody : ∀ (cdv : Value) (A : Around) (outer : List Env) (s : Shared) (H : Hp) (vs : List V) (Q : VK) (E : XK), A.guards = some [] → Room k (A.deeper (envOfC qual (defScope st) s.heap.objs.size f cdv)) → sp vs H Q E →
      ∃ t, PSs (cxOf CX0 P w K mg base N qual (defScope st) f cdv A outer s H E).nox (defBody st) t ∧ t { nx := fun _ H' => Q .non H', rt := Q } (start N vs) H) : FnG P w K mg base CX0 (k + 1) f fd ps sp := by
  obtain ⟨oc, od, kV, doc, pm, an, cdv, ct, osl, rfl, lk, hcd⟩ := F.ex
  refine fnG_of lk hcd S len fun A outer s H vs Q E hgd hr hsp => ?_
  obtain ⟨t, h, q⟩ := hbody cdv A outer s H vs Q E hgd hr hsp
  exact ⟨t, h.nox, q⟩
end
section
variable {X : Cx} {CX : CXT} {k : Nat} {f C : Addr} {fd : FuncData} {ps : List Str} {sp : Sp} {E : XK} {x : Str} {p pos : Pos} {e : Expr} {es : List Expr} {t : TA}
theorem pe_callG (F : FnG X.prog X.w X.K X.mg X.base CX k f fd ps sp) (hgd : X.A.guards = some []) (hr : Room k X.A) (hg : Gl X x) (hm : X.mg x = some (.ref f)) (hk : PySem.W.keepIn X.K (.ref f) = true) (hb : Binds X.K fd ps []) (hx : Passes CX X E)
    (ha : PA X (e :: es) t) (hdb : (x == ("__debug__" : Str)) = false := by decide) (he : starEach (e :: es) X.env = (false, eval e X.env) :: starEach es X.env := by rfl) (hpl : (backTo pos (starEach es X.env)).any (·.1) = false := by rfl) :
    PE X (.Call (.Name x p) (e :: es) [] pos) (tCall sp [] E t) := by
  refine ⟨fun pins s σ H Q I h => ?_⟩
  refine wpAny_Call_Name_kw (ld_glob I hg hm ?_ hdb)
  refine PySem.W.callWith_K (h₀ := X.base) I.ok.mod.kin hk (thn (ha.run pos pins s σ H _ I h) fun us s1 ⟨vs, H1, I1, r, q⟩ => ⟨I1.kIn, ?_⟩) he hpl
  have r2 : Vals (vs ++ []) (us ++ []) := r.append .nil
  have hl : (us ++ []).length = ps.length := by rw [← r2.length]; exact F.len _ _ _ _ q
  refine wpAny_call (codeAny_mono (F.run X.A X.stack s1 H1 ⟨us, []⟩ (us ++ []) (vs ++ []) Q E hgd hr I1.env0 (hb s1 us I1.kIn hl) r2 q) fun r s' hq => ?_)
  cases r with
  | error e => exact hx pins σ H1 s1 e s' I1 hq
  | ok fl =>
    cases fl with
    | ret u => exact I1.after hq
    | next => exact False.elim hq
    | brk => exact False.elim hq
    | cont => exact False.elim hq
/-- X(), an own exception class without own __init__ -/
theorem pe_exc0G {bmB : List Value} {B nid iid : String} (F : ExcBaseFacts B nid iid bmB) (q : PySem.W.excIn X.K C bmB nid = true) (gC : X.mg x = some (.ref C)) (kC : PySem.W.keepIn X.K (.ref C) = true) (hg : Gl X x)
    (hdb : (x == ("__debug__" : Str)) = false := by decide) :
    PE X (.Call (.Name x p) [] [] pos) (fun σ H Q => ∀ a, H a = none → Q (.ref a) (upd H a (exo a C none))) := by
  refine ⟨fun pins s σ H Q I h => ?_⟩
  refine wpAny_Call_Name_kw (ld_glob I hg gC ?_ hdb)
  refine PySem.W.callWith_K0 I.kIn kC ?_
  obtain ⟨bm, N, nm, qn, bs, hdct, sn, sub, ab, col, dd, k0, k1, k2, k3, k5, mN, hC, hN, hni, T⟩ := exc_obj I.kIn q
  refine wpAny_call_exc_subT F T hC hN hni (fun h' a hm => ?_) (by show 0 ≤ sizeLine; exact Nat.zero_le _)
  have hn : H a = none := I.hok.gone hm.new
  obtain ⟨t, ht, _, _⟩ := hm.there
  exact ⟨.ref a, upd H a (exo a C none), I.laidN hm.keeps hm.new hn (exo_ok ht), rfl, h a hn⟩
end
/-- the law's call, its promise where no repr is under way -/
theorem law_callG {P : Program} {w : World} {K : PySem.W.Frag} {mg mb : Str → Option Value} {CX : CXT} {k : Nat} {fa a : Addr} {fd : FuncData} {x : Str} {sp : Sp} {s1 : Shared} {vs : List Value} {ns : List Int}
    (KX : K.In s1.heap) (hns : s1.heap.Ns mainGlobals mg) (hb : s1.heap.Ns builtinsNs mb) (hbb : ∀ x : Str, x ≠ "__name__" → mb x = bootBuiltins x) (hlim : s1.heap.NoLimit) (hg : s1.gens = #[])
    (ha : s1.heap.get? a = some { cls := .type "list", data := .seq vs.toArray }) (hi : IntsAre vs ns) (hl : ns.length ≤ sizeLine) (hr : Room k callerA)
    (F : ∀ base : Heap, K.In base → base.Ns mainGlobals mg → FnG P w K mg base CX k fa fd [x] sp) (hbind : ∀ (s : Shared) (u : Value), BindsTo s fd ⟨[u], []⟩ [(x, u)])
    (hsp : ∀ H : Hp, Only H → SqL K H a (ns.map V.int) → sp [.ref a] H (fun v _ => v = .bl true) fun _ _ _ => False)
    (hCX : ∀ H e s', CX [] H s1 (fun _ _ _ => False) e s' → False) :
    codeAny (model P w) callerA (.call (.ref fa) ⟨[.ref a], []⟩) (fun r s' => r = .ok (.ret (.bool true)) ∧ OldK s1.heap s'.heap ∧ s'.os = s1.os ∧ AllBare s'.gens) s1 := by
  have rv := vals_ints hi
  have lenV := hi.length
  have core : ∀ H : Hp, Only H → SqL K H a (ns.map V.int) → HOk P w H s1.heap → (∀ b, H b ≠ none → b = a) → (H a ≠ none → K.lookup a = none) →
      codeAny (model P w) callerA (.call (.ref fa) ⟨[.ref a], []⟩) (fun r s' => r = .ok (.ret (.bool true)) ∧ OldK s1.heap s'.heap ∧ s'.os = s1.os ∧ AllBare s'.gens) s1 := by
    intro H hO hS hok hA hK
    have isA : ∀ {b : Addr} {u : HO}, H b = some u → b = a := fun {b u} q => hA b (by rw [q]; simp)
    have nod : ∀ {b : Addr} {o : Obj} {es : Array DictEntry} {ep : Nat}, s1.heap.get? b = some o → o.data = .dict es ep → H b = none := fun {b o es ep} e d => by
      cases q : H b with
      | none => rfl
      | some u =>
        have e1 := isA q
        subst e1
        rw [ha] at e
        cases e
        cases (show Data.seq vs.toArray _ = Data.dict es ep from d)
    have nsK : ∀ {b : Addr} {m : Str → Option Value}, s1.heap.Ns b m → (hidT s1.heap H).Ns b m :=
      fun {b m} ⟨o, es, ep, e, d, r⟩ => ⟨o, es, ep, hidT_get e (nod e d), d, r⟩
    have hKb : K.In (hidT s1.heap H) := fun b o e => hidT_get (KX b o e) (by
      cases q : H b with
      | none => rfl
      | some u =>
        have e1 := isA q
        subst e1
        rw [hK (by rw [q]; simp)] at e
        cases e)
    have hM : Mod K mg (hidT s1.heap H) :=
      ⟨hKb, nsK hns, ⟨mb, nsK hb, hbb⟩, let ⟨mc, h1, h2⟩ := hlim; ⟨mc, nsK h1, h2⟩⟩
    have e0 : Env0 P w K mg (hidT s1.heap H) callerA [] s1 H :=
      ⟨rfl, hM, fun b o e => of_hidT e, Nat.le_of_eq (hidT_size _ _), trivial, fun b hb => absurd (show b ∈ ([] : List Addr) from hb) (by simp), hok, .of_eq hg⟩
    refine codeAny_mono ((F _ hKb (nsK hns)).run callerA [] s1 H ⟨[.ref a], []⟩ [.ref a] [.ref a] _ _ rfl hr e0 (hbind s1 (.ref a)) (.cons rfl .nil) (hsp H hO hS)) fun r s' h => ?_
    cases r with
    | error e => exact (hCX H e s' h).elim
    | ok fl =>
      cases fl with
      | next => exact False.elim h
      | brk => exact False.elim h
      | cont => exact False.elim h
      | ret u =>
        obtain ⟨v, H', os, bare, un, hok', r', q⟩ := h
        have qv : v = .bl true := q
        subst qv
        obtain rfl : u = Value.bool true := r'
        refine ⟨rfl, OldK.of_keep fun b o e => ?_, os, bare⟩
        cases q : H b with
        | none => exact un.keep b o e q (by intro z; exact absurd (show b ∈ ([] : List Addr) from z) (by simp)) (by simp)
        | some u =>
          rcases hO b with z | ⟨ob, xs, z⟩
          · rw [q] at z; cases z
          · have z2 := un.frzs b ob _ z
            obtain ⟨e1, _⟩ := hok b _ z
            obtain ⟨e2, _⟩ := hok' b _ z2
            rw [e] at e1
            cases e1
            exact e2
  cases hk : K.lookup a with
  | some o =>
    have e := KX a o hk
    rw [ha] at e
    cases e
    refine core (fun _ => none) (fun _ => .inl rfl) (.inr ⟨_, vs.toArray, _, hk, rfl, rfl, rfl, by rw [List.size_toArray, lenV]; exact hl, by simpa using rv⟩)
      (fun b u z => by cases (show (none : Option HO) = some u from z)) (fun b z => absurd rfl z) fun z => absurd rfl z
  | none =>
    refine core (fun b => if b = a then some (.frz { cls := .type "list", data := .seq vs.toArray } (.lst (ns.map V.int))) else none)
      (fun b => ?_) (.inl (.inr ⟨{ cls := .type "list", data := .seq vs.toArray }, if_pos rfl⟩)) (fun b u z => ?_) (fun b z => ?_) fun _ => hk
    · by_cases hb : b = a
      · exact .inr ⟨_, _, if_pos hb⟩
      · exact .inl (if_neg hb)
    · by_cases hb : b = a
      · have z1 := (if_pos hb).symm.trans z
        cases z1
        subst hb
        exact ⟨ha, by rw [List.length_map]; exact hl, vs, _, rv, ha⟩
      · have z1 := (if_neg hb).symm.trans z
        cases z1
    · by_cases hb : b = a
      · exact hb
      · exact absurd (if_neg hb) z
theorem walk_G {l : PySem.W.OpenLaw} {n k : Nat} {q : Program} {loose : List Str} {XP : (Str → Option Value) → Heap → Prop} {YP : World → Heap → Prop} {d : DefRec} {K : Params → PySem.W.Frag} {sp : PySem.W.Frag → Sp} {x : Str}
    (hn : l.most = some n) (hn2 : n ≤ sizeLine) (hdf : d.params.defaults = []) (hr : Room k callerA)
    (hY : ∀ (w : World) (h : Heap), YP w h → (K w.params).In h)
    (F : ∀ (w : World) (mg : Str → Option Value) (fa : Addr) (h : Heap), (K w.params).In h → h.Ns mainGlobals mg → mg d.name = some (.ref fa) →
      ∃ fd : FuncData, (∀ (s : Shared) (u : Value), BindsTo s fd ⟨[u], []⟩ [(x, u)]) ∧
        ∀ base : Heap, (K w.params).In base → base.Ns mainGlobals mg → FnG l.prog w (K w.params) mg base CX0 k fa fd [x] (sp (K w.params)))
    (hsp : ∀ (K : PySem.W.Frag) (H : Hp) (a : Addr) (ns : List Int), ns.length ≤ n → Only H → SqL K H a (ns.map V.int) → sp K [.ref a] H (fun v _ => v = .bl true) fun _ _ _ => False) :
    PySem.W.WalkO q loose XP YP l.row.toRowW d [] (fun f vs => PySem.call f vs) := by
  refine Att.attach_call hn hdf fun w s₀ s1 mg mb fa o pm cd doc a vs ns G Y ho hd hcd hmg hobj hints hlen hg => ?_
  have KX := hY w _ Y
  obtain ⟨fd, hb, hF⟩ := F w mg fa _ KX G.T.g hmg
  exact law_callG KX G.T.g G.T.b G.T.builtins G.T.nolimit hg hobj hints (Nat.le_trans hlen hn2) hr hF hb (fun H hO hS => hsp (K w.params) H a ns hlen hO hS) fun _ _ _ z => z
end L2
namespace L2
open PySem PySem.Spec PyProof.Rows PySem.GX
/-! sets of texts that can be walked: ys are the members, none twice -/
def keyS (e : Int × Value) : Str := match e.2 with | .str k _ => k | _ => Str.empty
def GoodS (w : World) (e : Int × Value) : Prop := ∃ k tk, e.2 = Value.str k tk ∧ e.1 = hashStr w k
def SetT (w : World) (h : Heap) (a : Addr) (ys : List Str) : Prop :=
  ∃ o es ep t, h.get? a = some o ∧ o.ExactSet ∧ o.data = .set es ep t ∧ (∀ e ∈ es.toList, GoodS w e) ∧ (es.toList.map keyS).Perm ys ∧ ys.Nodup ∧
    es.size < scanBound ∧ t.fits es.size = true ∧ Ris t.place.toList ∧ (w.params.followText "set-order" = true ∨ t.led = true)
/-- one more member -/
def ins (ys : List Str) (k : Str) : List Str := if k ∈ ys then ys else k :: ys
theorem ins_nodup {ys : List Str} {k : Str} (h : ys.Nodup) : (ins ys k).Nodup := by
  unfold ins
  split
  · exact h
  · exact List.nodup_cons.mpr ⟨‹_›, h⟩
theorem ins_len (ys : List Str) (k : Str) : (ins ys k).length ≤ ys.length + 1 := by
  unfold ins
  split
  · omega
  · rw [List.length_cons]; omega
section
variable {P : Program} {w : World} {h h' : Heap} {a : Addr} {ys : List Str}
theorem SetT.at (R : SetT w h a ys) (k : ∀ o, h.get? a = some o → h'.get? a = some o) : SetT w h' a ys := by
  obtain ⟨o, es, ep, t, ho, r⟩ := R
  exact ⟨o, es, ep, t, k o ho, r⟩
theorem goodS_elems {l : List (Int × Value)} (g : ∀ e ∈ l, GoodS w e) : ElemsOf (strKind P w) l := fun e he => by
  obtain ⟨k, tk, h1, h2⟩ := g e he
  exact ⟨⟨k, by rw [h1]; exact strKind_is P w k tk, h2⟩, by rw [h1] <;> rfl⟩
theorem goodS_is {e : Int × Value} (g : GoodS w e) (k : Str) : (strKind P w).is k e.2 = true ↔ keyS e = k := by
  obtain ⟨k0, tk, h1, _⟩ := g
  unfold keyS
  rw [h1]
  constructor
  · intro z
    obtain ⟨t, e2⟩ := Value.isStrOf_shape (x := k) (v := .str k0 tk) z
    cases e2
    rfl
  · intro z
    have z' : k0 = k := z
    rw [z']
    exact strKind_is P w k tk
theorem goodS_mem {l : List (Int × Value)} (g : ∀ e ∈ l, GoodS w e) (k : Str) : k ∈ l.map keyS ↔ ∃ e ∈ l, (strKind P w).is k e.2 = true := by
  rw [List.mem_map]
  constructor
  · rintro ⟨e, he, q⟩
    exact ⟨e, he, (goodS_is (g e he) k).2 q⟩
  · rintro ⟨e, he, q⟩
    exact ⟨e, he, (goodS_is (g e he) k).1 q⟩
end
section
variable {P : Program} {w : World} {A : Around} {E : Value → Shared → Prop} {s : Shared} {a : Addr} {ys : List Str}
theorem setT_tail {g : Bool → Sem Unit} (hg : ∀ (b : Bool) (s₁ : Shared) (Q' : Unit → Shared → Prop), Q' () s₁ → wpAny (model P w) A (g b) Q' E s₁)
    {o : Obj} {es : Array (Int × Value)} {ep : Nat} {t : SetTable} (ho : s.heap.get? a = some o) (hex : o.ExactSet) (hd : o.data = .set es ep t)
    {es1 : Array (Int × Value)} {t2 : SetTable} {zs : List Str} (g1 : ∀ e ∈ es1.toList, GoodS w e) (p1 : (es1.toList.map keyS).Perm zs) (nd1 : zs.Nodup)
    (hb1 : es1.size < scanBound) (hf2 : t2.fits es1.size = true) (hr : Ris t2.place.toList) (hl : w.params.followText "set-order" = true ∨ t2.led = true) {wd : Bool} {R : Option Bool → Shared → Prop}
    (hR : ∀ h', Heap.SameBut a s.heap h' → SetT w h' a zs → R (some true) { s with heap := h' }) :
    wpAny (model P w) A (do
        storeSet a es1 t2
        if (!wd && t2.tooFull) = true then do
            g (relayAll t2 es1 (SetTable.grown es1.size)).2.2
            storeSet a (relayAll t2 es1 (SetTable.grown es1.size)).1 (relayAll t2 es1 (SetTable.grown es1.size)).2.1
            pure (some true)
          else pure (some true)) R E s := by
  refine wpAny_bind (wpAny_storeSet_of ho hd ?_ (fits_of_scanBound hb1))
  have ho1 := store_at (es' := es1) (t' := t2) ho hd
  have sb1 := Heap.SameBut.update s.heap a (Obj.putSet es1 t2)
  split
  · have c1 := relayAll_perm t2 es1 (SetTable.grown es1.size)
    have c2 := relayAll_fits t2 es1 (SetTable.grown es1.size)
    have c3 := relayAll_ris t2 es1 (SetTable.grown es1.size)
    have c4 := relayAll_led t2 es1 (SetTable.grown es1.size)
    generalize relayAll t2 es1 (SetTable.grown es1.size) = Z at c1 c2 c3 c4 ⊢
    obtain ⟨es2, t3, gv⟩ := Z
    dsimp only at c1 c2 c3 c4 ⊢
    have hsz : es2.size = es1.size := by
      rw [← Array.length_toList, c1.length_eq, Array.length_toList]
    have hb2 : es2.size < scanBound := by rw [hsz]; exact hb1
    refine wpAny_bind (hg _ _ _ ?_)
    refine wpAny_bind (wpAny_storeSet_of ho1 rfl ?_ (fits_of_scanBound hb2))
    have ho2 := store_at (es' := es2) (t' := t3) ho1 rfl
    refine wpAny_pure (hR _ (sb1.trans (Heap.SameBut.update _ a _)) ?_)
    exact ⟨_, es2, _, t3, ho2, hex, rfl, fun e he => g1 e (c1.mem_iff.mp he), (c1.map keyS).trans p1, nd1, hb2, c2, c3, hl.imp id fun z => by rw [c4]; exact z⟩
  · exact wpAny_pure (hR _ sb1 ⟨_, es1, _, t2, ho1, hex, rfl, g1, p1, nd1, hb1, hf2, hr, hl⟩)
theorem setT_add {k : Str} {tk : Tok} {Q : Bool → Shared → Prop} (R : SetT w s.heap a ys) (room : ys.length + 1 < scanBound)
    (hQ : ∀ (b : Bool) h', Heap.SameBut a s.heap h' → SetT w h' a (ins ys k) → Q b { s with heap := h' }) :
    wpAny (model P w) A (setAddHashed a (.str k tk) ((strKind P w).hash k)) Q E s := by
  obtain ⟨o, es, ep, t, ho, hex, hd, g, pm0, nd, hb, hf, hr, hl⟩ := R
  have hkey : (strKind P w).is k (.str k tk) = true := strKind_is P w k tk
  have hsc : (Value.str k tk).scannable = true := rfl
  have hel : ElemsOf (strKind P w) es.toList := goodS_elems g
  unfold setAddHashed setAddHashedIn
  refine wpAny_holding (wpAny_bind (wpAny_setState_of ho hd hf ?_))
  dsimp only
  rw [byScan_of hsc hb hel]
  simp only [↓reduceIte]
  unfold setAddByScan
  refine wpAny_bind ?_
  refine wpAny_bind (wpAny_rule ?_)
  refine wpAny_bind (wpAny_setScan_of hkey ho hd hf hel ?_)
  cases hfi : List.findIdx? (fun e => (strKind P w).is k e.2) es.toList with
  | some j =>
    dsimp only
    obtain ⟨hj, pj, _⟩ := List.findIdx?_eq_some_iff_getElem.mp hfi
    have hk : k ∈ ys := pm0.mem_iff.mp ((goodS_mem (P := P) (w := w) g k).2 ⟨es.toList[j], List.getElem_mem hj, pj⟩)
    refine wpAny_pure (wpAny_pure ?_)
    exact hQ _ s.heap (Heap.SameBut.refl a s.heap) ⟨o, es, ep, t, ho, hex, hd, g, by unfold ins; rw [if_pos hk]; exact pm0, ins_nodup nd, hb, hf, hr, hl⟩
  | none =>
    dsimp only
    have hnk : k ∉ ys := fun z => by
      obtain ⟨e, he, q⟩ := (goodS_mem (P := P) (w := w) g k).1 (pm0.mem_iff.mpr z)
      have c := List.findIdx?_eq_none_iff.mp hfi e he
      rw [q] at c
      cases c
    have hgw : ∀ (b : Bool) {s₁ : Shared} {Q' : Unit → Shared → Prop}, Q' () s₁ → wpAny (model P w) A (match b with | true => rule "set.scan.the-table-gave-way" | false => pure ()) Q' E s₁ :=
      fun b s₁ Q' q => by cases b <;> first | exact wpAny_pure q | exact wpAny_rule q
    have c1 := layNew_perm t es ((strKind P w).hash k) (.str k tk)
    have c2 := layNew_fits t es ((strKind P w).hash k) (.str k tk)
    have c3 := layNew_ris t es ((strKind P w).hash k) (.str k tk) hr
    have c4 := layNew_led t es ((strKind P w).hash k) (.str k tk)
    generalize layNew t es ((strKind P w).hash k) (.str k tk) = Z at c1 c2 c3 c4 ⊢
    obtain ⟨es1, t1, wasDummy, gave⟩ := Z
    dsimp only at c1 c2 c3 c4 ⊢
    rw [Array.toList_push] at c1
    have pc : es1.toList.Perm (((strKind P w).hash k, Value.str k tk) :: es.toList) := c1.trans (List.perm_append_singleton _ _)
    have pk : (es1.toList.map keyS).Perm (ins ys k) := by
      unfold ins
      rw [if_neg hnk]
      exact (pc.map keyS).trans (List.Perm.cons k pm0)
    have g1 : ∀ e ∈ es1.toList, GoodS w e := fun e he => by
      rcases List.mem_cons.mp (pc.mem_iff.mp he) with z | z
      · rw [z]; exact ⟨k, tk, rfl, rfl⟩
      · exact g e z
    have hsz : es1.size = ys.length + 1 := by
      rw [← Array.length_toList, pc.length_eq, List.length_cons, ← pm0.length_eq, List.length_map]
    have hb1 : es1.size < scanBound := by rw [hsz]; exact room
    have hled : w.params.followText "set-order" = true ∨ t1.led = true := hl.imp id fun z => by rw [c4]; exact z
    refine wpAny_bind (hgw _ ?_)
    split
    · refine wpAny_bind ?_
      rw [hashByValue_scannable 8 hsc]
      refine wpAny_pure ?_
      refine setT_tail ?_ ho hex hd g1 pk (ins_nodup nd) hb1 ?_ ?_ ?_ ?_
      · intro b s₁ Q' q; cases b <;> first | exact wpAny_pure q | exact wpAny_rule q
      · first | (split <;> first | exact c2 | exact SetTable.fits_plain_off c2) | exact c2
      · first | (split <;> exact c3) | exact c3
      · first | (split <;> exact hled) | exact hled
      · intro h' sb r; dsimp only; exact wpAny_pure (hQ _ h' sb r)
    · refine wpAny_bind (wpAny_pure ?_)
      simp only [↓reduceIte]
      refine setT_tail ?_ ho hex hd g1 pk (ins_nodup nd) hb1 c2 c3 hled ?_
      · intro b s₁ Q' q; cases b <;> first | exact wpAny_pure q | exact wpAny_rule q
      · intro h' sb r; dsimp only; exact wpAny_pure (hQ _ h' sb r)
end
end L2
namespace L2
open PySem PySem.Spec PyProof.Rows PySem.GX
def setFold (xs : List Str) : List Str := xs.foldl ins []
theorem setFold_snoc (xs : List Str) (x : Str) : setFold (xs ++ [x]) = ins (setFold xs) x := by
  unfold setFold
  rw [List.foldl_append]
  rfl
theorem setFold_len : ∀ (n : Nat) (xs : List Str), xs.length = n → (setFold xs).length ≤ n
  | 0, xs, h => by
    have := List.length_eq_zero_iff.mp h
    subst this
    exact Nat.le_refl 0
  | n + 1, xs, h => by
    obtain ⟨ys, y, rfl⟩ : ∃ ys y, xs = ys ++ [y] := ⟨xs.dropLast, xs.getLast (by intro z; rw [z] at h; cases h), (List.dropLast_concat_getLast _).symm⟩
    rw [List.length_append, List.length_singleton] at h
    have h1 := setFold_len n ys (by omega)
    have h2 := ins_len (setFold ys) y
    rw [setFold_snoc]
    omega
section
variable {prog : Program} {w : World} {A : Around} {R : Result → Shared → Prop} {I : Addr} {fp wr : List Addr} {G : Array GenState → Array GenState → Prop} {n : Nat} {Pv : Nat → Value → Prop} {St : Nat → Shared → Prop}
theorem loopT (W : WalksS prog w A.in1 I fp wr G n Pv St) (S : Addr) (hSf : S ∉ fp) (xs : List Str) (hsz : xs.length = n) (hn : n + 1 < scanBound)
    (hval : ∀ i v, Pv i v → ∃ x t, xs[i]? = some x ∧ v = .str x t) :
    ∀ (k i : Nat) (s : Shared), n - i = k → i ≤ n → St i s → SetT w s.heap S (setFold (xs.take i)) →
      (∀ s', Moved (S :: wr) G s s' → SetT w s'.heap S (setFold xs) → R (.ok (.ret .none)) s') →
      codeAny (model prog w) A (.builtin "set.update.loop" ⟨[.ref S, .ref I], []⟩) R s := by
  have hSw : S ∉ wr := fun h => hSf (W.sub _ h)
  have up : ∀ b ∈ wr, b ∈ S :: wr := fun b hb => List.mem_cons_of_mem _ hb
  intro k
  induction k with
  | zero =>
    intro i s hk hi hst hS hR
    have hin : i = n := by omega
    subst hin
    refine codeAny_builtin PyProof.Rows.F.entry_set_update_loop ?_
    rw [Around.under_plainId PyProof.Rows.F.plain_set_update_loop _]
    show wpAny _ A.in1 (pyNext (.ref I) >>= _) _ _ s
    refine wpAny_bind (W.done s _ _ hst fun s' hm => ?_)
    show wpAny _ A.in1 (ret Value.none) _ _ s'
    rw [List.take_of_length_le (by omega)] at hS
    exact wpAny_pure (hR s' (hm.mono up) (hS.at fun o e => hm.heap S _ hSw e))
  | succ k ih =>
    intro i s hk hi hst hS hR
    have hlt : i < n := by omega
    refine codeAny_builtin PyProof.Rows.F.entry_set_update_loop ?_
    rw [Around.under_plainId PyProof.Rows.F.plain_set_update_loop _]
    show wpAny _ A.in1 (pyNext (.ref I) >>= _) _ _ s
    refine wpAny_bind (W.item i s _ _ hlt hst fun v s' hP hst' hm => ?_)
    obtain ⟨x, t, hx, rfl⟩ := hval i v hP
    have hS1 : SetT w s'.heap S (setFold (xs.take i)) := hS.at fun o e => hm.heap S _ hSw e
    show wpAny _ A.in1 (holding [Value.str x t] (setAdd S (.str x t)) >>= _) _ _ s'
    refine wpAny_bind (wpAny_holding ?_)
    unfold setAdd
    refine wpAny_holding ?_
    refine wpAny_bind ((PySem.strKind prog w).pyHash (k := x) (strKind_is _ _ _ _) ?_)
    have lf := setFold_len i (xs.take i) (by rw [List.length_take]; omega)
    refine setT_add (s := { s' with toks := s'.toks + 1 }) hS1 (by omega) fun b h' hsb hS2 => ?_
    have e1 : xs.take (i + 1) = xs.take i ++ [x] := by
      rw [List.take_succ, hx]
      rfl
    have hS3 : SetT w h' S (setFold (xs.take (i + 1))) := by
      rw [e1, setFold_snoc]
      exact hS2
    refine wpAny_pure ⟨plainId_quiet PyProof.Rows.F.plain_set_update_loop _, ih (i + 1) _ (by omega) hlt (W.frame _ s' _ _ hst' (Nat.le_succ _) fun b hb o e => ?_) hS3 fun s'' hm'' hS'' => ?_⟩
    · rw [hsb.2 b (fun h : b = S => hSf (by rw [← h]; exact hb))]
      exact e
    · refine hR s'' (Moved.trans W.gtrans ((hm.mono up).then_heap (Nat.le_succ _) fun b o hb e => ?_) hm'') hS''
      rw [hsb.2 b (fun h : b = S => hb (by rw [h]; exact List.mem_cons_self))]
      exact e
end
section
variable {prog : Program} {w : World} {A : Around} {E : Value → Shared → Prop} {s : Shared}
abbrev newSet (w : World) : Obj := { cls := .type "set", dict := none, data := .set #[] 0 (.fresh 0 0 (!w.params.followText "set-order")) }
theorem setT_fresh {h : Heap} (w : World) : SetT w (h.push (newSet w)) h.objs.size [] :=
  ⟨_, #[], 0, _, Heap.get?_push_size _ rfl, ⟨rfl, rfl, rfl⟩, rfl, (fun e he => by simp at he), List.Perm.refl _, List.nodup_nil, (by decide), (by rfl), List.Pairwise.nil, by
    show _ ∨ (!w.params.followText "set-order") = true
    cases w.params.followText "set-order"
    · exact .inr rfl
    · exact .inl rfl⟩
theorem code_setNew (a : Value) {Q1 : Value → Shared → Prop} (h : Q1 (.ref s.heap.objs.size) { s with heap := s.heap.push (newSet w) }) :
    codeAny (model prog w) A (.call (.builtin "set.__new__") ⟨[.type "set", a], []⟩) (wants Q1 E) s := by
  refine codeAny_of_tree ?_
  show wpAny _ A.in1 (do checkBuiltinCall "set.__new__" ⟨[.type "set", a], []⟩; again (.builtin "set.__new__" ⟨[.type "set", a], []⟩)) _ _ s
  refine wpAny_bind (wpAny_of_eq (F.newCall_set_1 a) (wpAny_pure ⟨plainId_quiet F.plain_set_new _, codeAny_builtin F.entry_set_new ?_⟩))
  rw [Around.under_plainId F.plain_set_new _]
  unfold Builtin.«set.__new__» Builtin.Frozenset.newClass
  have hsub := sub_set_self
  obtain ⟨hp, g, d, tk, os⟩ := s
  dsimp only
  wp_walk
  refine wpAny_askSetting (wpAny_pure ?_)
  dsimp only
  simp only [newObj]
  refine wpAny_bind (wpAny_alloc (wpAny_pure ?_))
  exact wpAny_pure h
theorem sub_str_set : isSubtype (.type "str") (.type "set") = pure false := by
  rw [isSubtype_type]; kernel_rfl
theorem sub_str_frozenset : isSubtype (.type "str") (.type "frozenset") = pure false := by
  rw [isSubtype_type]; kernel_rfl
/-- set(x): the new set, then the iterable's items (hinit: what set.__init__ does) -/
theorem call_set1 {v : Value} {ys : List Str} {Q : Value → Shared → Prop}
    (hinit : ∀ (R : Result → Shared → Prop), (∀ h' tk, SetT w h' s.heap.objs.size ys → (∀ b o, b < s.heap.objs.size → s.heap.get? b = some o → h'.get? b = some o) → R (.ok (.ret .none)) { s with heap := h', toks := tk }) →
      wpAny (model prog w) A.in1.in1 (Builtin.«set.__init__» ⟨[.ref s.heap.objs.size, v], []⟩) (fun fin s' => match fin with | .done f => R (.ok f) s' | .again c => c.quiet = true ∧ codeAny (model prog w) A.in1 c R s')
        (fun e s' => R (.error e) s') { s with heap := s.heap.push (newSet w) })
    (h : ∀ (h' : Heap) (tk : Nat), SetT w h' s.heap.objs.size ys → (∀ b o, b < s.heap.objs.size → s.heap.get? b = some o → h'.get? b = some o) → Q (.ref s.heap.objs.size) { s with heap := h', toks := tk }) :
    wpAny (model prog w) A (call (.type "set") [v]) Q E s := by
  obtain ⟨c, tl, hmro⟩ := PySem.F.called_set.mro
  have z1 := PySem.F.called_set.made
  have z2 := PySem.F.called_set.sub
  refine wpAny_call (codeAny_of_tree ?_)
  show wpAny _ _ (callAny (.type "set") _) _ _ _
  refine wpAny_pure ⟨Code.quiet_builtin _ (by decide +kernel), codeAny_builtin PySem.F.entry_type_call ?_⟩
  rw [Around.under_plain (weight_type_call_type "set" [v] []) rfl]
  have z3 := PySem.F.called_set.notType
  have z4 := PySem.F.called_set.canCreate
  have z5 := F.typeCall_set_1 v
  repeat (any_goals (first | assumption | wp_step))
  refine codeAny_mono (code_setNew v (E := E) (Q1 := fun obj s₁ => obj = .ref s.heap.objs.size ∧ s₁ = { s with heap := s.heap.push (newSet w) }) ⟨rfl, rfl⟩) fun r s₁ hr => ?_
  cases r with
  | error e => exact hr
  | ok fl =>
    cases fl with
    | ret obj =>
      obtain ⟨rfl, rfl⟩ := hr
      have hS : (s.heap.push (newSet w)).get? s.heap.objs.size = some (newSet w) := Heap.get?_push_size _ rfl
      have hT : Shared.TypeIs { s with heap := s.heap.push (newSet w) } (.ref s.heap.objs.size) "set" := ⟨_, hS, rfl⟩
      have z6 := PySem.F.called_set.init.lookup
      have z7 := PySem.F.called_set.init.bind (.ref s.heap.objs.size)
      repeat (any_goals (first | assumption | wp_step))
      refine codeAny_mono (codeAny_call_builtin (R := wants (fun r s₂ => r = .none ∧ ∃ h' tk, s₂ = { s with heap := h', toks := tk } ∧ SetT w h' s.heap.objs.size ys ∧ (∀ b o, b < s.heap.objs.size → s.heap.get? b = some o → h'.get? b = some o)) E)
        PySem.F.called_set.init.plain PySem.F.entry_set_init (check_set_init_1 hT ?_)) fun r₂ s₂ hr₂ => ?_
      · refine hinit (wants (fun r s₂ => r = .none ∧ ∃ h' tk, s₂ = { s with heap := h', toks := tk } ∧ SetT w h' s.heap.objs.size ys ∧ (∀ b o, b < s.heap.objs.size → s.heap.get? b = some o → h'.get? b = some o)) E) ?_
        exact fun h' tk a1 a2 => ⟨rfl, h', tk, rfl, a1, a2⟩
      · cases r₂ with
        | error e => exact hr₂
        | ok fl₂ =>
          cases fl₂ with
          | ret r =>
            obtain ⟨rfl, h', tk, rfl, b1, b2⟩ := hr₂
            repeat (any_goals (first | assumption | wp_step))
            exact h _ _ b1 b2
          | _ => exact hr₂.elim
    | _ => exact hr.elim
end
end L2
namespace L2
open PySem PySem.Spec PyProof.Rows PySem.GX
section
variable {prog : Program} {w : World} {A : Around} {E : Value → Shared → Prop} {s : Shared}
theorem init_str {x : Str} {t : Tok} (hh : A.handled = none) (hz : x.length + 1 < scanBound) (R : Result → Shared → Prop)
    (hR : ∀ h' tk, SetT w h' s.heap.objs.size (setFold (x.cps.toList.map fun c => ⟨#[c]⟩)) → (∀ b o, b < s.heap.objs.size → s.heap.get? b = some o → h'.get? b = some o) → R (.ok (.ret .none)) { s with heap := h', toks := tk }) :
    wpAny (model prog w) A.in1.in1 (Builtin.«set.__init__» ⟨[.ref s.heap.objs.size, .str x t], []⟩) (fun fin s' => match fin with | .done f => R (.ok f) s' | .again c => c.quiet = true ∧ codeAny (model prog w) A.in1 c R s')
      (fun e s' => R (.error e) s') { s with heap := s.heap.push (newSet w) } := by
  have hS : (s.heap.push (newSet w)).get? s.heap.objs.size = some (newSet w) := Heap.get?_push_size _ rfl
  have y1 := sub_str_set
  have y2 := sub_str_frozenset
  have y3 : (Value.type "str" == Value.type "dict") = false := by decide
  have hT0 : Shared.TypeIs { s with heap := s.heap.push (newSet w) } (.str x t) "str" := typeIs_str _ _ _
  unfold Builtin.«set.__init__» noKeywords Builtin.Frozenset.updateFrom
  generalize hPI : pyIter = PI
  wp_walk
  subst hPI
  refine wpAny_pyIter_str (s := { s with heap := s.heap.push (newSet w) }) (fun o St W hst => ?_)
  refine wpAny_bind (wpAny_runValue ?_)
  have z1 : (s.heap.push (newSet w)).objs.size = s.heap.objs.size + 1 := Heap.size_push _ _
  have hSf : s.heap.objs.size ∉ [(s.heap.push (newSet w)).objs.size] := by
    rw [z1]
    simp only [List.mem_singleton]
    omega
  have hsz : (x.cps.toList.map fun c => (⟨#[c]⟩ : Str)).length = x.cps.size := by
    rw [List.length_map, Array.length_toList]
  refine loopT ((W A.in1.in1.in1 (by simp [hh])).toS) s.heap.objs.size hSf (x.cps.toList.map fun c => ⟨#[c]⟩) hsz hz (fun i v hv => ?_) (x.cps.size - 0) 0 _ (by omega) (Nat.zero_le _) hst ?_ ?_
  · obtain ⟨c, u, hc, rfl⟩ := hv
    exact ⟨_, u, by rw [List.getElem?_map, Array.getElem?_toList, hc]; rfl, rfl⟩
  · exact (setT_fresh w).at fun u e => Heap.get?_push_of_some _ e
  · intro s' hm hS'
    obtain ⟨h', g', d', tk', os'⟩ := s'
    have eg : g' = s.gens := hm.gens
    have ed : d' = s.drawn := hm.drawn
    have eo : os' = s.os := hm.os
    subst eg; subst ed; subst eo
    show wpAny _ _ _ _ _ _
    refine wpAny_pure ?_
    show wpAny _ _ (ret Value.none) _ _ _
    refine wpAny_pure (hR h' tk' hS' fun b u hb e => ?_)
    refine hm.heap b u (fun hmem => ?_) (Heap.get?_push_of_some _ (Heap.get?_push_of_some _ e))
    rcases List.mem_cons.mp hmem with q | q
    · exact absurd (q ▸ hb) (Nat.lt_irrefl _)
    · have q2 := List.mem_singleton.mp q
      rw [z1] at q2
      exact absurd (Nat.lt_succ_of_lt (q2 ▸ hb)) (Nat.lt_irrefl _)
theorem init_list {l : Addr} {items : Array Value} {xs : List Str} (hh : A.handled = none) (hl : s.heap.IsList l items) (hi : PyProof.Rows.StrsAre items.toList xs) (hz : xs.length + 1 < scanBound) (R : Result → Shared → Prop)
    (hR : ∀ h' tk, SetT w h' s.heap.objs.size (setFold xs) → (∀ b o, b < s.heap.objs.size → s.heap.get? b = some o → h'.get? b = some o) → R (.ok (.ret .none)) { s with heap := h', toks := tk }) :
    wpAny (model prog w) A.in1.in1 (Builtin.«set.__init__» ⟨[.ref s.heap.objs.size, .ref l], []⟩) (fun fin s' => match fin with | .done f => R (.ok f) s' | .again c => c.quiet = true ∧ codeAny (model prog w) A.in1 c R s')
      (fun e s' => R (.error e) s') { s with heap := s.heap.push (newSet w) } := by
  have hS : (s.heap.push (newSet w)).get? s.heap.objs.size = some (newSet w) := Heap.get?_push_size _ rfl
  obtain ⟨ol, hol, hcl, nl, hdl⟩ := hl
  obtain ⟨ocls, odict, odata, oslots⟩ := ol
  simp only at hcl hdl
  subst hcl; subst hdl
  have hol1 : (s.heap.push (newSet w)).get? l = some { cls := .type "list", dict := odict, data := .seq items nl, slots := oslots } := Heap.get?_push_of_some _ hol
  have y1 := F.sub_list_set
  have y2 := F.sub_list_frozenset
  have y3 : (Value.type "list" == Value.type "dict") = false := by decide
  have hl1 : (s.heap.push (newSet w)).IsList l items := ⟨_, hol1, rfl, nl, rfl⟩
  unfold Builtin.«set.__init__» noKeywords Builtin.Frozenset.updateFrom
  generalize hPI : pyIter = PI
  wp_walk
  subst hPI
  refine wpAny_pyIter_list hl1 ?_
  refine wpAny_bind (wpAny_runValue ?_)
  have z1 : (s.heap.push (newSet w)).objs.size = s.heap.objs.size + 1 := Heap.size_push _ _
  have hlS : l < s.heap.objs.size := Heap.lt_size hol
  have hneI : l ≠ (s.heap.push (newSet w)).objs.size := by
    rw [z1]; exact Nat.ne_of_lt (Nat.lt_succ_of_lt hlS)
  have hSf : s.heap.objs.size ∉ [(s.heap.push (newSet w)).objs.size, l] := by
    rw [z1]
    simp only [List.mem_cons, List.mem_singleton, List.not_mem_nil, or_false, not_or]
    exact ⟨Nat.ne_of_lt (Nat.lt_succ_self _), Nat.ne_of_gt hlS⟩
  have hsz : xs.length = items.size := by
    rw [← StrsAre.len_eq hi, Array.length_toList]
  have hval : ∀ (i : Nat) (v : Value), items[i]? = some v → ∃ x t, xs[i]? = some x ∧ v = .str x t := fun i v hv => by
    have hlt : i < items.size := (Array.getElem?_eq_some_iff.mp hv).1
    obtain ⟨t, e⟩ := SS.strs_at hi i v (by rw [Array.getElem?_toList]; exact hv)
    have hx : xs[i]? = some (xs.getD i Str.empty) := by
      rw [List.getD_eq_getElem?_getD, List.getElem?_eq_getElem (by omega)]
      rfl
    exact ⟨_, t, hx, e⟩
  refine loopT ((Walks.list (A := A.in1.in1.in1) (by simp [hh]) _ l hneI items).toS) s.heap.objs.size hSf xs hsz (by omega) hval (items.size - 0) 0 _ (by omega) (Nat.zero_le _) ⟨⟨_, Heap.get?_push_size _ rfl, rfl, rfl⟩, (hl1.push _)⟩ ?_ ?_
  · exact (setT_fresh w).at fun u e => Heap.get?_push_of_some _ e
  · intro s' hm hS'
    obtain ⟨h', g', d', tk', os'⟩ := s'
    have eg : g' = s.gens := hm.gens
    have ed : d' = s.drawn := hm.drawn
    have eo : os' = s.os := hm.os
    subst eg; subst ed; subst eo
    show wpAny _ _ _ _ _ _
    refine wpAny_pure ?_
    show wpAny _ _ (ret Value.none) _ _ _
    refine wpAny_pure (hR h' tk' hS' fun b u hb e => ?_)
    refine hm.heap b u (fun hmem => ?_) (Heap.get?_push_of_some _ (Heap.get?_push_of_some _ e))
    rcases List.mem_cons.mp hmem with q | q
    · exact absurd (q ▸ hb) (Nat.lt_irrefl _)
    · have q2 := List.mem_singleton.mp q
      rw [z1] at q2
      exact absurd (Nat.lt_succ_of_lt (q2 ▸ hb)) (Nat.lt_irrefl _)
end
end L2
namespace L2
open PySem PySem.Spec PyProof.Rows PySem.GX
/-- the signs of a text, each as a text -/
def signsOf (x : Str) : List Str := x.cps.toList.map fun c => ⟨#[c]⟩
/-- the set of texts at a, its members ys -/
def SetTx (w : World) (a : Addr) (ys : List Str) : HO := .ext fun h => SetT w h a ys
theorem setTx_new {w : World} {P : Program} {H : Hp} {h : Heap} {a : Addr} {ys : List Str} (R : SetT w h a ys) : ObjOk P w H h a (SetTx w a ys) := by
  have ⟨o, _, _, _, ho, _⟩ := R
  exact ⟨R, ⟨o, ho⟩, fun h1 h2 p k => p.at k⟩
theorem strs_list : ∀ {l : List Value}, (∀ v ∈ l, ∃ k tk, v = Value.str k tk) → ∃ ss, StrsAre l ss ∧ ss = l.map (fun v => keyS (0, v))
  | [], _ => ⟨[], .nil, rfl⟩
  | v :: l, h => by
    obtain ⟨k, tk, rfl⟩ := h v List.mem_cons_self
    obtain ⟨ss, a, b⟩ := strs_list (l := l) fun u hu => h u (List.mem_cons_of_mem _ hu)
    exact ⟨k :: ss, .cons k tk a, by rw [b]; rfl⟩
section
variable {P : Program} {w : World} {A : Around} {E : Value → Shared → Prop} {s : Shared} {a : Addr} {ys : List Str}
theorem sorted_setT {Q : Value → Shared → Prop} (R : SetT w s.heap a ys) (hh : A.handled = none)
    (hQ : ∀ s' p (out : Array Value) (c : Nat) (zs : List Str), (∀ b o, s.heap.get? b = some o → s'.heap.get? b = some o) → s'.gens = s.gens → s'.os = s.os → s.heap.objs.size ≤ p →
      s'.heap.get? p = some (seqObj "list" out c) → StrsAre out.toList zs → zs.Perm ys → sortedS zs = true → Q (.ref p) s') :
    wpAny (model P w) A (call (.builtin "sorted") [.ref a]) Q E s := by
  obtain ⟨o, es, ep, t, ho, hex, hd, g, pm0, nd, hb, hf, hr, hl⟩ := R
  refine Calls.call_function_entry kind_sorted plain_sorted entry_sorted (args_sorted1 _) ?_
  unfold Builtin.«sorted»
  refine wpAny_bind (m := checkCount "sorted" 1 1 _) (wpAny_pure ?_)
  refine wpAny_bind (collect_set (A := A.in1) hh ⟨o, ho, hex.1, hd⟩ hf hb hr hl fun s1 vs k1 hz g1 o1 pm => ?_)
  have hvl : vs.length = es.size := by
    rw [pm.length_eq, List.length_map, Array.length_toList]
  obtain ⟨ss, hS, hss⟩ := strs_list (l := vs) fun v hv => by
    obtain ⟨e, he, q⟩ := List.mem_map.mp (pm.mem_iff.mp hv)
    obtain ⟨k, tk, h1, _⟩ := g e he
    exact ⟨k, tk, by rw [← q]; exact h1⟩
  have ps : ss.Perm ys := by
    have q := pm.map (fun v => keyS (0, v))
    rw [List.map_map, ← hss] at q
    exact q.trans pm0
  have small : vs.length ≤ sizeLine := by
    rw [hvl]
    exact fits_of_scanBound hb
  refine wpAny_bind (wpAny_newList ?_ small)
  have hoL : (s1.heap.push (seqObj "list" vs.toArray 0)).get? s1.heap.objs.size = some (seqObj "list" vs.toArray 0) := Heap.get?_push_size _ rfl
  refine wpAny_bind (wpAny_holding (wpAny_call_entry slot_list_sort ⟨_, hoL, rfl⟩ entry_list_sort
    (list_sort_treeKAny PyProof.Rows.strKind_oneLt hoL hS.keysOf (fun v₁ v₂ rest e => keyKind_strs (by rw [← e]; exact hS)) small fun st' a1 a2 => ⟨_, rfl, ?_⟩) (args_list_sort _)))
  obtain ⟨zs, h1, h2, h3⟩ := sorted_out_str hS a1 a2
  obtain ⟨c, hc⟩ := sortedHeap_at (vs := vs) (out := (arrOf st').map (·.2)) hoL
  refine wpAny_pure ⟨_, rfl, hQ _ s1.heap.objs.size _ c zs (fun b u e => ?_) g1 o1 hz hc h1 (h2.trans ps) h3⟩
  have q := k1 b u e
  have hlt := Heap.lt_size q
  show (sortedHeap (s1.heap.push (seqObj "list" vs.toArray 0)) s1.heap.objs.size vs _).get? b = some u
  rw [sortedHeap_old (Nat.ne_of_lt hlt) (by rw [size_push']; exact Nat.lt_succ_of_lt hlt)]
  exact Heap.get?_push_of_some _ q
end
section
variable {X : Cx}
/-- set(text) -/
def rSetS (w : World) : List V → Hp → VK → Prop := fun xs H Q => ∃ x : Str, xs = [.str x] ∧ x.length < 4000 ∧ ∀ p, H p = none → Q (.ref p) (upd H p (SetTx w p (setFold (signsOf x))))
theorem cr_setS (hc : X.calm = true) : CallR X (.type "set") (rSetS X.w) := by
  intro pins s σ H xs us Q I r h
  obtain ⟨x, rfl, hz, q⟩ := h
  obtain ⟨u, rfl, t, rfl⟩ := vals1 r
  refine call_set1 (ys := setFold (signsOf x)) (fun R hR => init_str (I.ok.hd hc) (by unfold scanBound; omega) R hR) fun h' tk hS k => ?_
  exact ⟨.ref _, upd H s.heap.objs.size (SetTx X.w s.heap.objs.size (setFold (signsOf x))), I.laid (t' := tk) (fun b u e => k b u (Heap.lt_size e) e) (Nat.le_refl _) (setTx_new hS), rfl, q _ (I.hok.fresh (Nat.le_refl _))⟩
/-- set(list of texts) -/
def rSetTxL (K : PySem.W.Frag) (w : World) : List V → Hp → VK → Prop := fun vs H Q => ∃ (l : Addr) (xs : List Str), vs = [.ref l] ∧ SqL K H l (xs.map V.str) ∧ xs.length < 4000 ∧ ∀ p, H p = none → Q (.ref p) (upd H p (SetTx w p (setFold xs)))
theorem cr_setL (hc : X.calm = true) : CallR X (.type "set") (rSetTxL X.K X.w) := by
  intro pins s σ H vs us Q I r h
  obtain ⟨l, xs, rfl, hq, hz, q⟩ := h
  obtain ⟨its, rv, pl, _⟩ := I.list hq
  rw [Vals.ref1 r]
  refine call_set1 (ys := setFold xs) (fun R hR => init_list (I.ok.hd hc) pl.isList (by simpa using strsAre_of rv) (by unfold scanBound; omega) R hR) fun h' tk hS k => ?_
  exact ⟨.ref _, upd H s.heap.objs.size (SetTx X.w s.heap.objs.size (setFold xs)), I.laid (t' := tk) (fun b u e => k b u (Heap.lt_size e) e) (Nat.le_refl _) (setTx_new hS), rfl, q _ (I.hok.fresh (Nat.le_refl _))⟩
/-- len(set of texts) -/
def rLenSet (w : World) : List V → Hp → VK → Prop := fun vs H Q => ∃ (a : Addr) (ys : List Str), vs = [.ref a] ∧ H a = some (SetTx w a ys) ∧ Q (.int ys.length) H
theorem cr_lenSet : CallR X (.builtin "len") (rLenSet X.w) := by
  intro pins s σ H vs us Q I r h
  obtain ⟨a, ys, rfl, ha, q⟩ := h
  rw [Vals.ref1 r]
  obtain ⟨o, es, ep, t, ho, hex, hd, g, pm0, nd, hb, hf, hr, hl⟩ := (I.hok a _ ha).1
  have hn : es.size = ys.length := by
    rw [← pm0.length_eq, List.length_map, Array.length_toList]
  refine call_len_set ho hex hd hf (by unfold scanBound at hb; omega) ⟨.int ys.length, H, I.tok _, ⟨_, by rw [hn]⟩, q⟩
/-- sorted(set of texts) -/
def rSortedTx (w : World) : List V → Hp → VK → Prop := fun vs H Q => ∃ (a : Addr) (ys : List Str), vs = [.ref a] ∧ H a = some (SetTx w a ys) ∧
  ∀ (zs : List Str) (p : Addr), zs.Perm ys → sortedS zs = true → H p = none → Q (.ref p) (upd H p (.lst (zs.map V.str)))
theorem cr_sortedTx (hc : X.calm = true) : CallR X (.builtin "sorted") (rSortedTx X.w) := by
  intro pins s σ H vs us Q I r h
  obtain ⟨a, ys, rfl, ha, q⟩ := h
  rw [Vals.ref1 r]
  have R : SetT X.w s.heap a ys := (I.hok a _ ha).1
  have small : ys.length ≤ sizeLine := by
    obtain ⟨o, es, ep, t, ho, hex, hd, g, pm0, nd, hb, _⟩ := R
    rw [← pm0.length_eq, List.length_map, Array.length_toList]
    exact fits_of_scanBound hb
  refine sorted_setT R (I.ok.hd hc) fun s' p out c zs k g1 o1 hp he hS pm so => ?_
  obtain ⟨h', g', d', tk', os'⟩ := s'
  have hlen : (zs.map V.str).length ≤ sizeLine := by
    rw [List.length_map, pm.length_eq]; exact small
  have J : Inv X pins σ (upd H p (.lst (zs.map V.str))) ⟨h', g', d', tk', os'⟩ := by
    have hn := I.hok.fresh hp
    have u : Un (frs X.stack) [] H (upd H p (.lst (zs.map V.str))) s.heap h' := Un.laid k hp hn
    refine I.call' (ch := []) o1 u ?_ ?_ (fun b z => absurd z (by simp))
    · exact I.hok.laid k hp ⟨hlen, out.toList, c, vals_of_strs hS, he⟩
    · have e : g' = s.gens := g1
      rw [e]; exact I.bare
  exact ⟨.ref p, _, J, rfl, q zs p pm so (I.hok.fresh hp)⟩
end
end L2
namespace L2
open PySem PySem.Spec PyProof.Rows PySem.GX
/-! a dict comprehension whose keys are tuples of ints and texts -/
section
variable {X : Cx} {pl : List (Addr × Obj)} {σ : St} {H : Hp} {s : Shared} {D t : Addr} {kvs : List (List Key × V)} {k : List Key} {v : V}
/-- the store of one turn -/
theorem dictSet_tup {Er : Value → Shared → Prop} {kv vv : Value} {Q : Unit → Shared → Prop} (room : X.A.units < cLine) (I : Inv X pl σ H s) (eD : H D = some (.dT kvs)) (et : H t = some (.tup (k.map kV))) (few : kvs.length < sizeLine)
    (rk : RelV (.ref t) kv) (rv : RelV v vv) (go : ∀ s', Inv X pl σ (upd H D (.dT (putK kvs k v))) s' → Q () s') : wpAny (model X.prog X.w) X.A (dictSet D kv vv) Q Er s := by
  have ekv : kv = Value.ref t := rk
  subst ekv
  obtain ⟨len0, nosys, xs, rel, dict⟩ := dt_of I.hok eD
  have len1 : xs.length ≤ sizeLine := by
    rw [← Paired.length rel]
    exact len0
  have len2 : (putK kvs k v).length ≤ sizeLine := by
    have grows := length_putK kvs k v
    omega
  have hroom : (tupleKind (mixKind X.prog X.w)).room X.A := room
  refine wpAny_dictSet_heap (hsz := len1) hroom (key_of I.hok et) dict fun h' dict' same => go _ ?_
  obtain ⟨o, es, ep, ho, c1, c2, c3, _, c4⟩ := dict'
  refine d_write I (by rw [eD]; trivial) same ⟨o, ho⟩ ⟨len2, nosys, _, (rel.put k et rv).keeps fun c ys ec => ?_, o, es, ep, ho, c1, c2, c3, c4⟩
  rw [upd_ne (ne_of ec eD (fun z => nomatch z))]
  exact ec
end
/-- {(..): v for target in iter if ..}: D is the new dict -/
def tDcT (wi : TI) (g : TG) (tt : TT) (tk tv : TE) (vs : List Nat) : TE := fun σ H Q => wi σ H fun J H1 => ∀ D, H1 D = none → ∃ W : Nat → Nat → Hp → Prop, (∃ m, W 0 m (upd H1 D (.dT []))) ∧ ∀ i m H, W i m H →
  (J.stop i H ∧ Q (.ref D) H) ∨ (J.go i H ∧ ∃ On : Hp → Prop, (∀ H', On H' → ∃ m', m' < m ∧ W (i + 1) m' H') ∧ ∀ x H', J.yld i H x H' → g x (wipe σ vs) H' fun σ2 H2 => wipe σ2 vs = wipe σ vs ∧ tt σ2 H2 fun b H3 =>
    if b = true then tk σ2 H3 fun y H4 => tv σ2 H4 fun z H5 => ∃ kvs k t, y = .ref t ∧ H5 t = some (.tup (k.map kV)) ∧ H5 D = some (.dT kvs) ∧ kvs.length < sizeLine ∧ On (upd H5 D (.dT (putK kvs k z))) else On H3)
section
variable {X : Cx} {kx vx tg iter : Expr} {ifs : List Expr} {scope : Scope} {own : List (Str × Nat)} {pos : Pos} {wi : TI} {g : TG} {tt : TT} {tk tv : TE}
theorem pe_dcT (hr : X.A.units + 64 < cLine) (calm : X.calm = true) (hN : X.N.Nodup) (hi : PI X tg iter wi) (ok : BlkOk X.N X.env.scope scope own)
    (hg : ∀ (s : Shared) (H : Hp) (C : Addr) (cl : List (Str × Addr)) (fp : List Addr), PG (X.blk s H scope (compEnvC scope cl C X.env) fp) tg g)
    (ht : ∀ (s : Shared) (H : Hp) (C : Addr) (cl : List (Str × Addr)) (fp : List Addr), PTs (X.blk s H scope (compEnvC scope cl C X.env) fp) ifs tt)
    (hk : ∀ (s : Shared) (H : Hp) (C : Addr) (cl : List (Str × Addr)) (fp : List Addr), PE (X.blk s H scope (compEnvC scope cl C X.env) fp) kx tk)
    (hv : ∀ (s : Shared) (H : Hp) (C : Addr) (cl : List (Str × Addr)) (fp : List Addr), PE (X.blk s H scope (compEnvC scope cl C X.env) fp) vx tv)
    (hs : ∀ x, foldedSetIterable iter X.env x = pure x := by intro _; rfl) :
    PE X (.DictComp kx vx [⟨tg, iter, ifs, 0⟩] scope pos) (tDcT wi g tt tk tv (own.map (·.2))) := by
  refine ⟨fun pl s σ H Q I h => ?_⟩
  rw [arm_eval_DictComp]
  have frees : ∀ y ∈ scope.names, y.2 = .free → ∃ c, X.env.cells.lookup y.1 = some c := fun y hy e => by
    rcases ok.free y hy e with k | k
    · exact I.ok.has _ (.inl k)
    · exact I.ok.has _ (.inr k)
  refine wpAny_comprehension_free rfl hs (closure_ok frees) ok.kind (fun y hy e => by rw [ok.uniq y hy, e]) (thn (hi.run pl s σ H _ I h) fun _ sa ha => thn ha fun _ sb hb => ?_)
  obtain ⟨it, fp, tn, J, Hb, rfl, Ib, T, tb, okb, want⟩ := hb
  refine wpAny_newObj_type (newEnv_comp ?_)
  -- the new dict
  generalize eD : sb.heap.objs.size = D
  have freeD : Hb D = none := Ib.hok.fresh (Nat.le_of_eq eD)
  obtain ⟨W, ⟨m0, begins⟩, turn⟩ := want D freeD
  generalize esc : ({ sb with heap := sb.heap.push { cls := .type "dict", data := .dict #[] } } : Shared) = sc
  have hsc : sc.heap = sb.heap.push { cls := .type "dict", data := .dict #[] } := by rw [← esc]
  have Ic : Inv X pl σ (upd Hb D (.dT [])) sc := by
    rw [← esc]
    refine Ib.laid (t' := sb.toks) (fun b o e => Heap.get?_push_of_some _ e) (Nat.le_of_eq eD) ?_
    rw [← eD]
    exact dt_empty sb.heap Ib.big
  have old : ∀ b ∈ fp, b < sb.heap.objs.size := fun b hb => by
    obtain ⟨o, e, _⟩ := T.obj _ _ tb b hb
    exact Heap.lt_size e
  have okc : ∀ b ∈ fp, FpOk X pl (upd Hb D (.dT [])) b ∧ b < sc.heap.objs.size := fun b hb => by
    have lt := old b hb
    refine ⟨⟨?_, (okb b hb).2⟩, ?_⟩
    · rw [upd_ne (by rw [← eD]; exact Nat.ne_of_lt lt)]
      exact (okb b hb).1
    · rw [hsc, Heap.size_push]
      exact Nat.lt_succ_of_lt lt
  have tc : tn 0 sc.heap := T.keep _ _ _ tb fun b _ o e => by
    rw [hsc]
    exact Heap.get?_push_of_some _ e
  -- the block
  have Id := block_start Ic ok hN okc
  have g1 := hg sc (upd Hb D (.dT [])) sc.heap.objs.size (cellsFrom (sc.heap.objs.size + 1) scope.names (cloFrom X.env.cells scope.names [])) fp
  have g2 := ht sc (upd Hb D (.dT [])) sc.heap.objs.size (cellsFrom (sc.heap.objs.size + 1) scope.names (cloFrom X.env.cells scope.names [])) fp
  have g3 := hk sc (upd Hb D (.dT [])) sc.heap.objs.size (cellsFrom (sc.heap.objs.size + 1) scope.names (cloFrom X.env.cells scope.names [])) fp
  have g4 := hv sc (upd Hb D (.dT [])) sc.heap.objs.size (cellsFrom (sc.heap.objs.size + 1) scope.names (cloFrom X.env.cells scope.names [])) fp
  show codeAny _ _ (.compStart (.DictComp kx vx [⟨tg, iter, ifs, 0⟩] scope pos) 0 (.ref it) (.ref D) (compEnvC scope (cellsFrom (sc.heap.objs.size + 1) scope.names (cloFrom X.env.cells scope.names [])) sc.heap.objs.size X.env)) _
    { sc with heap := pushCells (sc.heap.push { cls := .type "dict", data := .dict #[] }) scope.names }
  have hid : ∀ b ∈ fp, (upd Hb D (.dT [])) b = none := fun b hb => (okc b hb).1.1
  generalize eenv : compEnvC scope (cellsFrom (sc.heap.objs.size + 1) scope.names (cloFrom X.env.cells scope.names [])) sc.heap.objs.size X.env = env at Id g1 g2 g3 g4 ⊢
  have eloc : env.locals = sc.heap.objs.size := by subst eenv; rfl
  generalize eHc : upd Hb D (.dT []) = Hc at Ic Id g1 g2 g3 g4 begins hid okc
  generalize esd : ({ sc with heap := pushCells (sc.heap.push { cls := .type "dict", data := .dict #[] }) scope.names } : Shared) = sd at Id ⊢
  have td : tn 0 sd.heap := T.keep _ _ _ tc fun b _ o e => by
    rw [← esd]
    exact pushCells_keeps _ _ _ _ (Heap.get?_push_of_some _ e)
  have fpOk : ∀ {σ' : St} {H' : Hp} {s' : Shared}, Inv (X.blk sc Hc scope env fp) [] σ' H' s' → (∀ b ∈ fp, H' b = none) → ∀ b ∈ fp, FpOk (X.blk sc Hc scope env fp) [] H' b := fun {σ' H' s'} I' free b hb => by
    refine ⟨free b hb, (I'.ok.exf b hb).1, I'.ok.exfs b hb, .inl hb, fun x c e => (I'.ok.exf b hb).2 x c e, fun p hp => ?_⟩
    exact absurd (show p ∈ ([] : List (Addr × Obj)) ++ [] from hp) (by simp)
  refine codeAny_compStart_dict ?lp (T.self X.A 0 _ _ _ td ?lp)
  refine compLoop_anyD (fun n s' => ∃ i H', Inv (X.blk sc Hc scope env fp) [] (wipe σ (own.map (·.2))) H' s' ∧ tn i s'.heap ∧ (∀ b ∈ fp, H' b = none) ∧ W i n H') ?_ m0 ⟨0, Hc, Id, td, hid, begins⟩
  rintro n se ⟨i, He, Ie, te, free, at_⟩
  rcases turn i n He at_ with ⟨stop, wish⟩ | ⟨goes, On, next, step⟩
  · refine thnF (T.done (X.blk sc Hc scope env fp) rfl rfl rfl calm i [] se _ He (fun _ _ => False) Ie (fpOk Ie free) te stop) fun r sf ⟨hr, If⟩ => ?_
    subst hr
    have back : Inv X pl σ He sf := Ic.call' (ch := fp) If.os If.base If.hok If.bare fun b hb => ⟨(okc b hb).1.2.2.2.1, (okc b hb).1.2.1, (okc b hb).1.2.2.2.2.1, (okc b hb).1.2.2.2.2.2⟩
    have noC : He sc.heap.objs.size = none := by
      have z : He env.locals = none := If.free
      rw [eloc] at z
      exact z
    obtain ⟨m, hn, _⟩ := If.loc
    have hn' : sf.heap.Ns env.locals m := hn
    rw [eloc] at hn'
    obtain ⟨f0, f1, f2, f3, f4, f5⟩ := Ic.fpOk (Nat.le_refl _) noC
    exact ⟨m, hn', fun h'' sb' => ⟨.ref D, He, back.turned (t' := sf.toks) (fun b o hb e => (sb'.2 b hb).trans e) f0 f1 f3 f4 f5, rfl, wish⟩⟩
  · refine thnF (T.item (X.blk sc Hc scope env fp) rfl rfl rfl calm i [] se _ He (fun _ _ => False) Ie (fpOk Ie free) te goes) fun r sf ⟨u, hr, hf⟩ => ?_
    subst hr
    refine thnF hf fun _ sg ⟨x, Hg, Ig, rg, yg, tg', freeg⟩ => ?_
    have pinned := Ig.pinned (fpOk Ig freeg) (T.obj _ _ tg')
    refine thnF (g1.run _ sg _ Hg x u _ pinned rg (step x Hg yg)) fun _ sh ⟨σh, Hh, Ih, wh, qh⟩ => ?_
    refine thnF (g2.run _ sh σh Hh _ Ih qh) fun b si ⟨Hi, Ii, qi⟩ => ?_
    have ends : ∀ {s' : Shared} {H' : Hp}, Inv (X.blk sc Hc scope env fp) ([] ++ pinsAt fp sg.heap) σh H' s' → On H' →
        ∃ m, m < n ∧ ∃ i H', Inv (X.blk sc Hc scope env fp) [] (wipe σ (own.map (·.2))) H' s' ∧ tn i s'.heap ∧ (∀ b ∈ fp, H' b = none) ∧ W i m H' := fun {s' H'} I' on => by
      obtain ⟨m', lt, at'⟩ := next H' on
      have kept : ∀ b ∈ fp, ∀ o, sg.heap.get? b = some o → s'.heap.get? b = some o ∧ H' b = none := fun b hb o e => by
        have z := I'.pin (b, o) (List.mem_append_right _ (List.mem_append_right _ (mem_pinsAt hb e)))
        exact ⟨z.1, z.2.1⟩
      have len : (wipe σ (own.map (·.2))).length = σh.length := by
        rw [← wh, wipe_length]
      refine ⟨m', lt, i + 1, H', (I'.unpinned (pins := [])).weak len (fun j y e => ?_), T.keep _ _ _ tg' fun b hb o e => (kept b hb o e).1, fun b hb => ?_, at'⟩
      · rw [← wh] at e
        exact (wipe_some e).1
      · obtain ⟨o, e, _⟩ := T.obj _ _ tg' b hb
        exact (kept b hb o e).2
    cases b with
    | false =>
      simp only [Bool.false_eq_true, if_false] at qi ⊢
      exact ends Ii qi
    | true =>
      simp only [if_true] at qi ⊢
      refine thnF (g3.run _ si σh Hi _ Ii qi) fun _ sj ⟨yk, Hj, Ij, rj, qj⟩ => ?_
      refine thnF (g4.run _ sj σh Hj _ Ij qj) fun _ sk ⟨yv, Hk, Ik, rk, kvs, k, t, ek, et, eDk, few, on⟩ => ?_
      subst ek
      exact dictSet_tup (X := X.blk sc Hc scope env fp) (by show X.A.units < cLine; omega) Ik eDk et few rj rk fun _ Il => ends Il on
end
end L2
namespace L2
open PySem PySem.Spec PyProof.Rows PySem.GX
theorem same_new {H : Hp} {p : Addr} {o : HO} (h : H p = none) : Same H (upd H p o) := fun b u e => by
  rw [upd_ne (ne_of_none e h)]
  exact e
theorem keep1 {H : Hp} {q t : Addr} {o u : HO} (e : H t = some u) (h : H q = none) : upd H q o t = some u := by
  rw [upd_ne (ne_of_none e h)]
  exact e
section
variable {J : It} {n : Nat} {G : Hp → Prop} {Y : Nat → Hp → V → Hp → Prop} {g : TG} {tt : TT} {te : TE} {vs : List Nat} {σ : St} {H1 : Hp} {D : Addr} {Qd : Hp → Prop}
theorem same_del {H H' : Hp} {p : Addr} (s : Same H H') : Same (del H p) (del H' p) := fun b o e => by
  by_cases hb : b = p
  · rw [hb, del_same] at e; cases e
  · rw [del_ne hb] at e ⊢
    exact s b o e
theorem del_upd (H : Hp) (p : Addr) (o : HO) : del (upd H p o) p = del H p := by
  funext b
  by_cases hb : b = p
  · rw [hb, del_same, del_same]
  · rw [del_ne hb, del_ne hb, upd_ne hb]
theorem del_none {H : Hp} {p : Addr} (h : H p = none) : del H p = H := by
  funext b
  by_cases hb : b = p
  · rw [hb, del_same, h]
  · rw [del_ne hb]
/-- what the turn asks of the new list -/
def lcK (I : List V → Hp → Prop) (H1 : Hp) (D : Addr) (Nx : Hp → Prop) (ys : List V) : Option V → Hp → Prop
  | some y, H4 => ∃ acc, H4 D = some (.lst acc) ∧ acc.length < sizeLine ∧ Nx (upd H4 D (.lst (acc ++ [y])))
  | none, H4 => Nx H4
/-- [e for x in .. if t]: I says of the items so far and of the other objects what stays true -/
theorem lcR (w : Walk J n G Y) (I : Nat → List V → Hp → Prop) (st : ∀ i ys H H', Same H H' → I i ys H → I i ys H') (i0 : I 0 [] H1) (hz : n ≤ 16000000) (hD : H1 D = none) (hY : ∀ i H x H', Y i H x H' → Same H H') (hG : ∀ H', Same H1 H' → G H')
    (turn : ∀ (i : Nat) (x : V) (ys : List V) (H' H'' : Hp) (k : Option V → Hp → Prop), i < n → Same H1 H' → H' D = some (.lst ys) → I i ys (del H' D) → Y i H' x H'' → (∀ y H4, Same H'' H4 → I (i + 1) (ys ++ [y]) (del H4 D) → k (some y) H4) →
      (∀ H4, Same H'' H4 → I (i + 1) ys (del H4 D) → k none H4) → g x (wipe σ vs) H'' fun σ2 H2 => wipe σ2 vs = wipe σ vs ∧ tt σ2 H2 fun b H3 => if b = true then te σ2 H3 fun y H4 => k (some y) H4 else k none H3)
    (hd : ∀ ys H', ys.length ≤ n → Same H1 H' → H' D = some (.lst ys) → I n ys (del H' D) → Qd H') :
    ∃ W : Nat → Nat → Hp → Prop, (∃ m, W 0 m (upd H1 D (.lst []))) ∧ ∀ i m H, W i m H →
      (J.stop i H ∧ Qd H) ∨ (J.go i H ∧ ∃ Nx : Hp → Prop, (∀ H', Nx H' → ∃ m', m' < m ∧ W (i + 1) m' H') ∧ ∀ x H', J.yld i H x H' → g x (wipe σ vs) H' fun σ2 H2 => wipe σ2 vs = wipe σ vs ∧ tt σ2 H2 fun b H3 =>
        if b = true then te σ2 H3 fun y H4 => ∃ acc, H4 D = some (.lst acc) ∧ acc.length < sizeLine ∧ Nx (upd H4 D (.lst (acc ++ [y]))) else Nx H3) := by
  refine lc_it w (fun i H' => ∃ ys : List V, ys.length ≤ i ∧ Same H1 H' ∧ H' D = some (.lst ys) ∧ I i ys (del H' D)) ⟨[], Nat.le_refl _, same_new hD, upd_same, by rw [del_upd, del_none hD]; exact i0⟩ (fun i H' _ ⟨_, _, s, _⟩ => hG H' s) (fun i x H' H'' hi h hy => ?_) (fun H' ⟨ys, l, s, e, h⟩ => hd ys H' l s e h)
  obtain ⟨ys, l, s, e, h⟩ := h
  have sy := hY _ _ _ _ hy
  refine turn i x ys H' H'' (lcK (I i) H1 D _ ys) hi s e h hy (fun y H4 s4 h4 => ?_) (fun H4 s4 h4 => ?_)
  · have e4 := s4 _ _ (sy _ _ e)
    refine ⟨_, e4, by rw [sizeLine_eq]; omega, _, ?_, fun b o z => ?_, upd_same, by rw [del_upd]; exact h4⟩
    · rw [List.length_append]; simp; omega
    · rw [upd_ne (ne_of_none z hD)]
      exact s4 _ _ (sy _ _ (s b o z))
  · exact ⟨ys, by omega, (s.trans sy).trans s4, s4 _ _ (sy _ _ e), h4⟩
/-- [e for x in .. if t]: the i-th item is taken (as f i says) or not; what was tracked stays -/
theorem lcS (w : Walk J n G Y) (f : Nat → Option V) (hz : n ≤ 16000000) (hD : H1 D = none) (hY : ∀ i H x H', Y i H x H' → Same H H') (hG : ∀ H', Same H1 H' → G H')
    (turn : ∀ (i : Nat) (x : V) (H' H'' : Hp) (k : Option V → Hp → Prop), i < n → Same H1 H' → Y i H' x H'' → (∀ H4, Same H'' H4 → k (f i) H4) →
      g x (wipe σ vs) H'' fun σ2 H2 => wipe σ2 vs = wipe σ vs ∧ tt σ2 H2 fun b H3 => if b = true then te σ2 H3 fun y H4 => k (some y) H4 else k none H3)
    (hd : ∀ H', Same H1 H' → H' D = some (.lst ((List.range n).filterMap f)) → Qd H') :
    ∃ W : Nat → Nat → Hp → Prop, (∃ m, W 0 m (upd H1 D (.lst []))) ∧ ∀ i m H, W i m H →
      (J.stop i H ∧ Qd H) ∨ (J.go i H ∧ ∃ Nx : Hp → Prop, (∀ H', Nx H' → ∃ m', m' < m ∧ W (i + 1) m' H') ∧ ∀ x H', J.yld i H x H' → g x (wipe σ vs) H' fun σ2 H2 => wipe σ2 vs = wipe σ vs ∧ tt σ2 H2 fun b H3 =>
        if b = true then te σ2 H3 fun y H4 => ∃ acc, H4 D = some (.lst acc) ∧ acc.length < sizeLine ∧ Nx (upd H4 D (.lst (acc ++ [y]))) else Nx H3) := by
  refine lcR w (fun i ys _ => ys = (List.range i).filterMap f) (fun _ _ _ _ _ h => h) rfl hz hD hY hG (fun i x ys H' H'' k hi s e h hy k1 k2 => ?_) (fun ys H' _ s e h => hd H' s (by rw [e, h]))
  refine turn i x H' H'' k hi s hy fun H4 s4 => ?_
  cases ef : f i with
  | some y =>
    refine k1 y H4 s4 ?_
    rw [h, List.range_succ, List.filterMap_append]
    simp [ef]
  | none =>
    refine k2 H4 s4 ?_
    rw [h, List.range_succ, List.filterMap_append]
    simp [ef]
end
section
variable {X : Cx} {o : Expr} {to : TE} {f : Str} {pos : Pos}
/-- the target o.f of an own instance -/
def gFld (K : PySem.W.Frag) (to : TE) (f : Str) : TG := fun v σ H Q => to σ H fun x H1 => ∃ (p C dx : Addr) (fs : List (Str × V)), x = .ref p ∧ H1 p = some (.ins C dx fs) ∧ Cls K C ∧ NoAttr K C f ∧ fs.length < 1000 ∧ Q σ (upd H1 p (.ins C dx (putF f v fs)))
theorem pg_fld (ho : PE X o to) : PG X (.Attribute o f pos) (gFld X.K to f) := by
  refine ⟨fun pl s σ H v u Q I r h => ?_⟩
  rw [arm_assign_Attribute]
  refine wpAny_bind (wpAny_holding (thn (ho.run pl s σ H _ I h) fun ov s1 ⟨x, H1, I1, r1, p, C, dx, fs, ex, ep, c, n, l, q⟩ => ?_))
  subst ex
  obtain rfl : ov = Value.ref p := r1
  refine wpAny_bind (wpAny_standAt (wpAny_bind (wpAny_holding (setattr_ok I1 ep c n l r fun s3 I3 => ?_))))
  exact wpAny_release ⟨σ, _, I3, q⟩
end
end L2
namespace L2
open PySem PySem.Spec PyProof.Rows PySem.GX
theorem range_fm {α β : Type} (g : α → Option β) : ∀ xs : List α, (List.range xs.length).filterMap (fun i => xs[i]?.bind g) = xs.filterMap g := by
  intro xs
  have e : (List.range xs.length).filterMap (fun i => xs[i]?) = xs := by
    induction xs with
    | nil => rfl
    | cons a t ih =>
      rw [List.length_cons, List.range_succ_eq_map, List.filterMap_cons, List.filterMap_map]
      simp only [List.getElem?_cons_zero]
      congr 1
  conv => rhs; rw [← e, List.filterMap_filterMap]
section
variable {α : Type} {J : It} {G : Hp → Prop} {Y : Nat → Hp → V → Hp → Prop} {g : TG} {tt : TT} {te tk tv : TE} {vs : List Nat} {σ : St} {H1 : Hp} {D : Addr} {Qd : Hp → Prop}
/-- [e for x in .. if t] over things that stand for the items of xs -/
theorem lcG (xs : List α) (f : α → Option V) (w : Walk J xs.length G Y) (hz : xs.length ≤ 16000000) (hD : H1 D = none) (hY : ∀ i H x H', Y i H x H' → Same H H') (hG : ∀ H', Same H1 H' → G H')
    (turn : ∀ (i : Nat) (a : α) (x : V) (H' H'' : Hp) (k : Option V → Hp → Prop), xs[i]? = some a → Same H1 H' → Y i H' x H'' → (∀ H4, Same H'' H4 → k (f a) H4) →
      g x (wipe σ vs) H'' fun σ2 H2 => wipe σ2 vs = wipe σ vs ∧ tt σ2 H2 fun b H3 => if b = true then te σ2 H3 fun y H4 => k (some y) H4 else k none H3)
    (hd : ∀ H', Same H1 H' → H' D = some (.lst (xs.filterMap f)) → Qd H') :
    ∃ W : Nat → Nat → Hp → Prop, (∃ m, W 0 m (upd H1 D (.lst []))) ∧ ∀ i m H, W i m H →
      (J.stop i H ∧ Qd H) ∨ (J.go i H ∧ ∃ Nx : Hp → Prop, (∀ H', Nx H' → ∃ m', m' < m ∧ W (i + 1) m' H') ∧ ∀ x H', J.yld i H x H' → g x (wipe σ vs) H' fun σ2 H2 => wipe σ2 vs = wipe σ vs ∧ tt σ2 H2 fun b H3 =>
        if b = true then te σ2 H3 fun y H4 => ∃ acc, H4 D = some (.lst acc) ∧ acc.length < sizeLine ∧ Nx (upd H4 D (.lst (acc ++ [y]))) else Nx H3) := by
  refine lcS w (fun i => xs[i]?.bind f) hz hD hY hG (fun i x H' H'' k hi s hy k1 => ?_) (fun H' s e => hd H' s (by rw [e, range_fm]))
  have ei : xs[i]? = some xs[i] := List.getElem?_eq_getElem hi
  refine turn i xs[i] x H' H'' k ei s hy fun H4 s4 => ?_
  have := k1 H4 s4
  rw [ei] at this
  exact this
/-- the generic walk of a dict comprehension, of either sort -/
theorem dc_it {n : Nat} (w : Walk J n G Y) {nx : Nat → Hp → Prop} {body : Nat → V → Hp → (Hp → Prop) → Prop} (h0 : nx 0 H1) (hG : ∀ i H, i ≤ n → nx i H → G H)
    (hs : ∀ i x H H', i < n → nx i H → Y i H x H' → body i x H' (nx (i + 1))) (hd : ∀ H, nx n H → Qd H) :
    ∃ W : Nat → Nat → Hp → Prop, (∃ m, W 0 m H1) ∧ ∀ i m H, W i m H →
      (J.stop i H ∧ Qd H) ∨ (J.go i H ∧ ∃ Nx : Hp → Prop, (∀ H', Nx H' → ∃ m', m' < m ∧ W (i + 1) m' H') ∧ ∀ x H', J.yld i H x H' → body i x H' Nx) := by
  refine ⟨fun i m H => m = n - i ∧ i ≤ n ∧ nx i H, ⟨n, by simp, Nat.zero_le _, h0⟩, ?_⟩
  rintro i m H ⟨rfl, hi, p⟩
  have q := hG i H hi p
  by_cases hlt : i < n
  · exact .inr ⟨w.goes i H hlt q, nx (i + 1), fun H' p' => ⟨n - (i + 1), by omega, rfl, hlt, p'⟩, fun x H' y => hs i x H H' hlt p (w.yields i H x H' hlt q y)⟩
  · have e : i = n := by omega
    subst e
    exact .inl ⟨w.stops H q, hd H p⟩
end
section
variable {α κ : Type} [DecidableEq κ]
/-- the entries of {key a: val a for a in xs} -/
def dOf (key : α → κ) (val : α → V) (xs : List α) : List (κ × V) := xs.foldl (fun kvs a => putK kvs (key a) (val a)) []
theorem dOf_snoc (key : α → κ) (val : α → V) (xs : List α) (a : α) : dOf key val (xs ++ [a]) = putK (dOf key val xs) (key a) (val a) := by
  unfold dOf
  rw [List.foldl_append]
  rfl
theorem dOf_take {key : α → κ} {val : α → V} {xs : List α} {i : Nat} {a : α} (h : xs[i]? = some a) : dOf key val (xs.take (i + 1)) = putK (dOf key val (xs.take i)) (key a) (val a) := by
  rw [List.take_add_one, h]
  exact dOf_snoc _ _ _ _
theorem dOf_len (key : α → κ) (val : α → V) (xs : List α) : (dOf key val xs).length ≤ xs.length := by
  suffices h : ∀ (ys : List α) (kvs : List (κ × V)), (ys.foldl (fun kvs a => putK kvs (key a) (val a)) kvs).length ≤ kvs.length + ys.length by
    have := h xs []
    simpa [dOf] using this
  intro ys
  induction ys with
  | nil => intro kvs; simp
  | cons a t ih =>
    intro kvs
    have h1 := ih (putK kvs (key a) (val a))
    have h2 := length_putK kvs (key a) (val a)
    rw [List.foldl_cons, List.length_cons]
    omega
theorem dOf_val (key : α → κ) (val : α → V) : ∀ (xs : List α) (k : κ), (valV (dOf key val xs) k).isSome = decide (k ∈ xs.map key) := by
  suffices h : ∀ (n : Nat) (xs : List α) (k : κ), xs.length = n → (valV (dOf key val xs) k).isSome = decide (k ∈ xs.map key) from fun xs k => h _ xs k rfl
  intro n
  induction n with
  | zero =>
    intro xs k h
    have : xs = [] := List.eq_nil_of_length_eq_zero h
    subst this
    rfl
  | succ n ih =>
    intro xs k h
    have hne : xs ≠ [] := by intro z; subst z; cases h
    obtain ⟨ys, a, rfl⟩ : ∃ ys a, xs = ys ++ [a] := ⟨xs.dropLast, xs.getLast hne, (List.dropLast_concat_getLast hne).symm⟩
    have hl : ys.length = n := by rw [List.length_append] at h; simpa using h
    rw [dOf_snoc, valV_put]
    by_cases e : k = key a
    · rw [if_pos e, e]; simp
    · rw [if_neg e, ih ys k hl, List.map_append]
      simp [e]
/-- keys that differ: the entries stand as they come -/
theorem dOf_nodup (key : α → κ) (val : α → V) : ∀ (xs : List α), (xs.map key).Nodup → dOf key val xs = xs.map fun a => (key a, val a) := by
  suffices h : ∀ (n : Nat) (xs : List α), xs.length = n → (xs.map key).Nodup → dOf key val xs = xs.map fun a => (key a, val a) from fun xs => h _ xs rfl
  intro n
  induction n with
  | zero =>
    intro xs h _
    have : xs = [] := List.eq_nil_of_length_eq_zero h
    subst this
    rfl
  | succ n ih =>
    intro xs h nd
    have hne : xs ≠ [] := by intro z; subst z; cases h
    obtain ⟨ys, a, rfl⟩ : ∃ ys a, xs = ys ++ [a] := ⟨xs.dropLast, xs.getLast hne, (List.dropLast_concat_getLast hne).symm⟩
    have hl : ys.length = n := by rw [List.length_append] at h; simpa using h
    rw [List.map_append, List.nodup_append] at nd
    have hn : valV (dOf key val ys) (key a) = none := by
      have := dOf_val key val ys (key a)
      rw [decide_eq_false (fun z => nd.2.2 _ z (key a) (by simp) rfl)] at this
      exact Option.isNone_iff_eq_none.mp (by simpa using this)
    rw [dOf_snoc, putK_new _ hn, ih ys hl nd.1, List.map_append]
    rfl
end
section
variable {α : Type} {J : It} {G : Hp → Prop} {Y : Nat → Hp → V → Hp → Prop} {g : TG} {tt : TT} {tk tv : TE} {vs : List Nat} {σ : St} {H1 : Hp} {D : Addr} {Qd : Hp → Prop}
/-- {k: v for x in ..}, keys ints or texts -/
theorem dcG (xs : List α) (key : α → Key) (val : α → V) (w : Walk J xs.length G Y) (hz : xs.length ≤ 16000000) (hD : H1 D = none) (hY : ∀ i H x H', Y i H x H' → Same H H') (hG : ∀ H', Same H1 H' → G H')
    (turn : ∀ (i : Nat) (a : α) (x : V) (H' H'' : Hp) (k : V → V → Hp → Prop) (k0 : Hp → Prop), xs[i]? = some a → Same H1 H' → Y i H' x H'' → (∀ H4, Same H'' H4 → k (kV (key a)) (val a) H4) →
      g x (wipe σ vs) H'' fun σ2 H2 => wipe σ2 vs = wipe σ vs ∧ tt σ2 H2 fun b H3 => if b = true then tk σ2 H3 fun y H4 => tv σ2 H4 fun z H5 => k y z H5 else k0 H3)
    (hd : ∀ H', Same H1 H' → H' D = some (.dK (dOf key val xs)) → Qd H') :
    ∃ W : Nat → Nat → Hp → Prop, (∃ m, W 0 m (upd H1 D (.dK []))) ∧ ∀ i m H, W i m H →
      (J.stop i H ∧ Qd H) ∨ (J.go i H ∧ ∃ Nx : Hp → Prop, (∀ H', Nx H' → ∃ m', m' < m ∧ W (i + 1) m' H') ∧ ∀ x H', J.yld i H x H' → g x (wipe σ vs) H' fun σ2 H2 => wipe σ2 vs = wipe σ vs ∧ tt σ2 H2 fun b H3 =>
        if b = true then tk σ2 H3 fun y H4 => tv σ2 H4 fun z H5 => ∃ kvs k, y = kV k ∧ H5 D = some (.dK kvs) ∧ kvs.length < sizeLine ∧ Nx (upd H5 D (.dK (putK kvs k z))) else Nx H3) := by
  refine dc_it w (nx := fun i H' => Same H1 H' ∧ H' D = some (.dK (dOf key val (xs.take i)))) (body := fun i x H' Nx => g x (wipe σ vs) H' fun σ2 H2 => wipe σ2 vs = wipe σ vs ∧ tt σ2 H2 fun b H3 =>
        if b = true then tk σ2 H3 fun y H4 => tv σ2 H4 fun z H5 => ∃ kvs k, y = kV k ∧ H5 D = some (.dK kvs) ∧ kvs.length < sizeLine ∧ Nx (upd H5 D (.dK (putK kvs k z))) else Nx H3)
    ⟨same_new hD, upd_same⟩ (fun i H _ h => hG H h.1) (fun i x H H' hi h hy => ?_) (fun H h => hd H h.1 (by rw [h.2, List.take_length]))
  have ei : xs[i]? = some xs[i] := List.getElem?_eq_getElem hi
  have sy := hY _ _ _ _ hy
  refine turn i xs[i] x H H' (fun y z H5 => ∃ kvs k, y = kV k ∧ H5 D = some (.dK kvs) ∧ kvs.length < sizeLine ∧ _) _ ei h.1 hy fun H4 s4 => ⟨_, _, rfl, s4 _ _ (sy _ _ h.2), ?_, fun b o z => ?_, ?_⟩
  · have := dOf_len key val (xs.take i)
    rw [List.length_take] at this
    rw [sizeLine_eq]
    omega
  · rw [upd_ne (ne_of_none z hD)]
    exact s4 _ _ (sy _ _ (h.1 b o z))
  · rw [upd_same, dOf_take ei]
/-- {(..): v for x in ..}, keys tuples -/
theorem dcGT (xs : List α) (key : α → List Key) (val : α → V) (w : Walk J xs.length G Y) (hz : xs.length ≤ 16000000) (hD : H1 D = none) (hY : ∀ i H x H', Y i H x H' → Same H H') (hG : ∀ H', Same H1 H' → G H')
    (turn : ∀ (i : Nat) (a : α) (x : V) (H' H'' : Hp) (k : V → V → Hp → Prop) (k0 : Hp → Prop), xs[i]? = some a → Same H1 H' → Y i H' x H'' → (∀ t H4, Same H'' H4 → H4 t = some (.tup ((key a).map kV)) → k (.ref t) (val a) H4) →
      g x (wipe σ vs) H'' fun σ2 H2 => wipe σ2 vs = wipe σ vs ∧ tt σ2 H2 fun b H3 => if b = true then tk σ2 H3 fun y H4 => tv σ2 H4 fun z H5 => k y z H5 else k0 H3)
    (hd : ∀ H', Same H1 H' → H' D = some (.dT (dOf key val xs)) → Qd H') :
    ∃ W : Nat → Nat → Hp → Prop, (∃ m, W 0 m (upd H1 D (.dT []))) ∧ ∀ i m H, W i m H →
      (J.stop i H ∧ Qd H) ∨ (J.go i H ∧ ∃ Nx : Hp → Prop, (∀ H', Nx H' → ∃ m', m' < m ∧ W (i + 1) m' H') ∧ ∀ x H', J.yld i H x H' → g x (wipe σ vs) H' fun σ2 H2 => wipe σ2 vs = wipe σ vs ∧ tt σ2 H2 fun b H3 =>
        if b = true then tk σ2 H3 fun y H4 => tv σ2 H4 fun z H5 => ∃ kvs k t, y = .ref t ∧ H5 t = some (.tup (k.map kV)) ∧ H5 D = some (.dT kvs) ∧ kvs.length < sizeLine ∧ Nx (upd H5 D (.dT (putK kvs k z))) else Nx H3) := by
  refine dc_it w (nx := fun i H' => Same H1 H' ∧ H' D = some (.dT (dOf key val (xs.take i)))) (body := fun i x H' Nx => g x (wipe σ vs) H' fun σ2 H2 => wipe σ2 vs = wipe σ vs ∧ tt σ2 H2 fun b H3 =>
        if b = true then tk σ2 H3 fun y H4 => tv σ2 H4 fun z H5 => ∃ kvs k t, y = .ref t ∧ H5 t = some (.tup (k.map kV)) ∧ H5 D = some (.dT kvs) ∧ kvs.length < sizeLine ∧ Nx (upd H5 D (.dT (putK kvs k z))) else Nx H3)
    ⟨same_new hD, upd_same⟩ (fun i H _ h => hG H h.1) (fun i x H H' hi h hy => ?_) (fun H h => hd H h.1 (by rw [h.2, List.take_length]))
  have ei : xs[i]? = some xs[i] := List.getElem?_eq_getElem hi
  have sy := hY _ _ _ _ hy
  refine turn i xs[i] x H H' (fun y z H5 => ∃ (kvs : List (List Key × V)) (k : List Key) (t : Addr), y = .ref t ∧ H5 t = some (.tup (k.map kV)) ∧ H5 D = some (.dT kvs) ∧ kvs.length < sizeLine ∧ _) _ ei h.1 hy fun t H4 s4 et => ⟨_, _, t, rfl, et, s4 _ _ (sy _ _ h.2), ?_, fun b o z => ?_, ?_⟩
  · have := dOf_len key val (xs.take i)
    rw [List.length_take] at this
    rw [sizeLine_eq]
    omega
  · rw [upd_ne (ne_of_none z hD)]
    exact s4 _ _ (sy _ _ (h.1 b o z))
  · rw [upd_same, dOf_take ei]
end
/-! lists of texts, lists of lists of texts, as data -/
abbrev dTx (ws : List Str) : PyData := .list (ws.map .str)
abbrev dTab (rs : List (List Str)) : PyData := .list (rs.map dTx)
theorem eqv_strs : ∀ a b : List Str, PyData.eqvAll (a.map .str) (b.map .str) = decide (a = b)
  | [], [] => rfl
  | [], _ :: _ => rfl
  | _ :: _, [] => rfl
  | x :: xs, y :: ys => by
    show (PyData.eqv (.str x) (.str y) && PyData.eqvAll (xs.map .str) (ys.map .str)) = _
    rw [eqv_strs xs ys]
    show ((x == y) && _) = _
    by_cases h : x = y
    · subst h; simp
    · simp [h]
theorem eqv_dTx (a b : List Str) : PyData.eqv (dTx a) (dTx b) = decide (a = b) := eqv_strs a b
theorem eqv_tabs : ∀ a b : List (List Str), PyData.eqvAll (a.map dTx) (b.map dTx) = decide (a = b)
  | [], [] => rfl
  | [], _ :: _ => rfl
  | _ :: _, [] => rfl
  | x :: xs, y :: ys => by
    show (PyData.eqv (dTx x) (dTx y) && PyData.eqvAll (xs.map dTx) (ys.map dTx)) = _
    rw [eqv_tabs xs ys, eqv_dTx]
    by_cases h : x = y
    · subst h; simp
    · simp [h]
theorem eqv_dTab (a b : List (List Str)) : PyData.eqv (dTab a) (dTab b) = decide (a = b) := eqv_tabs a b
theorem lay_strs : ∀ {a : List Str}, (∀ x ∈ a, PyData.strOk x = true) → PyData.canLayAll0 (a.map .str) = true ∧ PyData.depthAll (a.map .str) = 0
  | [], _ => ⟨rfl, rfl⟩
  | x :: xs, h => by
    have ih := lay_strs (a := xs) fun y hy => h y (List.mem_cons_of_mem _ hy)
    refine ⟨?_, ?_⟩
    · show (PyData.strOk x && PyData.canLayAll0 (xs.map .str)) = true
      rw [h x (List.mem_cons_self ..), ih.1]
      rfl
    · show max 0 (PyData.depthAll (xs.map .str)) = 0
      rw [ih.2]
      rfl
theorem shaped_dTx {a : List Str} (h : ∀ x ∈ a, PyData.strOk x = true) : SeqAt.shaped (dTx a) = true := by
  have l := lay_strs h
  have d1 : (dTx a).canLay0 = true := l.1
  have d2 : (dTx a).depth = 1 := by
    show PyData.depthAll _ + 1 = 1
    rw [l.2]
  unfold SeqAt.shaped
  rw [d1, d2]
  rfl
theorem lay_tabs : ∀ {a : List (List Str)}, (∀ r ∈ a, ∀ x ∈ r, PyData.strOk x = true) → PyData.canLayAll0 (a.map dTx) = true ∧ PyData.depthAll (a.map dTx) ≤ 1
  | [], _ => ⟨rfl, Nat.zero_le _⟩
  | r :: rs, h => by
    have ih := lay_tabs (a := rs) fun y hy => h y (List.mem_cons_of_mem _ hy)
    have l := lay_strs (h r (List.mem_cons_self ..))
    refine ⟨?_, ?_⟩
    · show (PyData.canLayAll0 (r.map .str) && PyData.canLayAll0 (rs.map dTx)) = true
      rw [l.1, ih.1]
      rfl
    · show max (PyData.depthAll (r.map .str) + 1) (PyData.depthAll (rs.map dTx)) ≤ 1
      rw [l.2]
      have := ih.2
      omega
theorem shaped_dTab {a : List (List Str)} (h : ∀ r ∈ a, ∀ x ∈ r, PyData.strOk x = true) : SeqAt.shaped (dTab a) = true := by
  have l := lay_tabs h
  have d1 : (dTab a).canLay0 = true := l.1
  have d2 : (dTab a).depth ≤ 2 := by
    show PyData.depthAll _ + 1 ≤ 2
    have := l.2
    omega
  unfold SeqAt.shaped
  rw [d1]
  simp
  omega
theorem dpStrs {K : PySem.W.Frag} {H : Hp} : ∀ ws : List Str, DpAll K H (ws.map V.str) (ws.map PyData.str)
  | [] => .nil
  | x :: xs => .cons (.str x) (dpStrs xs)
theorem dp_dTx {K : PySem.W.Frag} {H : Hp} {p : Addr} {ws : List Str} (h : H p = some (.lst (ws.map V.str))) : Dp K H (.ref p) (dTx ws) := .lst (SqL.of h) (dpStrs ws)
/-- the lists at as hold the rows -/
inductive Rw (H : Hp) : List Addr → List (List Str) → Prop
  | nil : Rw H [] []
  | cons {a : Addr} {r : List Str} {as : List Addr} {rs : List (List Str)} : H a = some (.lst (r.map V.str)) → Rw H as rs → Rw H (a :: as) (r :: rs)
theorem Rw.same {H H' : Hp} (s : Same H H') : ∀ {as : List Addr} {rs : List (List Str)}, Rw H as rs → Rw H' as rs
  | _, _, .nil => .nil
  | _, _, .cons e t => .cons (s _ _ e) (Rw.same s t)
theorem Rw.len {H : Hp} : ∀ {as : List Addr} {rs : List (List Str)}, Rw H as rs → as.length = rs.length
  | _, _, .nil => rfl
  | _, _, .cons _ t => by simp [Rw.len t]
theorem Rw.snoc {H : Hp} {a : Addr} {r : List Str} (e : H a = some (.lst (r.map V.str))) : ∀ {as : List Addr} {rs : List (List Str)}, Rw H as rs → Rw H (as ++ [a]) (rs ++ [r])
  | _, _, .nil => .cons e .nil
  | _, _, .cons e1 t => .cons e1 (Rw.snoc e t)
theorem Rw.get {H : Hp} : ∀ {as : List Addr} {rs : List (List Str)} {i : Nat} {a : Addr} {r : List Str}, Rw H as rs → as[i]? = some a → rs[i]? = some r → H a = some (.lst (r.map V.str))
  | _, _, _, _, _, .nil, e, _ => by simp at e
  | _, _, 0, _, _, .cons e _, e1, e2 => by simp at e1 e2; subst e1; subst e2; exact e
  | _, _, i + 1, a, r, .cons _ t, e1, e2 => Rw.get (i := i) t (by simpa using e1) (by simpa using e2)
theorem Rw.drop {H : Hp} : ∀ {as : List Addr} {rs : List (List Str)} (n : Nat), Rw H as rs → Rw H (as.drop n) (rs.drop n)
  | _, _, 0, t => t
  | _, _, _ + 1, .nil => .nil
  | _, _, n + 1, .cons _ t => Rw.drop n t
theorem Rw.take {H : Hp} : ∀ {as : List Addr} {rs : List (List Str)} (n : Nat), Rw H as rs → Rw H (as.take n) (rs.take n)
  | _, _, 0, _ => .nil
  | _, _, _ + 1, .nil => .nil
  | _, _, n + 1, .cons e t => .cons e (Rw.take n t)
theorem dpTabs {K : PySem.W.Frag} {H : Hp} : ∀ {as : List Addr} {rs : List (List Str)}, Rw H as rs → DpAll K H (as.map V.ref) (rs.map dTx)
  | _, _, .nil => .nil
  | _, _, .cons e t => .cons (dp_dTx e) (dpTabs t)
theorem dp_dTab {K : PySem.W.Frag} {H : Hp} {p : Addr} {as : List Addr} {rs : List (List Str)} (h : H p = some (.lst (as.map V.ref))) (t : Rw H as rs) : Dp K H (.ref p) (dTab rs) := .lst (SqL.of h) (dpTabs t)
end L2
namespace My
open PySem PySem.Spec PyProof.Rows L2
def top (i : Nat) : Stmt := PySem.Challenge.pw_shortlooks_k74_whole_certified_apart_and.main.body.getD i (.Pass ⟨0, 0, 0, 0⟩)
abbrev cInvalidText : Stmt := top 3
abbrev cInvalidRow : Stmt := top 4
abbrev cInvalidMood : Stmt := top 5
abbrev cInvalidSign : Stmt := top 6
abbrev cNotARule : Stmt := top 7
abbrev cTooMany : Stmt := top 10
abbrev sBounds : Stmt := top 16
abbrev sMade : Stmt := top 21
abbrev sRowOf : Stmt := top 22
abbrev sWord : Stmt := top 23
abbrev sSigns : Stmt := top 24
abbrev sMoods : Stmt := top 25
abbrev sGood : Stmt := top 26
abbrev sGoals : Stmt := top 27
abbrev sRead : Stmt := top 28
abbrev sWriteR : Stmt := top 29
abbrev sRule : Stmt := top 31
abbrev sCRule : Stmt := top 32
abbrev sCFit : Stmt := top 33
abbrev sExplored : Stmt := top 35
abbrev sRowBack : Stmt := top 36
abbrev sFirstRow : Stmt := top 37
abbrev sFirstMo : Stmt := top 38
abbrev sPairStep : Stmt := top 39
abbrev sPairTest : Stmt := top 40
abbrev sFirstSh : Stmt := top 41
abbrev sParting : Stmt := top 42
abbrev sWithinR : Stmt := top 43
abbrev sCertA : Stmt := top 45
abbrev sCertW : Stmt := top 46
abbrev sRuleOf : Stmt := top 48
abbrev sTwoR : Stmt := top 49
abbrev sAsSet : Stmt := top 50
abbrev sWalked : Stmt := top 51
abbrev sEndsG : Stmt := top 52
abbrev sIsRow : Stmt := top 53
abbrev sApart : Stmt := top 54
abbrev sRdPairs : Stmt := top 55
abbrev sWithin : Stmt := top 56
abbrev sComing : Stmt := top 57
abbrev sLive : Stmt := top 58
abbrev sRdH : Stmt := top 59
abbrev sLast : Stmt := top 60
abbrev sWindows : Stmt := top 61
abbrev sStay : Stmt := top 62
abbrev sNLast : Stmt := top 63
abbrev sNEnds : Stmt := top 64
abbrev sNWin : Stmt := top 65
abbrev sNSets : Stmt := top 66
abbrev sNever : Stmt := top 68
abbrev sAccepts : Stmt := top 70
abbrev sCell : Stmt := top 72
abbrev sPurse : Stmt := top 73
abbrev sPick : Stmt := top 74
abbrev sLetters : Stmt := top 75
abbrev sAim : Stmt := top 76
abbrev sBox : Stmt := top 77
abbrev sText : Stmt := top 78
abbrev sEnd : Stmt := top 79
abbrev sFine : Stmt := top 80
abbrev sFirst : Stmt := top 81
abbrev sTwins : Stmt := top 82
abbrev sWider : Stmt := top 83
abbrev sMate : Stmt := top 84
abbrev sLIsW : Stmt := top 85
abbrev sLIsA : Stmt := top 86
abbrev sAreTold : Stmt := top 87
abbrev sRight : Stmt := top 88
abbrev sLaw : Stmt := top 89
end My

namespace My
/-! first rows, and how a search in breadth finds them -/
abbrev Row := List Nat
def slt (r r' : Row) : Prop := r.length < r'.length ∨ (r.length = r'.length ∧ r < r')
def sle (r r' : Row) : Prop := r = r' ∨ slt r r'
theorem lt_snoc : ∀ {r r' : Row} {s s' : Nat}, r.length = r'.length → r < r' → r ++ [s] < r' ++ [s']
  | [], [], s, s', _, h => absurd h (List.lt_irrefl _)
  | [], _ :: _, _, _, e, _ => by simp at e
  | _ :: _, [], _, _, e, _ => by simp at e
  | a :: r, b :: r', s, s', e, h => by
    rw [List.cons_append, List.cons_append, List.cons_lt_cons_iff]
    rcases List.cons_lt_cons_iff.mp h with h1 | ⟨e1, h1⟩
    · exact .inl h1
    · exact .inr ⟨e1, lt_snoc (by simpa using e) h1⟩
theorem lt_snoc2 : ∀ {r : Row} {s s' : Nat}, s < s' → r ++ [s] < r ++ [s']
  | [], s, s', h => List.cons_lt_cons_iff.mpr (.inl h)
  | a :: r, s, s', h => by
    rw [List.cons_append, List.cons_append, List.cons_lt_cons_iff]
    exact .inr ⟨rfl, lt_snoc2 h⟩
theorem lt_three : ∀ {r r' : Row}, r.length = r'.length → r < r' ∨ r = r' ∨ r' < r
  | [], [], _ => .inr (.inl rfl)
  | [], _ :: _, e => by simp at e
  | _ :: _, [], e => by simp at e
  | a :: r, b :: r', e => by
    rw [List.cons_lt_cons_iff, List.cons_lt_cons_iff]
    rcases Nat.lt_trichotomy a b with h | rfl | h
    · exact .inl (.inl h)
    · rcases lt_three (r := r) (r' := r') (by simpa using e) with h | rfl | h
      · exact .inl (.inr ⟨rfl, h⟩)
      · exact .inr (.inl rfl)
      · exact .inr (.inr (.inr ⟨rfl, h⟩))
    · exact .inr (.inr (.inl h))
theorem slt_irrefl {r : Row} (h : slt r r) : False := by
  rcases h with h | ⟨_, h⟩
  · exact Nat.lt_irrefl _ h
  · exact List.lt_irrefl _ h
theorem slt_trans {a b c : Row} (h : slt a b) (g : slt b c) : slt a c := by
  rcases h with h | ⟨e, h⟩
  · rcases g with g | ⟨e, g⟩
    · exact .inl (Nat.lt_trans h g)
    · exact .inl (by omega)
  · rcases g with g | ⟨e', g⟩
    · exact .inl (by omega)
    · exact .inr ⟨e.trans e', List.lt_trans h g⟩
theorem slt_three (a b : Row) : slt a b ∨ a = b ∨ slt b a := by
  rcases Nat.lt_trichotomy a.length b.length with h | h | h
  · exact .inl (.inl h)
  · rcases lt_three h with g | g | g
    · exact .inl (.inr ⟨h, g⟩)
    · exact .inr (.inl g)
    · exact .inr (.inr (.inr ⟨h.symm, g⟩))
  · exact .inr (.inr (.inl h))
theorem slt_sle {a b c : Row} (h : slt a b) (g : sle b c) : slt a c := by
  rcases g with rfl | g
  · exact h
  · exact slt_trans h g
theorem sle_slt {a b c : Row} (h : sle a b) (g : slt b c) : slt a c := by
  rcases h with rfl | h
  · exact g
  · exact slt_trans h g
theorem sle_trans {a b c : Row} (h : sle a b) (g : sle b c) : sle a c := by
  rcases h with rfl | h
  · exact g
  · exact .inr (slt_sle h g)
theorem slt_snoc {r r' : Row} {s s' : Nat} (h : slt r r') : slt (r ++ [s]) (r' ++ [s']) := by
  rcases h with h | ⟨e, h⟩
  · exact .inl (by rw [List.length_append, List.length_append]; simpa using h)
  · exact .inr ⟨by rw [List.length_append, List.length_append, e]; rfl, lt_snoc e h⟩
theorem sle_snoc {r r' : Row} {s : Nat} (h : sle r r') : sle (r ++ [s]) (r' ++ [s]) := by
  rcases h with rfl | h
  · exact .inl rfl
  · exact .inr (slt_snoc h)
theorem slt_snoc2 {r : Row} {s s' : Nat} (h : s < s') : slt (r ++ [s]) (r ++ [s']) := .inr ⟨by simp, lt_snoc2 h⟩
theorem slt_more {r : Row} {s : Nat} : slt r (r ++ [s]) := .inl (by simp)
theorem slt_nil {r : Row} {s : Nat} : slt [] (r ++ [s]) := .inl (by simp)
theorem slt_low {a b : Row} (h : ¬ sle a b) : slt b a := by
  rcases slt_three a b with g | g | g
  · exact absurd (.inr g) h
  · exact absurd (.inl g) h
  · exact g
structure First (sg : Row) (W : Row → Prop) (r : Row) : Prop where
  inn : ∀ c ∈ r, c ∈ sg
  is : W r
  least : ∀ r', (∀ c ∈ r', c ∈ sg) → W r' → sle r r'
theorem First.uniq {sg : Row} {W : Row → Prop} {r r' : Row} (h : First sg W r) (g : First sg W r') : r = r' := by
  rcases h.least r' g.inn g.is with e | e
  · exact e
  · rcases g.least r h.inn h.is with e' | e'
    · exact e'.symm
    · exact (slt_irrefl (slt_trans e e')).elim
/-- the first row, or none -/
def IsFirst (sg : Row) (W : Row → Prop) : Option Row → Prop
  | some r => First sg W r
  | none => ∀ r, (∀ c ∈ r, c ∈ sg) → ¬ W r
theorem IsFirst.uniq {sg : Row} {W : Row → Prop} : ∀ {o o' : Option Row}, IsFirst sg W o → IsFirst sg W o' → o = o'
  | some r, some r', h, g => by rw [First.uniq h g]
  | some r, none, h, g => (g r h.inn h.is).elim
  | none, some r, h, g => (h r g.inn g.is).elim
  | none, none, _, _ => rfl
theorem IsFirst.imp {sg : Row} {W W' : Row → Prop} {o : Option Row} (e : ∀ r, (∀ c ∈ r, c ∈ sg) → (W r ↔ W' r)) (h : IsFirst sg W o) : IsFirst sg W' o := by
  cases o with
  | some r => exact ⟨h.inn, (e r h.inn).mp h.is, fun r' i w => h.least r' i ((e r' i).mpr w)⟩
  | none => exact fun r i w => h r i ((e r i).mpr w)
section
variable {α : Type} {sg : Row} {step : α → Nat → α} {a0 : α} {L : List (α × Row)} {n : Nat} {dn : Row} {y : α × Row} {s : Nat}
def runL (step : α → Nat → α) (a : α) (r : Row) : α := r.foldl step a
theorem run_snoc (a : α) (r : Row) : runL step a (r ++ [s]) = step (runL step a r) s := by
  unfold runL
  rw [List.foldl_append]
  rfl
structure Bfs (sg : Row) (step : α → Nat → α) (a0 : α) (L : List (α × Row)) (n : Nat) (dn : Row) : Prop where
  h0 : L[0]? = some (a0, [])
  ok : ∀ x ∈ L, x.1 = runL step a0 x.2 ∧ ∀ c ∈ x.2, c ∈ sg
  inc : ∀ (i j : Nat) (x y : α × Row), L[i]? = some x → L[j]? = some y → i < j → slt x.2 y.2
  src : ∀ x ∈ L, x.2 = [] ∨ ∃ (i : Nat) (y : α × Row) (s : Nat), L[i]? = some y ∧ x.2 = y.2 ++ [s] ∧ (i < n ∨ (i = n ∧ s ∈ dn))
  cl : ∀ (i : Nat) (y : α × Row) (s : Nat), L[i]? = some y → s ∈ sg → (i < n ∨ (i = n ∧ s ∈ dn)) → ∃ z ∈ L, z.1 = step y.1 s ∧ sle z.2 (y.2 ++ [s])
theorem bfs_start : Bfs sg step a0 [(a0, [])] 0 [] := by
  refine ⟨rfl, fun x hx => ?_, fun i j x y hi hj h => ?_, fun x hx => ?_, fun i y s _ _ h => ?_⟩
  · rw [List.mem_singleton.mp hx]
    exact ⟨rfl, fun c hc => by cases hc⟩
  · have := (List.getElem?_eq_some_iff.mp hj).1
    simp at this
    omega
  · rw [List.mem_singleton.mp hx]
    exact .inl rfl
  · rcases h with h | ⟨_, h⟩
    · exact absurd h (Nat.not_lt_zero _)
    · cases h
theorem Bfs.below (h : Bfs sg step a0 L n dn) (e : L[n]? = some y) (hs : ∀ c ∈ dn, c < s) : ∀ z ∈ L, slt z.2 (y.2 ++ [s]) := fun z hz => by
  rcases h.src z hz with q | ⟨i, x, c, ei, ex, hi⟩
  · rw [q]
    exact slt_nil
  · rw [ex]
    rcases hi with hi | ⟨rfl, hc⟩
    · exact slt_snoc (h.inc i n x y ei e hi)
    · have : x = y := Option.some.inj (ei.symm.trans e)
      subst this
      exact slt_snoc2 (hs c hc)
theorem Bfs.old (h : Bfs sg step a0 L n dn) (e : L[n]? = some y) (hs : ∀ c ∈ dn, c < s) {z : α × Row} (hz : z ∈ L) (ez : z.1 = step y.1 s) : Bfs sg step a0 L n (dn ++ [s]) := by
  refine ⟨h.h0, h.ok, h.inc, fun x hx => ?_, fun i x c ei hc hi => ?_⟩
  · rcases h.src x hx with q | ⟨i, x', c, ei, ex, hi⟩
    · exact .inl q
    · exact .inr ⟨i, x', c, ei, ex, hi.imp id fun q => ⟨q.1, List.mem_append_left _ q.2⟩⟩
  · rcases hi with hi | ⟨rfl, hm⟩
    · exact h.cl i x c ei hc (.inl hi)
    · rcases List.mem_append.mp hm with hm | hm
      · exact h.cl i x c ei hc (.inr ⟨rfl, hm⟩)
      · rw [List.mem_singleton] at hm
        subst hm
        have : x = y := Option.some.inj (ei.symm.trans e)
        subst this
        exact ⟨z, hz, ez, .inr (h.below e hs z hz)⟩
theorem Bfs.new (h : Bfs sg step a0 L n dn) (e : L[n]? = some y) (hs : ∀ c ∈ dn, c < s) (hc : s ∈ sg) : Bfs sg step a0 (L ++ [(step y.1 s, y.2 ++ [s])]) n (dn ++ [s]) := by
  have lt : n < L.length := (List.getElem?_eq_some_iff.mp e).1
  have lift : ∀ {i : Nat} {x : α × Row}, L[i]? = some x → (L ++ [(step y.1 s, y.2 ++ [s])])[i]? = some x := fun {i x} ei => by
    rw [List.getElem?_append_left (List.getElem?_eq_some_iff.mp ei).1]
    exact ei
  have back : ∀ {i : Nat} {x : α × Row}, (L ++ [(step y.1 s, y.2 ++ [s])])[i]? = some x → (L[i]? = some x) ∨ (i = L.length ∧ x = (step y.1 s, y.2 ++ [s])) := fun {i x} ei => by
    rw [List.getElem?_append] at ei
    split at ei
    · exact .inl ei
    · rename_i hi
      cases hz : i - L.length with
      | zero => rw [hz] at ei; exact .inr ⟨by omega, (Option.some.inj ei).symm⟩
      | succ m => rw [hz] at ei; cases ei
  have ym : y ∈ L := List.mem_of_getElem? e
  refine ⟨lift h.h0, fun x hx => ?_, fun i j x z ei ej hij => ?_, fun x hx => ?_, fun i x c ei hcs hi => ?_⟩
  · rcases List.mem_append.mp hx with hx | hx
    · exact h.ok x hx
    · rw [List.mem_singleton.mp hx]
      refine ⟨?_, fun c hc' => ?_⟩
      · rw [run_snoc, ← (h.ok y ym).1]
      · rcases List.mem_append.mp hc' with m | m
        · exact (h.ok y ym).2 c m
        · rw [List.mem_singleton.mp m]; exact hc
  · rcases back ei with ei | ⟨e1, rfl⟩
    · rcases back ej with ej | ⟨e2, rfl⟩
      · exact h.inc i j x z ei ej hij
      · exact h.below e hs x (List.mem_of_getElem? ei)
    · rcases back ej with ej | ⟨e2, rfl⟩
      · have := (List.getElem?_eq_some_iff.mp ej).1
        omega
      · omega
  · rcases List.mem_append.mp hx with hx | hx
    · rcases h.src x hx with q | ⟨i, x', c, ei, ex, hi⟩
      · exact .inl q
      · exact .inr ⟨i, x', c, lift ei, ex, hi.imp id fun q => ⟨q.1, List.mem_append_left _ q.2⟩⟩
    · rw [List.mem_singleton.mp hx]
      exact .inr ⟨n, y, s, lift e, rfl, .inr ⟨rfl, by simp⟩⟩
  · have il : i < L.length := by
      rcases hi with hi | hi
      · omega
      · omega
    have ei2 : L[i]? = some x := by
      rw [List.getElem?_append_left il] at ei
      exact ei
    have more : (∃ z ∈ L, z.1 = step x.1 c ∧ sle z.2 (x.2 ++ [c])) → ∃ z ∈ L ++ [(step y.1 s, y.2 ++ [s])], z.1 = step x.1 c ∧ sle z.2 (x.2 ++ [c]) := fun ⟨z, hz, q⟩ => ⟨z, List.mem_append_left _ hz, q⟩
    rcases hi with hi | ⟨rfl, hm⟩
    · exact more (h.cl i x c ei2 hcs (.inl hi))
    · rcases List.mem_append.mp hm with hm | hm
      · exact more (h.cl i x c ei2 hcs (.inr ⟨rfl, hm⟩))
      · rw [List.mem_singleton] at hm
        subst hm
        have : x = y := Option.some.inj (ei2.symm.trans e)
        subst this
        exact ⟨_, List.mem_append_right _ (List.mem_singleton.mpr rfl), rfl, .inl rfl⟩
theorem Bfs.next (h : Bfs sg step a0 L n dn) (hd : ∀ c ∈ sg, c ∈ dn) : Bfs sg step a0 L (n + 1) [] := by
  refine ⟨h.h0, h.ok, h.inc, fun x hx => ?_, fun i y s ei hs hi => ?_⟩
  · rcases h.src x hx with q | ⟨i, x', c, ei, ex, hi⟩
    · exact .inl q
    · refine .inr ⟨i, x', c, ei, ex, .inl ?_⟩
      rcases hi with hi | hi <;> omega
  · refine h.cl i y s ei hs ?_
    rcases hi with hi | ⟨_, hi⟩
    · by_cases e : i = n
      · exact .inr ⟨e, hd s hs⟩
      · exact .inl (by omega)
    · cases hi
theorem snoc_ind {P : Row → Prop} (h0 : P []) (hs : ∀ r s, P r → P (r ++ [s])) : ∀ r, P r := fun r => by
  have : ∀ k (r : Row), r.length = k → P r := by
    intro k
    induction k with
    | zero => intro r e; rw [List.length_eq_zero_iff.mp e]; exact h0
    | succ k ih =>
      intro r e
      have ne : r ≠ [] := fun z => by rw [z] at e; cases e
      rw [← List.dropLast_concat_getLast ne]
      exact hs _ _ (ih _ (by rw [List.length_dropLast]; omega))
  exact this _ r rfl
theorem Bfs.found (h : Bfs sg step a0 L n []) (e : L[n]? = some y) {W : α → Prop} (hw : W y.1) (no : ∀ i x, i < n → L[i]? = some x → ¬ W x.1) : First sg (fun r => W (runL step a0 r)) y.2 := by
  have ym := List.mem_of_getElem? e
  refine ⟨(h.ok y ym).2, by rw [← (h.ok y ym).1]; exact hw, fun r' hr hw' => ?_⟩
  refine Classical.byContradiction fun z => ?_
  have low := slt_low z
  have key : ∀ r : Row, (∀ c ∈ r, c ∈ sg) → slt r y.2 → ∃ (j : Nat) (x : α × Row), j < n ∧ L[j]? = some x ∧ x.1 = runL step a0 r ∧ sle x.2 r := by
    refine snoc_ind (fun _ hl => ?_) fun r s ih hr hl => ?_
    · refine ⟨0, _, ?_, h.h0, rfl, .inl rfl⟩
      cases n with
      | zero =>
        have : y = (a0, []) := Option.some.inj (e.symm.trans h.h0)
        rw [this] at hl
        exact (slt_irrefl hl).elim
      | succ n => exact Nat.succ_pos _
    · obtain ⟨i, x, hi, ei, ex, lx⟩ := ih (fun c hc => hr c (List.mem_append_left _ hc)) (slt_trans slt_more hl)
      obtain ⟨z, hz, ez, lz⟩ := h.cl i x s ei (hr s (by simp)) (.inl hi)
      obtain ⟨j, ej⟩ := List.mem_iff_getElem?.mp hz
      have lz2 : sle z.2 (r ++ [s]) := sle_trans lz (sle_snoc lx)
      have lzy := sle_slt lz2 hl
      refine ⟨j, z, Classical.byContradiction fun q => ?_, ej, ?_, lz2⟩
      · rcases Nat.lt_or_eq_of_le (Nat.le_of_not_lt q) with q | q
        · exact slt_irrefl (slt_trans lzy (h.inc n j y z e ej q))
        · subst q
          have : z = y := Option.some.inj (ej.symm.trans e)
          rw [this] at lzy
          exact slt_irrefl lzy
      · rw [run_snoc, ← ex]
        exact ez
  obtain ⟨j, x, hj, ej, ex, _⟩ := key r' hr low
  exact no j x hj ej (by rw [ex]; exact hw')
theorem Bfs.all (h : Bfs sg step a0 L n []) (e : L.length ≤ n) : ∀ r : Row, (∀ c ∈ r, c ∈ sg) → ∃ x ∈ L, x.1 = runL step a0 r ∧ sle x.2 r := by
  refine snoc_ind (fun _ => ⟨_, List.mem_of_getElem? h.h0, rfl, .inl rfl⟩) fun r s ih hr => ?_
  obtain ⟨x, hx, ex, lx⟩ := ih fun c hc => hr c (List.mem_append_left _ hc)
  obtain ⟨i, ei⟩ := List.mem_iff_getElem?.mp hx
  have := (List.getElem?_eq_some_iff.mp ei).1
  obtain ⟨z, hz, ez, lz⟩ := h.cl i x s ei (hr s (by simp)) (.inl (by omega))
  exact ⟨z, hz, by rw [run_snoc, ← ex]; exact ez, sle_trans lz (sle_snoc lx)⟩
theorem Bfs.none (h : Bfs sg step a0 L n []) (e : L.length ≤ n) {W : α → Prop} (no : ∀ x ∈ L, ¬ W x.1) : ∀ r : Row, (∀ c ∈ r, c ∈ sg) → ¬ W (runL step a0 r) := fun r hr hw => by
  obtain ⟨x, hx, ex, _⟩ := h.all e r hr
  exact no x hx (by rw [ex]; exact hw)
end
end My
namespace L2
open PySem PySem.Spec PyProof.Rows PySem.GX PySem.W
/-- a, b, *c, d = a tuple -/
def gStar (K : PySem.W.Frag) (n i : Nat) (t : TGs) : TG := fun v σ H Q => ∃ a xs, v = .ref a ∧ SqT K H a xs ∧ i < n ∧ n ≤ xs.length + 1 ∧ xs.length ≤ 16384 ∧
  ∀ D, H D = none → t (xs.take i ++ [.ref D] ++ (xs.drop i).drop (xs.length + 1 - n)) σ (upd H D (.lst ((xs.drop i).take (xs.length + 1 - n)))) Q
theorem vals_take {vs : List V} {us : List Value} (r : Vals vs us) : ∀ n, Vals (vs.take n) (us.take n) := by
  induction r with
  | nil => intro n; cases n <;> exact .nil
  | cons a t ih =>
    intro n
    cases n with
    | zero => exact .nil
    | succ n => exact .cons a (ih n)
theorem vals_drop {vs : List V} {us : List Value} (r : Vals vs us) : ∀ n, Vals (vs.drop n) (us.drop n) := by
  induction r with
  | nil => intro n; cases n <;> exact .nil
  | cons a t ih =>
    intro n
    cases n with
    | zero => exact .cons a t
    | succ n => exact ih n
theorem pg_star {X : Cx} {es : List Expr} {k : Nat} {t : TGs} {n i : Nat} {pos : Pos} (hc : X.calm = true) (h : PGs X es t)
    (hn : (assignEach es X.env).length = n := by rfl) (hst : (assignEach es X.env).findIdx? (·.1) = some i := by rfl) : PG X (.Tuple es k pos) (gStar X.K n i t) := by
  refine ⟨fun pins s σ H v u Q I r hw => ?_⟩
  obtain ⟨a, xs, e1, hq, hi, hle, hz, hw⟩ := hw
  subst e1
  cases r
  obtain ⟨its, rv, hl, _⟩ := I.tuple hq
  have hh := I.ok.hd hc
  have hs : xs.length = its.length := rv.length
  generalize hit : its.toArray = items at hl
  have hsz : items.size = its.length := by rw [← hit]; simp
  have htl : items.toList = its := by rw [← hit]
  rw [assign_Tuple]
  refine wpAny_bind (wpAny_standAt ?_)
  unfold unpack
  rw [hn, hst]
  refine wpAny_bind (wpAny_holding ?_)
  have hlt : a ≠ s.heap.objs.size := by obtain ⟨o, ho, _⟩ := hl; exact Nat.ne_of_lt (Heap.lt_size ho)
  unfold unpackItems
  refine wpAny_bind ?_
  unfold notIterableAtAll
  refine wpAny_bind (wpAny_specialOf hl.typeIs slot_tuple_iter.lookup ?_)
  refine wpAny_pure ?_
  simp only [Bool.false_eq_true, if_false]
  refine wpAny_bind (wpAny_holding (iter_tuple hl ?_))
  refine wpAny_bind (wpAny_holding (draw_tuple hlt i 0 _ _ ⟨_, Heap.get?_push_size _ rfl, rfl, rfl⟩ (hl.push _) (by omega) fun h₁ hit₁ hs₁ => ?_))
  have hl₁ : IsTup h₁ a items := (hl.push _).extBut hs₁.extBut hlt
  rw [Nat.zero_add] at hit₁
  have hit₁' := hit₁
  obtain ⟨oi, hoi, _⟩ := hit₁'
  have hl₁' := hl₁
  obtain ⟨ol, hol, _⟩ := hl₁'
  rw [List.drop_zero]
  have hfl : (items.toList.take i).length = i := by rw [List.length_take, Array.length_toList]; omega
  rw [if_neg (show ¬ ((items.toList.take i).length < i) by rw [hfl]; omega)]
  refine wpAny_bind (wpAny_holding (kun_collect (s := { s with heap := h₁ }) (T := "tuple_iterator") (.inr (.inr (.inr rfl))) (Walks.tuple (A := X.A.in1) hh s.heap.objs.size a hlt items) (fun j u st => st.1.typeIs) (k := i) (by omega) ⟨hit₁, hl₁⟩ (Heap.lt_size hoi) (Heap.lt_size hol) (fun h₂ tk hk => ?_) (by rw [sizeLine_eq]; omega)))
  have hrl : (items.toList.drop i).length = items.size - i := by rw [List.length_drop, Array.length_toList]
  have hmid : (items.toList.drop i).length - (n - 1 - i) = items.size + 1 - n := by rw [hrl]; omega
  show wpAny _ _ (if (items.toList.drop i).length < n - 1 - i then _ else _) _ _ _
  rw [if_neg (by rw [hrl]; omega)]
  show wpAny _ _ (newList ((items.toList.drop i).take ((items.toList.drop i).length - (n - 1 - i))) >>= fun d => pure (items.toList.take i ++ [d] ++ (items.toList.drop i).drop ((items.toList.drop i).length - (n - 1 - i)))) _ _ _
  rw [hmid, htl, hsz, ← hs]
  have he : ∀ b o, s.heap.get? b = some o → h₂.get? b = some o := fun b o e => by
    have hb : b ≠ s.heap.objs.size := Nat.ne_of_lt (Heap.lt_size e)
    exact hk b o hb (hs₁.extBut b o hb (Heap.get?_push_of_some _ e))
  have I1 : Inv X pins σ H { s with heap := h₂, toks := tk } := I.kept (t' := tk) he
  have hf : H h₂.objs.size = none := I1.hok.fresh (Nat.le_refl _)
  have hlen : ((its.drop i).take (xs.length + 1 - n)).length ≤ sizeLine := by rw [List.length_take, List.length_drop, sizeLine_eq]; omega
  refine wpAny_bind (wpAny_newObj_type (wpAny_pure ?_) ?_)
  · have I2 := I1.laid (a := h₂.objs.size) (o := .lst ((xs.drop i).take (xs.length + 1 - n))) (t' := tk) (h' := h₂.push { cls := .type "list", data := .seq ((its.drop i).take (xs.length + 1 - n)).toArray 0 }) (fun b u e => Heap.get?_push_of_some _ e) (Nat.le_refl _) ⟨by rw [List.length_take, List.length_drop, sizeLine_eq]; omega, _, 0, vals_take (vals_drop rv i) _, Heap.get?_push_size _ rfl⟩
    exact h.run pins _ σ _ _ _ Q I2 (((vals_take rv i).append (.cons (show RelV (.ref h₂.objs.size) (Value.ref h₂.objs.size) from rfl) .nil)).append (vals_drop (vals_drop rv i) _)) (hw _ hf)
  · size_fits
theorem pgs_star {X : Cx} {e : Expr} {p : Pos} {es : List Expr} {t : TG} {u : TGs} (h1 : PG X e t) (h2 : PGs X es u)
    (hs : (assignEach (.Starred e p :: es) X.env).map (·.2) = assign e X.env :: (assignEach es X.env).map (·.2) := by rfl) : PGs X (.Starred e p :: es) (gCons t u) := by
  refine ⟨fun pins s σ H vs us Q I r h => ?_⟩
  obtain ⟨v, vr, e1, h⟩ := h
  subst e1
  cases r with
  | cons r rr =>
    rw [hs]
    refine assignInOrder_cons (thn (h1.run pins s σ H _ _ _ I r h) fun _ s1 ⟨σ1, H1, I1, q1⟩ => ?_)
    exact h2.run pins s1 σ1 H1 _ _ Q I1 rr q1
/-- text * a number -/
theorem mul_len {x : Str} {n : Nat} : (Txt.mul x (n : Int)).length = x.length * n := by
  unfold Txt.mul
  by_cases h1 : (n : Int) < 1
  · have : n = 0 := by omega
    subst this
    rw [if_pos h1]
    rfl
  · rw [if_neg h1]
    by_cases h2 : ((n : Int) == 1 || x.length == 0) = true
    · rw [if_pos h2]
      rcases Bool.or_eq_true_iff.mp h2 with e | e
      · have : n = 1 := by have := beq_iff_eq.mp e; omega
        subst this
        rw [Nat.mul_one]
      · have : x.length = 0 := by simpa using e
        rw [this, Nat.zero_mul]
    · rw [if_neg h2]
      have go : ∀ (m : Nat) (acc : Array Nat), ((List.replicate m x.cps).foldl (· ++ ·) acc).size = acc.size + x.length * m := by
        intro m
        induction m with
        | zero => intro acc; simp
        | succ m ih =>
          intro acc
          rw [List.replicate_succ, List.foldl_cons, ih, Array.size_append, Nat.mul_succ]
          show acc.size + x.length + _ = _
          omega
      show ((List.replicate (n : Int).toNat x.cps).foldl (· ++ ·) #[]).size = _
      rw [go]
      simp
def rMulX : V → V → Hp → VK → Prop := fun x y H Q => ∃ (z : Str) (n : Nat), x = .str z ∧ y = .int (n : Int) ∧ n ≤ 1000 ∧ z.length ≤ 10000 ∧ ∀ r : Str, r = Txt.mul z (n : Int) → r.length = z.length * n → Q (.str r) H
theorem op_mulX {X : Cx} : OpR X (binaryOp .Mult) rMulX := by
  intro pins s σ H x y v u Q I rx ry ⟨z, n, ex, ey, hn, hz, q⟩
  subst ex ey
  obtain ⟨t, rfl⟩ := rx
  obtain ⟨t', rfl⟩ := ry
  have hm : z.length * n ≤ 10000 * 1000 := Nat.mul_le_mul hz hn
  refine SB.mul ⟨?_, fun h _ => ?_, fun _ _ => ?_⟩ fun t' k => ⟨.str (Txt.mul z (n : Int)), H, I.tok _, ⟨t', rfl⟩, q _ rfl mul_len⟩
  · rw [decide_eq_false (by omega), decide_eq_false (by omega)]
    rfl
  · have h1 : 1 ≤ (n : Int) := by omega
    have e : (1000000 : Int) ≤ (2 ^ 63 - 1) / (n : Int) := by
      apply Int.le_ediv_of_mul_le (by omega)
      have : (n : Int) ≤ 1000 := by omega
      omega
    omega
  · show decide (_ > sizeLine) = false
    rw [sizeLine_eq]
    apply decide_eq_false
    show ¬ z.length * (n : Int).toNat > 16777216
    rw [Int.toNat_natCast]
    omega
end L2
/-! sep.join(reversed(list of texts)) -/
namespace PySem
open Builtin Builtin.Str Builtin.Int PyProof.Rows
namespace SC
section
variable {prog : Program} {w : World} {A : Around} {E : Value → Shared → Prop} {s : Shared} {x : Str} {t : Tok} {Q : Value → Shared → Prop}
theorem join_rev {it l : Addr} {items : Array Value} {ys : List Str} (hh : A.handled = none) (hit : s.heap.IsRevIter it l ((items.size : Int) - 1)) (hl : s.heap.IsList l items) (hne : l ≠ it) (hn : items.size ≤ sizeLine)
    (hP : ∀ acc : Array Value, ItemsOf (fun i v => items[items.size - 1 - i]? = some v) acc items.size → StrsAre acc.toList ys) (hok : (ys.map (·.length)).sum + ys.length * x.length ≤ 16777216)
    (hq : ∀ (h' : Heap) (t' : Tok) (k : Nat), (∀ b o, b ≠ it → s.heap.get? b = some o → h'.get? b = some o) → Q (.str (Txt.join x ys) t') { s with heap := h', toks := k }) :
    wpAny (model prog w) A (call (.builtin "str.join") [.str x t, .ref it]) Q E s := by
  refine wpAny_call (codeAny_call_builtin F.slot_str_join.plain F.entry_str_join (F.slot_str_join.check _ _ _ _ _ _ _ _ (typeIs_str _ _ _) (F.args_str_join_2 _ _) ?_))
  rw [join_tree_other]
  refine wpAny_bind (wpAny_typeOf hit.typeIs ?_)
  show wpAny _ A.in1 ((pyIter (.ref it)).tryCatch _ >>= fun it => collect it >>= fun items => joinTail x items) _ _ s
  refine wpAny_bind (wpAny_tryCatch (wpAny_pyIter_revIter hit ?_))
  refine wpAny_bind (RT.collect_rev (A := A.in1) hh hit hl hne hn fun h' tk acc hk hacc => ?_)
  obtain ⟨ls, hl', ht⟩ := strsAre_values (hP acc hacc)
  subst ht
  rw [hl']
  have hok' := PyProof.Rows.joinOk_of hok
  unfold JoinOk at hok'
  rw [Bool.not_eq_true'] at hok'
  have g : Gives (joinTail x (strValues ls)) (joinMade x ls) := by
    have g0 := gives_joinTail x ls hok'
    cases ls with
    | nil => exact g0
    | cons p r => cases r with
      | nil => exact g0
      | cons q r' => exact g0
  exact g prog w A (wants Q E) _ (post_join ls ⟨joinFit_length hok', fun t' k => hq h' t' k hk⟩)
end
end SC
end PySem
namespace L2
open PySem PySem.Spec PyProof.Rows
/-- to.join(reversed(te)), a list of texts -/
def tJoinRev (K : PySem.W.Frag) (to te : TE) : TE := fun σ H Q => to σ H fun x H1 => (∃ a, x = .str a) ∧ te σ H1 fun v H2 => ∃ (a : Str) (q : Addr) (ys : List Str),
  x = .str a ∧ v = .ref q ∧ SqL K H2 q (ys.map V.str) ∧ (ys.map (·.length)).sum + ys.length * a.length ≤ 16777216 ∧ Q (.str (Txt.join a ys.reverse)) H2
theorem vals_strR : ∀ {ys : List Str} {us : List Value}, Vals (ys.map V.str) us → StrsAre us ys
  | [], us, h => by cases h; exact .nil
  | y :: ys, us, h => by
    rw [List.map_cons] at h
    cases h with
    | cons h t =>
      obtain ⟨t', rfl⟩ := h
      exact .cons _ _ (vals_strR t)
section
variable {X : Cx}
theorem pe_joinRev {o e : Expr} {to te : TE} {p2 apos pos pos2 : Pos} (hc : X.calm = true) (ho : PE X o to) (hg2 : Gl X "reversed") (hm2 : X.mg "reversed" = none) (he : PE X e te)
    (hs1 : starEach [.Call (.Name "reversed" p2) [e] [] pos2] X.env = [(false, eval (.Call (.Name "reversed" p2) [e] [] pos2) X.env)] := by rfl)
    (hs : starEach [e] X.env = (false, eval e X.env) :: starEach [] X.env := by rfl)
    (hbase : attributeBase o "join" X.env (eval o X.env) = eval o X.env := by rfl) (hline : (apos.endLine == pos.line) = true := by rfl) :
    PE X (.Call (.Attribute o "join" apos) [.Call (.Name "reversed" p2) [e] [] pos2] [] pos) (tJoinRev X.K to te) := by
  refine ⟨fun pins s σ H Q I h => ?_⟩
  refine PySem.Call_method1 hbase hs1 hline (thn (ho.run pins s σ H _ I h) fun v s1 ⟨x, H1, I1, r1, q1⟩ => ?_)
  obtain ⟨⟨a, rfl⟩, q1⟩ := q1
  obtain ⟨t, rfl⟩ := _root_.id r1
  refine ⟨"str", _, F.plainAttrs_str, F.slot_str_join, F.type_str_join, typeIs_str _ _ _, (fun _ e => nomatch e), Calls.callWith_builtin rfl (Calls.evalArgs_plain (Calls.spliced_cons ?_))⟩
  refine Call_ (ld_blt I1 hg2 hm2 PyProof.Rows.boot_reversed (PyProof.Rows.callWith_type1 (args_cons (thn (he.run pins s1 σ H1 _ I1 q1) fun u s2 ⟨v, H2, I2, r2, q2⟩ => args_nil ?_) hs) hs rfl))
  obtain ⟨a', q, ys, ea, ev, hq, hz, q3⟩ := q2
  cases ea
  subst ev
  obtain rfl : u = Value.ref q := r2
  obtain ⟨its, rv, pl, hsz⟩ := I2.list hq
  refine call_reversed_list pl.isList ?_
  have k0 : ∀ b o, s2.heap.get? b = some o → (s2.heap.push (revObj q ((its.toArray.size : Int) - 1))).get? b = some o := fun b o e => Heap.get?_push_of_some _ e
  have I3 : Inv X pins σ H2 { s2 with heap := s2.heap.push (revObj q ((its.toArray.size : Int) - 1)) } := I2.kept (t' := s2.toks) k0
  obtain ⟨f0, f1, f2, f3, f4, f5⟩ := I2.fpOk (H' := H2) (b := s2.heap.objs.size) (Nat.le_refl _) (I2.hok.fresh (Nat.le_refl _))
  have hl := pl.isList
  obtain ⟨ol, hol, _⟩ := _root_.id hl
  have hne : q ≠ s2.heap.objs.size := Nat.ne_of_lt (Heap.lt_size hol)
  have hn : its.toArray.size ≤ sizeLine := by rw [List.size_toArray, ← rv.length]; exact hsz
  refine Calls.spliced_nil ?_
  refine PySem.SC.join_rev (s := { s2 with heap := s2.heap.push (revObj q ((its.toArray.size : Int) - 1)) }) (ys := ys.reverse) (I2.ok.hd hc) ⟨_, Heap.get?_push_size _ rfl, rfl, rfl⟩ (hl.push _) hne hn (fun acc hi => ?_) ?_ fun h' t' k hk => ?_
  · have := RT.vals_rev rv hi
    rw [← List.map_reverse] at this
    exact vals_strR this
  · rw [List.map_reverse, List.sum_reverse, List.length_reverse]
    exact hz
  · exact ⟨.str _, H2, I3.turned (t' := k) (fun b o hb e => hk b o hb e) f0 f1 f3 f4 f5, ⟨t', rfl⟩, q3⟩
end
end L2
namespace My
open PySem PySem.Spec PyProof.Rows L2
/-- the def x is there, and keeps the promise -/
structure Hv (P : Program) (w : World) (K : PySem.W.Frag) (mg : Str → Option Value) (base : Heap) (k : Nat) (x : Str) (ps : List Str) (sp : Sp) : Prop where
  ex : ∃ (f : Addr) (fd : FuncData), FnOk P w K mg base CX0 k f fd ps sp ∧ Binds K fd ps [] ∧ mg x = some (.ref f) ∧ PySem.W.keepIn K (.ref f) = true
theorem pe_cl {X : Cx} {k : Nat} {x : Str} {ps : List Str} {sp : Sp} {p pos : Pos} {e : Expr} {es : List Expr} {t : TA} {E : XK} (h : Hv X.prog X.w X.K X.mg X.base k x ps sp) (hr : Room k X.A) (hg : Gl X x) (hx : Passes CX0 X E) (ha : PA X (e :: es) t)
    (hdb : (x == ("__debug__" : Str)) = false := by decide) (he : starEach (e :: es) X.env = (false, eval e X.env) :: starEach es X.env := by rfl) (hpl : (backTo pos (starEach es X.env)).any (·.1) = false := by rfl) :
    PE X (.Call (.Name x p) (e :: es) [] pos) (tCall sp [] E t) := by
  obtain ⟨f, fd, F, b, g, kp⟩ := h.ex
  exact pe_call F hr hg g kp b .nil hx ha hdb he hpl
abbrev abc : Str := "abcdefghijklmnopqrstuvwxyz"
def madeL (x y : Str) : Bool := (x.cps.toList.map fun c => decide (c ∈ y.cps.toList)).all id
def spMade : Sp := fun vs H Q _ => ∃ x y : Str, vs = [.str x, .str y] ∧ x.length ≤ 16000000 ∧ ∀ H', Same H H' → Q (.bl (madeL x y)) H'
section
variable {P : Program} {w : World} {K : PySem.W.Frag} {mg : Str → Option Value} {base : Heap}
theorem scMade : FnScope ["text", "letters", "letter"] ["text", "letters"] (defScope sMade) := ⟨rfl, rfl, rfl, by decide +kernel, rfl, by decide +kernel, by decide +kernel⟩
theorem ok_made {f : Addr} {fd : FuncData} (F : Fun K "made_of" "made_of" sMade f fd) (hA : mg "all" = none) : FnOk P w K mg base CX0 1 f fd ["text", "letters"] spMade := by
  refine F.ok scMade (fun vs H Q E h => ?_) (fun cdv A outer s H vs Q E hr h => ?_)
  · obtain ⟨x, y, rfl, _⟩ := h
    rfl
  · obtain ⟨x, y, rfl, hx, k⟩ := h
    refine ⟨_, pss_one (ps_ret (pe_callB (cr_all rfl) (by rfl) hA (by decide +kernel) (pa_cons (pe_lc (own := [("letter", 2)]) (g := gName 2) (tt := tYes) rfl scMade.nd (pi_str (pv 0))
      (blkOk_by (N := ["text", "letters", "letter"]) (sc := defScope sMade) (by decide +kernel)) (fun _ _ _ _ _ => pg_name (i := 2) scMade.nd rfl (Or.inl rfl)) (fun _ _ _ _ _ => pts_nil) (fun _ _ _ _ _ => pe_cmpR op_in_sign (pv 2) (pv 1) (by rfl))) pa_nil))), ?_⟩
    refine ⟨_, rfl, x, rfl, fun D hD => ?_⟩
    refine lcG (x.cps.toList) (fun c => some (.bl (decide (c ∈ y.cps.toList)))) (by rw [Array.length_toList]; exact walk_str) (by rw [Array.length_toList]; exact hx) hD (fun i H x H' h => by rw [h.1]; exact Same.refl _) (fun _ _ => trivial) (fun i c z H' H'' k1 hc _ hy k2 => ?_) (fun H' s' e => ?_)
    · obtain ⟨rfl, c', hc', rfl⟩ := hy
      rw [← Array.getElem?_toList, hc] at hc'
      cases hc'
      exact ⟨rfl, _, rfl, _, rfl, c, _, rfl, rfl, k2 _ (Same.refl _)⟩
    · refine ⟨D, x.cps.toList.map fun c => decide (c ∈ y.cps.toList), rfl, SqL.of ?_, k _ s'⟩
      rw [e, List.filterMap_eq_map', List.map_map]
      rfl
end
end My
namespace My
open PySem PySem.Spec PyProof.Rows L2
/-! what the program says of texts, as plain functions -/
def isWordL (x : Str) : Bool := decide (1 ≤ x.length) && decide (x.length ≤ 8) && madeL x abc
def spWord : Sp := fun vs H Q _ => ∃ x : Str, vs = [.str x] ∧ x.length ≤ 16000000 ∧ ∀ H', Same H H' → Q (.bl (isWordL x)) H'
section
variable {P : Program} {w : World} {K : PySem.W.Frag} {mg : Str → Option Value} {base : Heap}
theorem scWord : FnScope ["text"] ["text"] (defScope sWord) := ⟨rfl, rfl, rfl, by decide +kernel, rfl, by decide +kernel, by decide +kernel⟩
theorem ok_word {f : Addr} {fd : FuncData} {tA tB : Tok} (F : Fun K "is_word" "is_word" sWord f fd) (hO : Hv P w K mg base 1 "made_of" ["text", "letters"] spMade) (hL : mg "len" = none) (gL : mg "LONGEST_WORD" = some (.int 8 tA)) (gA : mg "LETTERS" = some (.str abc tB)) : FnOk P w K mg base CX0 2 f fd ["text"] spWord := by
  refine F.ok scWord (fun vs H Q E h => ?_) (fun cdv A outer s H vs Q E hr h => ?_)
  · obtain ⟨x, rfl, _⟩ := h
    rfl
  · obtain ⟨x, rfl, hx, k⟩ := h
    refine ⟨_, pss_one (ps_ret (pe_and (pe_chain op_le op_le pe_int (pe_callB call_len_str (by rfl) hL PySem.boot_len (pa_cons (pv 0) pa_nil)) (pe_glob (v := .int 8) rfl gL ⟨_, rfl⟩)) (pe_one (pe_cl hO hr rfl pass0 (pa_cons (pv 0) (pa_cons (pe_glob (v := .str abc) rfl gA ⟨_, rfl⟩) pa_nil)))))), ?_⟩
    refine ⟨_, rfl, x, rfl, (by rw [sizeLine_eq]; omega), _, _, rfl, rfl, _, rfl, ?_⟩
    refine ite2 (fun c1 => ?_) (fun c1 => ?_)
    · refine ⟨_, _, rfl, rfl, _, rfl, ite2 (fun c2 => ⟨_, rfl, x, abc, rfl, hx, fun H' s => ?_⟩) (fun c2 => ?_)⟩
      · have e : isWordL x = madeL x abc := by
          have h1 := of_decide_eq_true c1
          have h2 := of_decide_eq_true c2
          unfold isWordL
          rw [decide_eq_true (by omega), decide_eq_true (by omega)]
          simp
        rw [← e]
        exact k _ s
      · have e : isWordL x = false := by
          have h2 := of_decide_eq_false (Bool.eq_false_iff.mpr c2)
          unfold isWordL
          rw [decide_eq_false (by omega : ¬ x.length ≤ 8)]
          simp
        rw [e] at k
        exact k _ (Same.refl _)
    · have e : isWordL x = false := by
        have h2 := of_decide_eq_false (Bool.eq_false_iff.mpr c1)
        unfold isWordL
        rw [decide_eq_false (by omega : ¬ 1 ≤ x.length)]
        simp
      rw [e] at k
      exact ⟨_, rfl, iteF (k _ (Same.refl _))⟩
end
end My
namespace My
open PySem PySem.Spec PyProof.Rows L2 PySem.GX
theorem mem_ins {ys : List Str} {k z : Str} : z ∈ ins ys k ↔ z = k ∨ z ∈ ys := by
  unfold ins
  by_cases h : k ∈ ys
  · rw [if_pos h]
    constructor
    · intro m; exact .inr m
    · rintro (rfl | m)
      · exact h
      · exact m
  · rw [if_neg h, List.mem_cons]
theorem setFold_all : ∀ (n : Nat) (xs : List Str), xs.length = n → (setFold xs).Nodup ∧ (∀ z, z ∈ setFold xs ↔ z ∈ xs) ∧ (xs.Nodup → (setFold xs).Perm xs) ∧ (¬ xs.Nodup → (setFold xs).length < xs.length) := by
  intro n
  induction n with
  | zero =>
    intro xs h
    have : xs = [] := List.eq_nil_of_length_eq_zero h
    subst this
    exact ⟨List.nodup_nil, fun _ => Iff.rfl, fun _ => List.Perm.refl _, fun h => absurd List.nodup_nil h⟩
  | succ n ih =>
    intro xs h
    have hne : xs ≠ [] := by intro z; subst z; cases h
    obtain ⟨ys, a, rfl⟩ : ∃ ys a, xs = ys ++ [a] := ⟨xs.dropLast, xs.getLast hne, (List.dropLast_concat_getLast hne).symm⟩
    have hl : ys.length = n := by rw [List.length_append] at h; simpa using h
    obtain ⟨i1, i2, i3, i4⟩ := ih ys hl
    have len := setFold_len n ys hl
    rw [setFold_snoc]
    refine ⟨ins_nodup i1, fun z => ?_, fun nd => ?_, fun nd => ?_⟩
    · rw [mem_ins, i2, List.mem_append]
      simp
      constructor
      · rintro (h | h) <;> simp [h]
      · rintro (h | h) <;> simp [h]
    · rw [List.nodup_append] at nd
      have ha : a ∉ setFold ys := fun z => nd.2.2 a ((i2 a).mp z) a (by simp) rfl
      unfold ins
      rw [if_neg ha]
      exact ((i3 nd.1).cons a).trans (List.perm_append_singleton a ys).symm
    · unfold ins
      by_cases ha : a ∈ setFold ys
      · rw [if_pos ha, List.length_append]
        simp; omega
      · rw [if_neg ha, List.length_append]
        have : ¬ ys.Nodup := fun z => nd (by
          rw [List.nodup_append]
          refine ⟨z, by simp, fun b hb c hc e => ?_⟩
          simp at hc
          subst hc; subst e
          exact ha ((i2 b).mpr hb))
        have := i4 this
        simp; omega
theorem setFold_eqlen (xs : List Str) : decide ((setFold xs).length = xs.length) = decide xs.Nodup := by
  obtain ⟨_, _, i3, i4⟩ := setFold_all _ xs rfl
  by_cases h : xs.Nodup
  · rw [decide_eq_true h, decide_eq_true (i3 h).length_eq]
  · rw [decide_eq_false h, decide_eq_false (Nat.ne_of_lt (i4 h))]
/-- the sign c as a text -/
abbrev sg (c : Nat) : Str := ⟨#[c]⟩
theorem sg_inj {a b : Nat} (h : sg a = sg b) : a = b := by
  have := congrArg (fun s : Str => s.cps.toList) h
  simpa using this
theorem str_ext {x y : Str} (h : x.cps.toList = y.cps.toList) : x = y := by
  cases x; cases y
  simp at h
  rw [h]
theorem asc_eq : ∀ {a b : List Nat}, a.Pairwise (· < ·) → b.Pairwise (· < ·) → (∀ z, z ∈ a ↔ z ∈ b) → a = b
  | [], [], _, _, _ => rfl
  | [], y :: _, _, _, h => by have := (h y).mpr (by simp); simp at this
  | x :: _, [], _, _, h => by have := (h x).mp (by simp); simp at this
  | x :: xs, y :: ys, h1, h2, h => by
    rw [List.pairwise_cons] at h1 h2
    have e : x = y := by
      have m1 := (h x).mp (by simp)
      have m2 := (h y).mpr (by simp)
      simp at m1 m2
      rcases m1 with m1 | m1
      · exact m1
      · rcases m2 with m2 | m2
        · exact m2.symm
        · have a1 := h1.1 _ m2
          have a2 := h2.1 _ m1
          omega
    subst e
    congr 1
    refine asc_eq h1.2 h2.2 fun z => ?_
    constructor
    · intro m
      have := (h z).mp (by simp [m])
      simp at this
      rcases this with rfl | t
      · exact absurd (h1.1 _ m) (Nat.lt_irrefl _)
      · exact t
    · intro m
      have := (h z).mpr (by simp [m])
      simp at this
      rcases this with rfl | t
      · exact absurd (h2.1 _ m) (Nat.lt_irrefl _)
      · exact t
theorem rising_asc : ∀ (cs : List Nat) (p : Nat), risingS (sg p) (cs.map sg) = true → (p :: cs).Nodup → (p :: cs).Pairwise (· < ·)
  | [], p, _, _ => by simp
  | c :: cs, p, h, nd => by
    unfold risingS at h
    rw [List.map_cons] at h
    simp only [Bool.and_eq_true] at h
    have nd' := (List.nodup_cons.mp nd)
    have ih := rising_asc cs c h.2 nd'.2
    have h1 : ¬ c < p := by
      have := h.1
      simp [ltCps] at this
      omega
    have h2 : p ≠ c := fun z => nd'.1 (by simp [z])
    rw [List.pairwise_cons] at ih ⊢
    refine ⟨fun z hz => ?_, List.pairwise_cons.mpr ih⟩
    simp at hz
    rcases hz with rfl | hz
    · omega
    · have := ih.1 z hz
      omega
theorem join_signs : ∀ cs : List Nat, (Str.join Str.empty (cs.map sg)).cps.toList = cs
  | [] => rfl
  | [c] => rfl
  | c :: d :: cs => by
    have ih := join_signs (d :: cs)
    show ((sg c ++ Str.empty ++ Str.join Str.empty ((d :: cs).map sg)).cps).toList = _
    show (((#[c] ++ #[]) ++ (Str.join Str.empty ((d :: cs).map sg)).cps)).toList = _
    rw [Array.toList_append, ih]
    rfl
/-- the text is its own signs in their order, each once -/
theorem asc_join {x : Str} {zs : List Str} (hp : zs.Perm (setFold (signsOf x))) (hs : sortedS zs = true) : decide (V.str x = V.str (Txt.join Str.empty zs)) = decide (x.cps.toList.Pairwise (· < ·)) := by
  obtain ⟨i1, i2, i3, i4⟩ := setFold_all _ (signsOf x) rfl
  have nd : zs.Nodup := hp.nodup_iff.mpr i1
  have hm : ∀ z, z ∈ zs ↔ z ∈ signsOf x := fun z => (hp.mem_iff).trans (i2 z)
  obtain ⟨cs, rfl⟩ : ∃ cs : List Nat, zs = cs.map sg := by
    have all : ∀ z ∈ zs, ∃ c, z = sg c := fun z hz => by
      have := (hm z).mp hz
      unfold signsOf at this
      obtain ⟨c, _, rfl⟩ := List.mem_map.mp this
      exact ⟨c, rfl⟩
    clear hp hs nd hm i1 i2 i3 i4
    induction zs with
    | nil => exact ⟨[], rfl⟩
    | cons z t ih =>
      obtain ⟨c, rfl⟩ := all z (by simp)
      obtain ⟨cs, e⟩ := ih fun y hy => all y (by simp [hy])
      exact ⟨c :: cs, by rw [e]; rfl⟩
  have ndc : cs.Nodup := by
    unfold List.Nodup at nd
    rw [List.pairwise_map] at nd
    exact nd.imp fun h z => h (congrArg sg z)
  have asc : cs.Pairwise (· < ·) := by
    cases cs with
    | nil => simp
    | cons c t => exact rising_asc t c hs ndc
  have mem : ∀ c, c ∈ cs ↔ c ∈ x.cps.toList := fun c => by
    have := hm (sg c)
    unfold signsOf at this
    constructor
    · intro h
      obtain ⟨d, hd, e⟩ := List.mem_map.mp (this.mp (List.mem_map.mpr ⟨c, h, rfl⟩))
      rw [← sg_inj e]; exact hd
    · intro h
      obtain ⟨d, hd, e⟩ := List.mem_map.mp (this.mpr (List.mem_map.mpr ⟨c, h, rfl⟩))
      rw [← sg_inj e]; exact hd
  have ej : (Txt.join Str.empty (cs.map sg)).cps.toList = cs := by rw [TL.join_eq, join_signs]
  by_cases h : x.cps.toList.Pairwise (· < ·)
  · rw [decide_eq_true h, decide_eq_true]
    congr 1
    exact str_ext (by rw [ej]; exact asc_eq h asc fun z => (mem z).symm)
  · rw [decide_eq_false h, decide_eq_false]
    intro e
    have e' : x = _ := V.str.inj e
    apply h
    rw [e', ej]
    exact asc
end My
namespace My
open PySem PySem.Spec PyProof.Rows L2 PySem.GX
def areSignsL : List Str → Bool
  | [x] => decide (1 ≤ x.length) && decide (x.length ≤ 3) && madeL x abc && decide (x.cps.toList.Pairwise (· < ·))
  | _ => false
def areMoodsL (ws : List Str) : Bool := decide (1 ≤ ws.length) && decide (ws.length ≤ 300) && ws.all isWordL && decide ws.Nodup
def areGoodL (ws ms : List Str) : Bool := decide (ws = ms.filter fun m => decide (m ∈ ws))
end My
namespace My
open PySem PySem.Spec PyProof.Rows L2 PySem.GX
theorem areS1 (x : Str) : areSignsL [x] = (decide (1 ≤ x.length) && decide (x.length ≤ 3) && madeL x abc && decide (x.cps.toList.Pairwise (· < ·))) := rfl
def spSigns (K : PySem.W.Frag) : Sp := fun vs H Q _ => ∃ (l : Addr) (ws : List Str), vs = [.ref l] ∧ H l = some (.lst (ws.map V.str)) ∧ (∀ x ∈ ws, x.length ≤ 16000000) ∧ ∀ H', Same H H' → Q (.bl (areSignsL ws)) H'
def spMoods (K : PySem.W.Frag) : Sp := fun vs H Q _ => ∃ (l : Addr) (ws : List Str), vs = [.ref l] ∧ H l = some (.lst (ws.map V.str)) ∧ (∀ x ∈ ws, x.length ≤ 16000000) ∧ ∀ H', Same H H' → Q (.bl (areMoodsL ws)) H'
section
variable {P : Program} {w : World} {K : PySem.W.Frag} {mg : Str → Option Value} {base : Heap}
theorem scSigns : FnScope ["words"] ["words"] (defScope sSigns) := ⟨rfl, rfl, rfl, by decide +kernel, rfl, by decide +kernel, by decide +kernel⟩
theorem ok_signs {f : Addr} {fd : FuncData} {tA tB : Tok} (F : Fun K "are_signs" "are_signs" sSigns f fd) (hO : Hv P w K mg base 1 "made_of" ["text", "letters"] spMade) (gA : mg "LETTERS" = some (.str abc tB)) (hL : mg "len" = none) (hS : mg "set" = none) (hT : mg "sorted" = none) (gM : mg "MOST_SIGNS" = some (.int 3 tA)) :
    FnOk P w K mg base CX0 2 f fd ["words"] (spSigns K) := by
  refine F.ok scSigns (fun vs H Q E h => ?_) (fun cdv A outer s H vs Q E hr h => ?_)
  · obtain ⟨l, ws, rfl, _⟩ := h
    rfl
  · obtain ⟨l, ws, rfl, hl, hx, k⟩ := h
    refine ⟨_, pss_cons (ps_if (PW.pt (pw_or (pt_cmpR op_ne (pe_callB call_len_seq (by rfl) hL PySem.boot_len (pa_cons (pv 0) pa_nil)) pe_int (nomark _))
        (pw_or1 (pt_not (pt_chain op_le op_le pe_int (pe_callB call_len_str (by rfl) hL PySem.boot_len (pa_cons (pe_ix ix_list (pv 0) pe_int (fun _ _ => rfl)) pa_nil)) (pe_glob (v := .int 3) rfl gM ⟨_, rfl⟩))))))
        (pss_one (ps_ret pe_bl)) pss_nil)
      (pss_one (ps_ret (pe_and (pe_cl hO hr rfl pass0 (pa_cons (pe_ix ix_list (pv 0) pe_int (fun _ _ => rfl)) (pa_cons (pe_glob (v := .str abc) rfl gA ⟨_, rfl⟩) pa_nil)))
        (pe_one (pe_cmpR op_eq (pe_ix ix_list (pv 0) pe_int (fun _ _ => rfl)) (pe_join pe_str (pe_callB (cr_sortedTx rfl) (by rfl) hT (by decide +kernel) (pa_cons (pe_callTy (cr_setS rfl) (by rfl) hS (by decide +kernel) (pa_cons (pe_ix ix_list (pv 0) pe_int (fun _ _ => rfl)) pa_nil)) pa_nil))) (nomark _)))))), ?_⟩
    refine ⟨_, rfl, l, _, rfl, .inl (SqL.of hl), rfl, _, rfl, ?_⟩
    rw [List.length_map]
    match ws, hl, hx, k with
    | [], hl, hx, k => exact iteT (iteT (k _ (Same.refl _)))
    | _ :: _ :: _, hl, hx, k =>
      refine ite2 (fun c => iteT (k _ (Same.refl _))) (fun c => ?_)
      exfalso
      apply c
      simp
      omega
    | [x], hl, hx, k =>
      refine iteF ?_
      have hz := hx x (by simp)
      refine ⟨_, rfl, l, _, _, _, rfl, rfl, SqL.of hl, atI_nat (j := 0) rfl, x, rfl, (by rw [sizeLine_eq]; omega), _, _, rfl, rfl, _, rfl, ?_⟩
      refine ite2 (fun c1 => ?_) (fun c1 => ?_)
      · refine ⟨_, _, rfl, rfl, _, rfl, ?_⟩
        have h1 := of_decide_eq_true c1
        refine ite2 (fun c2 => ?_) (fun c2 => ?_)
        · have e : areSignsL [x] = false := by
            have h2 : (3 : Int) < (x.length : Int) := by simpa using c2
            rw [areS1]
            rw [decide_eq_false (by omega : ¬ x.length ≤ 3)]
            simp
          rw [e] at k
          exact k _ (Same.refl _)
        · have h2 : (x.length : Int) ≤ 3 := by simpa using c2
          have e : areSignsL [x] = (madeL x abc && decide (x.cps.toList.Pairwise (· < ·))) := by
            rw [areS1, decide_eq_true (show 1 ≤ x.length by omega), decide_eq_true (show x.length ≤ 3 by omega)]
            simp
          rw [e] at k
          refine ⟨_, rfl, l, _, _, _, rfl, rfl, SqL.of hl, atI_nat (j := 0) rfl, x, abc, rfl, hz, fun H1 s1 => ⟨_, rfl, ite2 (fun c3 => ?_) (fun c3 => ?_)⟩⟩
          · have hl1 := s1 _ _ hl
            refine ⟨_, rfl, l, _, _, _, rfl, rfl, SqL.of hl1, atI_nat (j := 0) rfl, ⟨_, rfl⟩, _, rfl, l, _, _, _, rfl, rfl, SqL.of hl1, atI_nat (j := 0) rfl, x, rfl, (by omega), fun p hp => ⟨p, _, rfl, upd_same, fun zs q pz sz hq => ?_⟩⟩
            have hlen : zs.length ≤ 3 := by
              rw [pz.length_eq]
              have := setFold_len _ (signsOf x) rfl
              have e2 : (signsOf x).length = x.length := by unfold signsOf; rw [List.length_map, Array.length_toList]; rfl
              omega
            have hone : ∀ z ∈ zs, z.length = 1 := fun z hz => by
              have := (setFold_all _ (signsOf x) rfl).2.1 z |>.mp (pz.mem_iff.mp hz)
              unfold signsOf at this
              obtain ⟨c, _, rfl⟩ := List.mem_map.mp this
              rfl
            refine ⟨_, q, zs, rfl, rfl, .inl (SqL.of upd_same), ?_, rfl, ?_⟩
            · have : (zs.map (·.length)).sum = zs.length := by
                clear pz sz hq hlen
                induction zs with
                | nil => rfl
                | cons z t ih => 
                  rw [List.map_cons, List.sum_cons, ih (fun y hy => hone y (by simp [hy])), hone z (by simp), List.length_cons]
                  omega
              rw [this]
              have e0 : (Str.ofString "").length = 0 := rfl
              rw [e0]
              omega
            · have := asc_join pz sz
              rw [c3, Bool.true_and] at k
              rw [← this] at k
              exact k _ ((s1.trans (same_new hp)).trans (same_new hq))
          · rw [Bool.eq_false_iff.mpr c3] at k
            exact k _ s1
      · refine ⟨_, rfl, iteT ?_⟩
        have e : areSignsL [x] = false := by
          have h2 := of_decide_eq_false (Bool.eq_false_iff.mpr c1)
          rw [areS1]
          rw [decide_eq_false (by omega : ¬ 1 ≤ x.length)]
          simp
        rw [e] at k
        exact k _ (Same.refl _)
end
end My
namespace My
open PySem PySem.Spec PyProof.Rows L2
theorem len_app (a b : Str) : (a ++ b).length = a.length + b.length := Str.length_append a b
theorem cps_app (a b : Str) : (a ++ b).cps.toList = a.cps.toList ++ b.cps.toList := by
  show (a.cps ++ b.cps).toList = _
  exact Array.toList_append
theorem ok_low {y : Str} (h : ∀ c ∈ y.cps.toList, c < 256) : PyData.strOk y = true := by
  unfold PyData.strOk
  rw [Array.all_eq_true_iff_forall_mem]
  intro c hc
  have := h c (by simpa using hc)
  simp
  omega
theorem yat_same (xs : List V) : ∀ i H x H', YAt xs i H x H' → Same H H' := fun i H x H' h => by rw [h.1]; exact Same.refl _
theorem map_get {α : Type} {xs : List α} {f : α → V} {i : Nat} {a : α} {x : V} (ha : xs[i]? = some a) (h : (xs.map f)[i]? = some x) : x = f a := by
  rw [List.getElem?_map, ha] at h
  exact (Option.some.inj h).symm
theorem walk_listL {K : PySem.W.Frag} {a : Addr} {α : Type} (xs : List α) (f : α → V) : Walk (Itl K a) xs.length (fun H => SqL K H a (xs.map f)) (YAt (xs.map f)) := by
  have := walk_list (K := K) (a := a) (xs := xs.map f)
  rw [List.length_map] at this
  exact this
theorem in_strs (x : Str) : ∀ ys : List Str, inV (.str x) (ys.map V.str) = decide (x ∈ ys)
  | [] => rfl
  | y :: t => by
    have ih := in_strs x t
    unfold inV at ih ⊢
    rw [List.map_cons, List.any_cons, ih]
    have e : eqV (.str y) (.str x) = decide (y = x) := by
      show (y == x) = _
      by_cases h : y = x
      · subst h; simp
      · simp [h]
    rw [e]
    by_cases h : y = x
    · subst h; simp
    · simp [h, Ne.symm h]
theorem flat_strs (ys : List Str) : (ys.map V.str).all flatV = true := by
  rw [List.all_map]
  exact List.all_eq_true.mpr fun _ _ => rfl
end My
namespace My
open PySem PySem.Spec PyProof.Rows L2 PySem.GX
section
variable {P : Program} {w : World} {K : PySem.W.Frag} {mg : Str → Option Value} {base : Heap}
theorem scMoods : FnScope ["words", "word"] ["words"] (defScope sMoods) := ⟨rfl, rfl, rfl, by decide +kernel, rfl, by decide +kernel, by decide +kernel⟩
theorem ok_moods {f : Addr} {fd : FuncData} {tA : Tok} (F : Fun K "are_moods" "are_moods" sMoods f fd) (hW : Hv P w K mg base 2 "is_word" ["text"] spWord) (hL : mg "len" = none) (hS : mg "set" = none) (hA : mg "all" = none) (gM : mg "MOST_MOODS" = some (.int 300 tA)) :
    FnOk P w K mg base CX0 3 f fd ["words"] (spMoods K) := by
  refine F.ok scMoods (fun vs H Q E h => ?_) (fun cdv A outer s H vs Q E hr h => ?_)
  · obtain ⟨l, ws, rfl, _⟩ := h
    rfl
  · obtain ⟨l, ws, rfl, hl, hx, k⟩ := h
    refine ⟨_, pss_cons (ps_if (pt_not (pt_chain op_le op_le pe_int (pe_callB call_len_seq (by rfl) hL PySem.boot_len (pa_cons (pv 0) pa_nil)) (pe_glob (v := .int 300) rfl gM ⟨_, rfl⟩)))
        (pss_one (ps_ret pe_bl)) pss_nil)
      (pss_one (ps_ret (pe_and (pe_callB (cr_all rfl) (by rfl) hA (by decide +kernel) (pa_cons (pe_lc (own := [("word", 1)]) (g := gName 1) (tt := tYes) rfl scMoods.nd (pi_list (pv 0))
          (blkOk_by (N := ["words", "word"]) (sc := defScope sMoods) (by decide +kernel)) (fun _ _ _ _ _ => pg_name (i := 1) scMoods.nd rfl (Or.inl rfl)) (fun _ _ _ _ _ => pts_nil) (fun _ _ _ _ _ => pe_cl hW hr rfl pass0 (pa_cons (pv 1) pa_nil))) pa_nil))
        (pe_one (pe_cmpR op_eq (pe_callB cr_lenSet (by rfl) hL PySem.boot_len (pa_cons (pe_callTy (cr_setL rfl) (by rfl) hS (by decide +kernel) (pa_cons (pv 0) pa_nil)) pa_nil)) (pe_callB call_len_seq (by rfl) hL PySem.boot_len (pa_cons (pv 0) pa_nil)) (nomark _)))))), ?_⟩
    refine ⟨_, rfl, l, _, rfl, .inl (SqL.of hl), _, _, rfl, rfl, _, rfl, ?_⟩
    rw [List.length_map]
    refine ite2 (fun c1 => ?_) (fun c1 => ?_)
    · refine ⟨_, _, rfl, rfl, _, rfl, ?_⟩
      have h1 := of_decide_eq_true c1
      refine ite2 (fun c2 => ?_) (fun c2 => ?_)
      · have e : areMoodsL ws = false := by
          have h2 : (300 : Int) < (ws.length : Int) := by simpa using c2
          unfold areMoodsL
          rw [decide_eq_false (by omega : ¬ ws.length ≤ 300)]
          simp
        rw [e] at k
        exact k _ (Same.refl _)
      · have h2 : (ws.length : Int) ≤ 300 := by simpa using c2
        have e : areMoodsL ws = (ws.all isWordL && decide ws.Nodup) := by
          unfold areMoodsL
          rw [decide_eq_true (show 1 ≤ ws.length by omega), decide_eq_true (show ws.length ≤ 300 by omega)]
          simp
        rw [e] at k
        refine ⟨_, rfl, l, rfl, ⟨_, SqL.of hl⟩, fun D hD => ?_⟩
        refine lcG ws (fun x => some (.bl (isWordL x))) (by have := walk_list (K := K) (a := l) (xs := ws.map V.str); rw [List.length_map] at this; exact this) (by omega) hD (yat_same _) (fun H' s => SqL.of (s _ _ hl)) (fun i x y H' H'' k1 hx' s1 hy k2 => ?_) (fun H1 s1 e1 => ?_)
        · obtain ⟨rfl, hy⟩ := hy
          obtain rfl := map_get hx' hy
          refine ⟨rfl, _, rfl, x, rfl, hx x (List.mem_of_getElem? hx'), fun H4 s4 => k2 _ s4⟩
        · refine ⟨D, ws.map isWordL, rfl, SqL.of ?_, _, rfl, ?_⟩
          · rw [e1, List.filterMap_eq_map', List.map_map]
            rfl
          · have ea : (ws.map isWordL).all id = ws.all isWordL := by rw [List.all_map]; rfl
            rw [ea]
            refine ite2 (fun c3 => ?_) (fun c3 => ?_)
            · have hl1 := s1 _ _ hl
              refine ⟨_, rfl, l, ws, rfl, SqL.of hl1, (by omega), fun p hp => ⟨p, _, rfl, upd_same, _, rfl, l, _, rfl, .inl (SqL.of (keep1 hl1 hp)), rfl, ?_⟩⟩
              rw [c3, Bool.true_and, ← setFold_eqlen] at k
              rw [List.length_map]
              have ed : decide (V.int ((setFold ws).length : Nat) = V.int (ws.length : Nat)) = decide ((setFold ws).length = ws.length) := by
                rw [dec_int]
                by_cases hc : (setFold ws).length = ws.length
                · rw [hc]; simp
                · rw [decide_eq_false hc]
                  simp
                  omega
              rw [ed]
              exact k _ (s1.trans (same_new hp))
            · rw [Bool.eq_false_iff.mpr c3] at k
              exact k _ s1
    · have e : areMoodsL ws = false := by
        have h2 := of_decide_eq_false (Bool.eq_false_iff.mpr c1)
        unfold areMoodsL
        rw [decide_eq_false (by omega : ¬ 1 ≤ ws.length)]
        simp
      rw [e] at k
      exact ⟨_, rfl, iteT (k _ (Same.refl _))⟩
end
end My
namespace My
open PySem PySem.Spec PyProof.Rows L2 PySem.GX
def spGood (K : PySem.W.Frag) : Sp := fun vs H Q _ => ∃ (l m : Addr) (ws ms : List Str), vs = [.ref l, .ref m] ∧ H l = some (.lst (ws.map V.str)) ∧ H m = some (.lst (ms.map V.str)) ∧ ws.length ≤ 16000000 ∧ ms.length ≤ 16000000 ∧
  (∀ x ∈ ws, PyData.strOk x = true) ∧ (∀ x ∈ ms, PyData.strOk x = true) ∧ ∀ H', Same H H' → Q (.bl (areGoodL ws ms)) H'
/-- the dict {x: True for x in ws} -/
abbrev dTrue (ws : List Str) : List (Key × V) := dOf (fun x => (Sum.inr x : Key)) (fun _ => V.bl true) ws
theorem dTrue_val (ws : List Str) (m : Str) : (valV (dTrue ws) (Sum.inr m)).isSome = decide (m ∈ ws) := by
  rw [dOf_val]
  congr 1
  simp
theorem fm_filter (p : Str → Bool) : ∀ ms : List Str, (ms.filterMap fun m => if p m = true then some (V.str m) else none) = (ms.filter p).map V.str
  | [] => rfl
  | m :: t => by
    rw [List.filterMap_cons, List.filter_cons]
    cases h : p m with
    | true => simp [fm_filter p t]
    | false => simp [fm_filter p t]
section
variable {P : Program} {w : World} {K : PySem.W.Frag} {mg : Str → Option Value} {base : Heap}
theorem scGood : FnScope ["words", "moods", "chosen", "word", "mood"] ["words", "moods"] (defScope sGood) := ⟨rfl, rfl, rfl, by decide +kernel, rfl, by decide +kernel, by decide +kernel⟩
theorem ok_good {f : Addr} {fd : FuncData} (F : Fun K "are_good" "are_good" sGood f fd) : FnOk P w K mg base CX0 1 f fd ["words", "moods"] (spGood K) := by
  refine F.ok scGood (fun vs H Q E h => ?_) (fun cdv A outer s H vs Q E hr h => ?_)
  · obtain ⟨l, m, ws, ms, rfl, _⟩ := h
    rfl
  · obtain ⟨l, m, ws, ms, rfl, hl, hm, z1, z2, o1, o2, k⟩ := h
    refine ⟨_, pss_cons (ps_set (i := 2) scGood.nd rfl (Or.inr rfl) (pe_dc (own := [("word", 3)]) (g := gName 3) (tt := tYes) rfl scGood.nd (pi_list (pv 0))
          (blkOk_by (N := ["words", "moods", "chosen", "word", "mood"]) (sc := defScope sGood) (by decide +kernel)) (fun _ _ _ _ _ => pg_name (i := 3) scGood.nd rfl (Or.inl rfl)) (fun _ _ _ _ _ => pts_nil) (fun _ _ _ _ _ => pv 3) (fun _ _ _ _ _ => pe_bl)))
      (pss_one (ps_ret (pe_cmpR (op_eqD hr.units) (pv 0) (pe_lc (own := [("mood", 4)]) (g := gName 4) rfl scGood.nd (pi_list (pv 1))
          (blkOk_by (N := ["words", "moods", "chosen", "word", "mood"]) (sc := defScope sGood) (by decide +kernel)) (fun _ _ _ _ _ => pg_name (i := 4) scGood.nd rfl (Or.inl rfl)) (fun _ _ _ _ _ => pts_one (pt_cmp (pc_din (hu_of hr) (pv 4) (pv 2)))) (fun _ _ _ _ _ => pv 4)) (nomark _)))), ?_⟩
    refine ⟨_, rfl, l, rfl, ⟨_, SqL.of hl⟩, fun D hD => ?_⟩
    refine dcG ws (fun x => (Sum.inr x : Key)) (fun _ => V.bl true) (by have := walk_list (K := K) (a := l) (xs := ws.map V.str); rw [List.length_map] at this; exact this) z1 hD (yat_same _) (fun H' s => SqL.of (s _ _ hl)) (fun i x y H' H'' k1 k0 hx s1 hy k2 => ?_) (fun H1 s1 e1 => ?_)
    · obtain ⟨rfl, hy⟩ := hy
      obtain rfl := map_get hx hy
      exact ⟨rfl, _, rfl, k2 _ (Same.refl _)⟩
    · have hl1 := s1 _ _ hl
      have hm1 := s1 _ _ hm
      refine ⟨_, rfl, _, rfl, m, rfl, ⟨_, SqL.of hm1⟩, fun E' hE => ?_⟩
      refine lcG ms (fun x => if decide (x ∈ ws) = true then some (V.str x) else none) (by have := walk_list (K := K) (a := m) (xs := ms.map V.str); rw [List.length_map] at this; exact this) z2 hE (yat_same _) (fun H' s => SqL.of (s _ _ hm1)) (fun i x y H' H'' k1 hx s2 hy k2 => ?_) (fun H2 s2 e2 => ?_)
      · obtain ⟨rfl, hy⟩ := hy
        obtain rfl := map_get hx hy
        have kk := k2 _ (Same.refl _)
        refine ⟨rfl, _, rfl, _, rfl, D, _, rfl, DGet.k (k := Sum.inr x) (s2 _ _ e1), _, rfl, ?_⟩
        rw [dTrue_val]
        refine ite2 (fun c => ?_) (fun c => ?_)
        · rw [if_pos c] at kk
          exact ⟨_, rfl, kk⟩
        · rw [if_neg c] at kk
          exact kk
      · rw [fm_filter] at e2
        refine ⟨dTx ws, dTx (ms.filter fun x => decide (x ∈ ws)), dp_dTx (s2 _ _ hl1), dp_dTx e2, shaped_dTx o1, shaped_dTx fun x hx => o2 x ((List.mem_filter.mp hx).1), ?_⟩
        rw [eqv_dTx]
        exact k _ (s1.trans s2)
end
end My
namespace L2
open PySem PySem.Spec PyProof.Rows PySem.GX
theorem del_same_of (H : Hp) (p : Addr) : Same (del H p) H := fun b o e => by
  by_cases hb : b = p
  · rw [hb, del_same] at e; cases e
  · rw [del_ne hb] at e
    exact e
/-- the new list D holds new lists with these rows; all that was in H1 stands -/
structure Pr (H1 : Hp) (D : Addr) (H' : Hp) (rs : List (List Str)) : Prop where
  ex : ∃ as : List Addr, Same H1 H' ∧ H' D = some (.lst (as.map V.ref)) ∧ Rw (del H' D) as rs
section
variable {H1 H' H'' : Hp} {D p : Addr} {rs : List (List Str)} {r : List Str}
theorem Pr.zero (hD : H1 D = none) : Pr H1 D (upd H1 D (.lst [])) [] := ⟨[], same_new hD, upd_same, .nil⟩
theorem Pr.keeps (h : Pr H1 D H' rs) : Same H1 H' := let ⟨_, s, _, _⟩ := h.ex; s
theorem Pr.same (h : Pr H1 D H' rs) (s : Same H' H'') : Pr H1 D H'' rs := by
  obtain ⟨as, s1, e, t⟩ := h.ex
  exact ⟨as, s1.trans s, s _ _ e, t.same (same_del s)⟩
theorem Pr.push (h : Pr H1 D H' rs) (hD : H1 D = none) (hp : H' p = none) (hl : rs.length < 16000000) :
    ∃ acc, (upd H' p (.lst (r.map V.str))) D = some (.lst acc) ∧ acc.length < sizeLine ∧ Pr H1 D (upd (upd H' p (.lst (r.map V.str))) D (.lst (acc ++ [.ref p]))) (rs ++ [r]) := by
  obtain ⟨as, s1, e, t⟩ := h.ex
  have ne : D ≠ p := ne_of_none e hp
  refine ⟨as.map V.ref, by rw [upd_ne ne]; exact e, ?_, ⟨as ++ [p], fun b o z => ?_, ?_, ?_⟩⟩
  · rw [List.length_map, t.len, sizeLine_eq]
    omega
  · rw [upd_ne (ne_of_none z hD), upd_ne (ne_of_none (s1 _ _ z) hp)]
    exact s1 _ _ z
  · rw [upd_same, List.map_append]
    rfl
  · rw [del_upd]
    refine Rw.snoc ?_ (t.same (same_del (same_new hp)))
    rw [del_ne ne.symm, upd_same]
theorem Pr.rw_ (h : Pr H1 D H' rs) : ∃ as : List Addr, Same H1 H' ∧ H' D = some (.lst (as.map V.ref)) ∧ Rw H' as rs := by
  obtain ⟨as, s1, e, t⟩ := h.ex
  exact ⟨as, s1, e, t.same (del_same_of _ _)⟩
end
theorem cut_to (ws : List Str) (n : Nat) (hn : n < 2 ^ 62) : cutV (ws.map V.str) none (some (n : Int)) = (ws.take n).map V.str := by
  unfold cutV
  have e0 : HT.sIx (ws.map V.str).length 0 none = 0 := rfl
  have e1 : HT.sIx (ws.map V.str).length (ws.map V.str).length (some (n : Int)) = min n (ws.map V.str).length := by
    unfold HT.sIx
    simp
    omega
  rw [e0, e1, List.drop_zero, Nat.sub_zero, List.map_take]
  apply List.ext_getElem?
  intro i
  simp only [List.getElem?_take]
  by_cases h : i < n
  · by_cases h2 : i < (ws.map V.str).length
    · rw [if_pos h, if_pos (by omega)]
    · rw [if_pos h, if_neg (by omega), List.getElem?_eq_none (by omega)]
  · rw [if_neg h, if_neg (by omega)]
theorem cut_fromV (xs : List V) (n : Nat) (hn : n < 2 ^ 62) : cutV xs (some (n : Int)) none = xs.drop n := by
  unfold cutV
  have e1 : HT.sIx xs.length xs.length none = xs.length := rfl
  have e0 : HT.sIx xs.length 0 (some (n : Int)) = min n xs.length := by
    unfold HT.sIx
    simp
    omega
  rw [e0, e1]
  apply List.ext_getElem?
  intro i
  simp only [List.getElem?_take, List.getElem?_drop]
  by_cases h : i < xs.length - min n xs.length
  · rw [if_pos h]
    congr 1
    omega
  · rw [if_neg h, List.getElem?_eq_none (by omega)]
theorem cut_toV (xs : List V) (n : Nat) (hn : n < 2 ^ 62) : cutV xs none (some (n : Int)) = xs.take n := by
  unfold cutV
  have e0 : HT.sIx xs.length 0 none = 0 := rfl
  have e1 : HT.sIx xs.length xs.length (some (n : Int)) = min n xs.length := by
    unfold HT.sIx
    simp
    omega
  rw [e0, e1, List.drop_zero, Nat.sub_zero]
  apply List.ext_getElem?
  intro i
  simp only [List.getElem?_take]
  by_cases h : i < n
  · by_cases h2 : i < xs.length
    · rw [if_pos h, if_pos (by omega)]
    · rw [if_pos h, if_neg (by omega), List.getElem?_eq_none (by omega)]
  · rw [if_neg h, if_neg (by omega)]
end L2
namespace My
open PySem PySem.Spec PyProof.Rows L2 PySem.GX
/-- the beginnings of the rows of goals, in their order -/
def pairsL (x : Str) (ms : List Str) : List (List Str) := ms.flatMap fun m => x.cps.toList.map fun c => [m, sg c]
def rowOkL (ms : List Str) (r : List Str) : Bool := decide (r.length = 3) && decide (r.getD 2 Str.empty ∈ ms)
def goalsOkL (x : Str) (ms : List Str) (rs : List (List Str)) : Bool := decide (rs.map (List.take 2) = pairsL x ms) && rs.all (rowOkL ms)
/-- the dict that the rows write -/
def goalsD (rs : List (List Str)) : List (List Key × V) := dOf (fun r => [Sum.inr (r.getD 0 Str.empty), Sum.inr (r.getD 1 Str.empty)]) (fun r => V.str (r.getD 2 Str.empty)) rs
def spGoals : Sp := fun vs H Q _ => ∃ (x : Str) (m l : Addr) (ms : List Str) (as : List Addr) (rs : List (List Str)), vs = [.str x, .ref m, .ref l] ∧ H m = some (.lst (ms.map V.str)) ∧ H l = some (.lst (as.map V.ref)) ∧ Rw H as rs ∧
  x.length ≤ 3 ∧ ms.length ≤ 300 ∧ rs.length ≤ 16000000 ∧ PyData.strOk x = true ∧ (∀ y ∈ ms, PyData.strOk y = true) ∧ (∀ r ∈ rs, ∀ y ∈ r, PyData.strOk y = true) ∧
  (goalsOkL x ms rs = false → ∀ H', Same H H' → Q .non H') ∧ (goalsOkL x ms rs = true → ∀ D H', H D = none → Same H H' → H' D = some (.dT (goalsD rs)) → Q (.ref D) H')
theorem pairs_take {x : Str} {ms : List Str} {i : Nat} {m : Str} (h : ms[i]? = some m) : pairsL x (ms.take (i + 1)) = pairsL x (ms.take i) ++ x.cps.toList.map fun c => [m, sg c] := by
  unfold pairsL
  rw [List.take_add_one, h, List.flatMap_append]
  simp
theorem pairs_len (x : Str) (ms : List Str) : (pairsL x ms).length = ms.length * x.length := by
  unfold pairsL
  induction ms with
  | nil => simp
  | cons m t ih =>
    rw [List.flatMap_cons, List.length_append, ih, List.length_map, Array.length_toList, List.length_cons, Nat.succ_mul]
    show x.length + _ = _
    omega
theorem pairs_ok {x : Str} {ms : List Str} (hx : PyData.strOk x = true) (hm : ∀ y ∈ ms, PyData.strOk y = true) : ∀ r ∈ pairsL x ms, ∀ y ∈ r, PyData.strOk y = true := by
  intro r hr y hy
  unfold pairsL at hr
  obtain ⟨m, h1, h2⟩ := List.mem_flatMap.mp hr
  obtain ⟨c, h3, rfl⟩ := List.mem_map.mp h2
  simp at hy
  rcases hy with rfl | rfl
  · exact hm _ h1
  · unfold PyData.strOk at hx ⊢
    rw [Array.all_eq_true_iff_forall_mem] at hx
    have := hx c (by simpa using h3)
    simpa using this
def rLenK (K : PySem.W.Frag) : List V → Hp → VK → Prop := fun xs H Q => ∃ p ys, xs = [.ref p] ∧ (SqL K H p ys ∨ SqT K H p ys) ∧ Q (.int ys.length) H
section
variable {P : Program} {w : World} {K : PySem.W.Frag} {mg : Str → Option Value} {base : Heap}
abbrev nGoals : List Str := ["signs", "moods", "rows", "known", "mood", "row", "sign", "goal"]
theorem scGoals : FnScope nGoals ["signs", "moods", "rows"] (defScope sGoals) := ⟨rfl, rfl, rfl, by decide +kernel, rfl, by decide +kernel, by decide +kernel⟩
theorem ok_goals {f : Addr} {fd : FuncData} (F : Fun K "read_goals" "read_goals" sGoals f fd) (hL : mg "len" = none) (hA : mg "all" = none) : FnOk P w K mg base CX0 1 f fd ["signs", "moods", "rows"] spGoals := by
  refine F.ok scGoals (fun vs H Q E h => ?_) (fun cdv A outer s H vs Q E hr h => ?_)
  · obtain ⟨x, m, l, ms, as, rs, rfl, _⟩ := h
    rfl
  · obtain ⟨x, m, l, ms, as, rs, rfl, hm, hl, hR, z1, z2, z3, o1, o2, o3, kN, kY⟩ := h
    refine ⟨_, pss_cons (ps_set (i := 3) scGoals.nd rfl (Or.inr rfl) (pe_dc (own := [("mood", 4)]) (g := gName 4) (tt := tYes) rfl scGoals.nd (pi_list (pv 1))
          (blkOk_by (N := nGoals) (sc := defScope sGoals) (by decide +kernel)) (fun _ _ _ _ _ => pg_name (i := 4) scGoals.nd rfl (Or.inl rfl)) (fun _ _ _ _ _ => pts_nil) (fun _ _ _ _ _ => pv 4) (fun _ _ _ _ _ => pe_bl)))
      (pss_cons (ps_if (pt_cmpR (op_neD hr.units) (pe_lc (own := [("row", 5)]) (g := gName 5) (tt := tYes) rfl scGoals.nd (pi_list (pv 2))
            (blkOk_by (N := nGoals) (sc := defScope sGoals) (by decide +kernel)) (fun _ _ _ _ _ => pg_name (i := 5) scGoals.nd rfl (Or.inl rfl)) (fun _ _ _ _ _ => pts_nil) (te := tSl (rSlL K) (tVar 5) tNoPart (tPart (tC (.int 2)))) (fun _ _ _ _ _ => pe_slice sl_list (pv 5) po_none (po_some pe_int)))
          (pe_lc2 (own := [("mood", 4), ("sign", 6)]) (vs1 := [6]) (g := gName 4) (tt := tYes) (g1 := gName 6) (tt1 := tYes) rfl scGoals.nd (pi_list (pv 1)) (blkOk_by (N := nGoals) (sc := defScope sGoals) (by decide +kernel)) (by decide)
            (fun _ _ _ _ _ => pg_name (i := 4) scGoals.nd rfl (Or.inl rfl)) (fun _ _ _ _ _ => pts_nil) (fun _ _ _ _ _ => pi_str (pv 0)) (fun _ _ _ _ _ => pg_name (i := 6) scGoals.nd rfl (Or.inl rfl)) (fun _ _ _ _ _ => pts_nil) (fun _ _ _ _ _ => pe_lst (pa_cons (pv 4) (pa_cons (pv 6) pa_nil)))) (nomark _))
        (pss_one (ps_ret pe_non)) pss_nil)
      (pss_cons (ps_if (pt_not (pt_val (pe_callB (cr_all rfl) (by rfl) hA (by decide +kernel) (pa_cons (pe_lc (own := [("row", 5)]) (g := gName 5) (tt := tYes) rfl scGoals.nd (pi_list (pv 2))
            (blkOk_by (N := nGoals) (sc := defScope sGoals) (by decide +kernel)) (fun _ _ _ _ _ => pg_name (i := 5) scGoals.nd rfl (Or.inl rfl)) (fun _ _ _ _ _ => pts_nil)
            (te := tAndV (tOp rEq (tCB (rLenK K) (tCons (tVar 5) tNil)) (tC (.int 3))) (tDIn (tOp (rIxL K) (tVar 5) (tC (.int 2))) (tVar 3))) (fun _ _ _ _ _ => pe_and (pe_cmpR op_eq (pe_callB call_len_seq (by rfl) hL PySem.boot_len (pa_cons (pv 5) pa_nil)) pe_int (nomark _)) (pe_one (pe_cmp (pc_din (hu_of hr) (pe_ix ix_list (pv 5) pe_int (fun _ _ => rfl)) (pv 3)) rfl)))) pa_nil))))
        (pss_one (ps_ret pe_non)) pss_nil)
      (pss_one (ps_ret (pe_dcT (own := [("mood", 4), ("sign", 6), ("goal", 7)]) (g := gUnl K 3 (gCons (gName 4) (gCons (gName 6) (gCons (gName 7) gNil)))) (tt := tYes) hr.units rfl scGoals.nd (pi_list (pv 2)) (blkOk_by (N := nGoals) (sc := defScope sGoals) (by decide +kernel))
            (fun _ _ _ _ _ => pg_unl (n := 3) rfl (pgs_cons (pg_name (i := 4) scGoals.nd rfl (Or.inl rfl)) (pgs_cons (pg_name (i := 6) scGoals.nd rfl (Or.inl rfl)) (pgs_cons (pg_name (i := 7) scGoals.nd rfl (Or.inl rfl)) pgs_nil))))
            (fun _ _ _ _ _ => pts_nil) (fun _ _ _ _ _ => pe_tup (pa_cons (pv 4) (pa_cons (pv 6) pa_nil))) (fun _ _ _ _ _ => pv 7)))))), ?_⟩
    refine ⟨_, rfl, m, rfl, ⟨_, SqL.of hm⟩, fun D0 hD0 => ?_⟩
    refine dcG ms (fun x => (Sum.inr x : Key)) (fun _ => V.bl true) (walk_listL ms V.str) (by omega) hD0 (yat_same _) (fun H' s => SqL.of (s _ _ hm)) (fun i x y H' H'' k1 k0 hx s1 hy k2 => ?_) (fun H1 s1 e1 => ?_)
    · obtain ⟨rfl, hy⟩ := hy
      obtain rfl := map_get hx hy
      exact ⟨rfl, _, rfl, k2 _ (Same.refl _)⟩
    have hl1 := s1 _ _ hl
    have hR1 := hR.same s1
    -- the beginnings of the rows
    refine ⟨_, rfl, l, rfl, ⟨_, SqL.of hl1⟩, fun D1 hD1 => ?_⟩
    refine lc_it (walk_listL as V.ref) (fun i H' => Pr H1 D1 H' ((rs.map (List.take 2)).take i)) (Pr.zero hD1) (fun i H' _ h => SqL.of (h.keeps _ _ hl1)) (fun i y H' H'' hi h hy => ?_) (fun H2 h2 => ?_)
    · obtain ⟨rfl, hy⟩ := hy
      have ha : as[i]? = some as[i] := List.getElem?_eq_getElem hi
      obtain rfl := map_get ha hy
      have hi' : i < rs.length := by rw [← hR.len]; exact hi
      have hr' : rs[i]? = some rs[i] := List.getElem?_eq_getElem hi'
      have et : (rs.map (List.take 2)).take (i + 1) = (rs.map (List.take 2)).take i ++ [rs[i].take 2] := by
        rw [List.take_add_one, List.getElem?_map, hr']
        rfl
      refine ⟨rfl, _, rfl, 2, rfl, as[i], _, rfl, SqL.of (h.keeps _ _ (hR1.get ha hr')), fun p hp => ?_⟩
      rw [et, show (2 : Int) = ((2 : Nat) : Int) from rfl, cut_to _ 2 (by decide)]
      exact h.push hD1 hp (by rw [List.length_take, List.length_map]; omega)
    have s2 := h2.keeps
    have hm2 := s2 _ _ (s1 _ _ hm)
    -- what they must be
    refine ⟨_, rfl, m, rfl, ⟨_, SqL.of hm2⟩, fun D2 hD2 => ?_⟩
    refine dc_it (walk_listL ms V.str) (nx := fun i H' => Pr H2 D2 H' (pairsL x (ms.take i))) (Pr.zero hD2) (fun i H' _ h => SqL.of (h.keeps _ _ hm2)) (fun i y H' H'' hi h hy => ?_) (fun H3 h3 => ?_)
    · obtain ⟨rfl, hy⟩ := hy
      have ha : ms[i]? = some ms[i] := List.getElem?_eq_getElem hi
      obtain rfl := map_get ha hy
      refine ⟨rfl, _, rfl, x, rfl, ?_⟩
      refine dc_it walk_str (nx := fun j H' => Pr H2 D2 H' (pairsL x (ms.take i) ++ (x.cps.toList.take j).map fun c => [ms[i], sg c])) (by rw [List.take_zero, List.map_nil, List.append_nil]; exact h) (fun _ _ _ _ => trivial) (fun j y H4 H5 hj h4 hy => ?_) (fun H4 h4 => ?_)
      · obtain ⟨rfl, c, hc, rfl⟩ := hy
        have et : (x.cps.toList.take (j + 1)).map (fun c => [ms[i], sg c]) = (x.cps.toList.take j).map (fun c => [ms[i], sg c]) ++ [[ms[i], sg c]] := by
          rw [List.take_add_one, Array.getElem?_toList, hc, List.map_append]
          rfl
        refine ⟨rfl, _, rfl, _, rfl, (by show 2 ≤ sizeLine; decide), fun p hp => ?_⟩
        rw [et, ← List.append_assoc]
        refine h4.push (r := [ms[i], sg c]) hD2 hp ?_
        have a1 : (pairsL x (ms.take i)).length ≤ 900 := by
          rw [pairs_len, List.length_take]
          exact Nat.le_trans (Nat.mul_le_mul (by omega : min i ms.length ≤ 300) z1) (by decide)
        have a2 : ((x.cps.toList.take j).map fun c => [ms[i], sg c]).length ≤ j := by
          rw [List.length_map, List.length_take]
          omega
        have z5 : x.cps.size ≤ 3 := z1
        rw [List.length_append]
        omega
      · show Pr H2 D2 H4 _
        rw [pairs_take ha]
        have : x.cps.toList.take x.cps.size = x.cps.toList := by rw [← Array.length_toList, List.take_length]
        rw [this] at h4
        exact h4
    rw [List.take_length] at h3
    have h2' := h2
    rw [hR.len, ← List.length_map (f := List.take 2), List.take_length] at h2'
    obtain ⟨bs, sb, eb, rb⟩ := (h2'.same h3.keeps).rw_
    obtain ⟨cs, sc, ec, rc⟩ := h3.rw_
    have s3 := (s1.trans s2).trans h3.keeps
    refine ⟨dTab (rs.map (List.take 2)), dTab (pairsL x ms), dp_dTab eb rb, dp_dTab ec rc, shaped_dTab (fun r hr y hy => ?_), shaped_dTab (pairs_ok o1 o2), _, rfl, ?_⟩
    · obtain ⟨r', h1, rfl⟩ := List.mem_map.mp hr
      exact o3 r' h1 y (List.mem_of_mem_take hy)
    rw [eqv_dTab]
    refine ite2 (fun c => ?_) (fun c => ?_)
    · refine kN ?_ _ s3
      unfold goalsOkL
      have : decide (rs.map (List.take 2) = pairsL x ms) = false := by simpa using c
      rw [this]
      rfl
    have ep : rs.map (List.take 2) = pairsL x ms := by simpa using c
    have hl3 := s3 _ _ hl
    have hR3 := hR.same s3
    have e3 := h3.keeps _ _ (s2 _ _ e1)
    refine ⟨_, rfl, l, rfl, ⟨_, SqL.of hl3⟩, fun D3 hD3 => ?_⟩
    refine lcG (as.zip rs) (fun ar => some (.bl (rowOkL ms ar.2))) (by rw [List.length_zip, ← hR.len, Nat.min_self]; exact walk_listL as V.ref) (by rw [List.length_zip]; omega) hD3 (yat_same _) (fun H' s => SqL.of (s _ _ hl3)) (fun i ar y H' H'' k1 hz sz hy k2 => ?_) (fun H4 s4 e4 => ?_)
    · obtain ⟨rfl, hy⟩ := hy
      rw [List.getElem?_zip_eq_some] at hz
      obtain rfl := map_get hz.1 hy
      have hrow := sz _ _ (hR3.get hz.1 hz.2)
      have kk := k2 _ (Same.refl _)
      refine ⟨rfl, _, rfl, ar.1, _, rfl, .inl (SqL.of hrow), rfl, _, rfl, ?_⟩
      rw [List.length_map, dec_int]
      have ed : ((ar.2.length : Int) == 3) = decide (ar.2.length = 3) := by
        by_cases hc : ar.2.length = 3
        · rw [hc]; rfl
        · rw [decide_eq_false hc]
          simp
          omega
      rw [ed]
      unfold rowOkL at kk
      refine ite2 (fun c3 => ?_) (fun c3 => ?_)
      · have h3' := of_decide_eq_true c3
        have hg : ar.2[2]? = some (ar.2.getD 2 Str.empty) := by
          rw [List.getD_eq_getElem?_getD, List.getElem?_eq_getElem (by omega)]
          rfl
        refine ⟨_, rfl, ar.1, _, _, V.str (ar.2.getD 2 Str.empty), rfl, rfl, SqL.of hrow, atI_nat (j := 2) (by rw [List.getElem?_map, hg]; rfl), _, rfl, D0, _, rfl, DGet.k (k := Sum.inr (ar.2.getD 2 Str.empty)) (sz _ _ e3), ?_⟩
        rw [dTrue_val]
        rw [c3, Bool.true_and] at kk
        exact kk
      · rw [Bool.eq_false_iff.mpr c3, Bool.false_and] at kk
        exact kk
    have ez : (as.zip rs).filterMap (fun ar => some (V.bl (rowOkL ms ar.2))) = (rs.map (rowOkL ms)).map V.bl := by
      rw [List.filterMap_eq_map', List.map_map]
      have : (as.zip rs).map Prod.snd = rs := List.map_snd_zip (by rw [hR.len]; exact Nat.le_refl _)
      conv => rhs; rw [← this, List.map_map]
      rfl
    rw [ez] at e4
    refine ⟨D3, _, rfl, SqL.of e4, _, rfl, ?_⟩
    have ea : (rs.map (rowOkL ms)).all id = rs.all (rowOkL ms) := by rw [List.all_map]; rfl
    rw [ea]
    have eg : goalsOkL x ms rs = rs.all (rowOkL ms) := by
      unfold goalsOkL
      rw [decide_eq_true ep, Bool.true_and]
    refine ite2 (fun c4 => ?_) (fun c4 => ?_)
    · refine kN ?_ _ (s3.trans s4)
      rw [eg]
      simpa using c4
    have c5 : rs.all (rowOkL ms) = true := by simpa using c4
    have hl4 := s4 _ _ hl3
    have hR4 := hR3.same s4
    refine ⟨_, rfl, l, rfl, ⟨_, SqL.of hl4⟩, fun D4 hD4 => ?_⟩
    refine dcGT (as.zip rs) (fun ar => [Sum.inr (ar.2.getD 0 Str.empty), Sum.inr (ar.2.getD 1 Str.empty)]) (fun ar => V.str (ar.2.getD 2 Str.empty)) (by rw [List.length_zip, ← hR.len, Nat.min_self]; exact walk_listL as V.ref) (by rw [List.length_zip]; omega) hD4 (yat_same _) (fun H' s => SqL.of (s _ _ hl4)) (fun i ar y H' H'' k1 k0 hz sz hy k2 => ?_) (fun H5 s5 e5 => ?_)
    · obtain ⟨rfl, hy⟩ := hy
      rw [List.getElem?_zip_eq_some] at hz
      obtain rfl := map_get hz.1 hy
      have hrow := sz _ _ (hR4.get hz.1 hz.2)
      have ok := List.all_eq_true.mp c5 ar.2 (List.mem_of_getElem? hz.2)
      unfold rowOkL at ok
      have h3' : ar.2.length = 3 := by simpa using (Bool.and_eq_true_iff.mp ok).1
      obtain ⟨u, v, z, huv⟩ : ∃ u v z, ar.2 = [u, v, z] := by
        match ar.2, h3' with
        | [u, v, z], _ => exact ⟨u, v, z, rfl⟩
      rw [huv] at hrow k2
      refine ⟨ar.1, _, rfl, SqL.of hrow, rfl, _, _, rfl, _, _, rfl, _, _, rfl, rfl, rfl, _, rfl, _, rfl, (by show 2 ≤ sizeLine; decide), fun t ht => ⟨_, rfl, k2 t _ (same_new ht) upd_same⟩⟩
    · refine kY (by rw [eg]; exact c5) D4 H5 ((s3.trans s4).free hD4) ((s3.trans s4).trans s5) ?_
      rw [e5]
      congr 2
      unfold goalsD dOf
      have : (as.zip rs).map Prod.snd = rs := List.map_snd_zip (by rw [hR.len]; exact Nat.le_refl _)
      conv => rhs; rw [← this, List.foldl_map]
end
end My
namespace My
open PySem PySem.Spec PyProof.Rows L2 PySem.GX
theorem join_mem (y : Str) : ∀ (parts : List Str) (p : Str), p ∈ parts → ∀ c ∈ p.cps.toList, c ∈ (Str.join y parts).cps.toList
  | [], _, h, _, _ => by simp at h
  | [x], p, h, c, hc => by
    simp at h; subst h
    exact hc
  | x :: z :: r, p, h, c, hc => by
    show c ∈ (x ++ y ++ Str.join y (z :: r)).cps.toList
    rw [cps_app, cps_app]
    simp only [List.mem_append]
    rcases List.mem_cons.mp h with rfl | h
    · exact .inl (.inl hc)
    · exact .inr (join_mem y (z :: r) p h c hc)
theorem ok_of_mem {x p : Str} (h : ∀ c ∈ p.cps.toList, c ∈ x.cps.toList) (ho : PyData.strOk x = true) : PyData.strOk p = true := by
  unfold PyData.strOk at ho ⊢
  rw [Array.all_eq_true_iff_forall_mem] at ho ⊢
  intro c hc
  exact ho c (by simpa using h c (by simpa using hc))
theorem split_ok {x y p : Str} (h : p ∈ Txt.split x y) (ho : PyData.strOk x = true) : PyData.strOk p = true := by
  refine ok_of_mem (fun c hc => ?_) ho
  have := join_mem y _ p h c hc
  rw [StrLaws.join_split] at this
  exact this
theorem mem_le_sum : ∀ {l : List Nat} {a : Nat}, a ∈ l → a ≤ l.sum
  | b :: t, a, h => by
    rw [List.sum_cons]
    rcases List.mem_cons.mp h with rfl | h
    · omega
    · have := mem_le_sum h
      omega
theorem split_small {x p : Str} {c : Nat} (h : p ∈ Txt.split x (sg c)) : p.length ≤ x.length := by
  have := split_weight x (sg c) (Nat.le_refl 1)
  have h1 := mem_le_sum (List.mem_map.mpr ⟨p, h, rfl⟩ : p.length ∈ (Txt.split x (sg c)).map (·.length))
  have h2 : 0 < (Txt.split x (sg c)).length := List.length_pos_of_mem h
  omega
theorem split_few (x : Str) (c : Nat) : (Txt.split x (sg c)).length ≤ x.length + 1 := by
  have := split_weight x (sg c) (Nat.le_refl 1)
  omega
theorem split_ne (x : Str) (c : Nat) : Txt.split x (sg c) ≠ [] := fun e => by
  have := split_len x c
  rw [e] at this
  simp at this
  have h : ∀ l : List Nat, 0 ≤ cnt c l := by
    intro l
    induction l with
    | nil => exact Int.le_refl 0
    | cons n t ih =>
      rw [cnt_cons]
      split <;> omega
  have := h x.cps.toList
  omega
end My
namespace My
open PySem PySem.Spec PyProof.Rows L2 PySem.GX
abbrev nl : Str := sg 10
abbrev sp : Str := sg 32
def rowsL (t : Str) : List (List Str) := (Txt.split t nl).map fun y => Txt.split y sp
abbrev titles : List Str := ["signs", "moods", "good"]
structure Parts where
  sg : Str
  ms : List Str
  gs : List Str
  rs : List (List Str)
/-- what a text writes, from its rows of words -/
def partsL : List (List Str) → Option Parts
  | (t0 :: s0) :: (t1 :: m0) :: (t2 :: g0) :: rs =>
    if [t0, t1, t2] = titles ∧ areSignsL s0 = true ∧ areMoodsL m0 = true ∧ areGoodL g0 m0 = true ∧ goalsOkL (s0.getD 0 Str.empty) m0 rs = true then some ⟨s0.getD 0 Str.empty, m0, g0, rs⟩ else none
  | _ => none
def parseL (t : Str) : Option Parts := partsL (rowsL t)
/-- the parts stand as the tuple T -/
def PartsAt (H : Hp) (T : Addr) (p : Parts) : Prop := ∃ M G D, H T = some (.tup [.str p.sg, .ref M, .ref G, .ref D]) ∧ H M = some (.tup (p.ms.map V.str)) ∧ H G = some (.tup (p.gs.map V.str)) ∧ H D = some (.dT (goalsD p.rs))
def spRead : Sp := fun vs H Q _ => ∃ t : Str, vs = [.str t] ∧ t.length ≤ 1000000 ∧ PyData.strOk t = true ∧ (parseL t = none → ∀ H', Same H H' → Q .non H') ∧ ∀ p, parseL t = some p → ∀ T H', Same H H' → PartsAt H' T p → Q (.ref T) H'
theorem rows_ne {t : Str} : ∀ r ∈ rowsL t, r ≠ [] := fun r hr => by
  obtain ⟨y, _, rfl⟩ := List.mem_map.mp hr
  exact split_ne y 32
theorem rows_ok {t : Str} (ht : PyData.strOk t = true) : ∀ r ∈ rowsL t, ∀ y ∈ r, PyData.strOk y = true := fun r hr y hy => by
  obtain ⟨z, hz, rfl⟩ := List.mem_map.mp hr
  exact split_ok hy (split_ok hz ht)
theorem rows_small {t : Str} : ∀ r ∈ rowsL t, r.length ≤ t.length + 1 ∧ ∀ y ∈ r, y.length ≤ t.length := fun r hr => by
  obtain ⟨z, hz, rfl⟩ := List.mem_map.mp hr
  have h1 := split_small hz
  have h2 : (Txt.split z sp).length ≤ z.length + 1 := split_few z 32
  exact ⟨by omega, fun y hy => Nat.le_trans (split_small hy) h1⟩
theorem rows_few (t : Str) : (rowsL t).length ≤ t.length + 1 := by
  unfold rowsL
  rw [List.length_map]
  exact split_few t 10
theorem heads_is {rs : List (List Str)} (hne : ∀ r ∈ rs, r ≠ []) (h : (rs.take 3).map (fun r => r.headD Str.empty) = titles) : ∃ s0 m0 g0 rest, rs = (("signs" : Str) :: s0) :: (("moods" : Str) :: m0) :: (("good" : Str) :: g0) :: rest := by
  match rs, hne, h with
  | [], _, h => cases h
  | [_], _, h => simp at h
  | [_, _], _, h => simp at h
  | a :: b :: c :: rest, hne, h =>
    have na := hne a (by simp)
    have nb := hne b (by simp)
    have nc := hne c (by simp)
    obtain ⟨x, xs, rfl⟩ := List.exists_cons_of_ne_nil na
    obtain ⟨y, ys, rfl⟩ := List.exists_cons_of_ne_nil nb
    obtain ⟨z, zs, rfl⟩ := List.exists_cons_of_ne_nil nc
    have h' : [x, y, z] = titles := h
    injection h' with e1 h'
    injection h' with e2 h'
    injection h' with e3 h'
    subst e1 e2 e3
    exact ⟨xs, ys, zs, rest, rfl⟩
theorem parts_none {rs : List (List Str)} (h : ¬ (rs.take 3).map (fun r => r.headD Str.empty) = titles) : partsL rs = none := by
  unfold partsL
  split
  · rename_i t0 s0 t1 m0 t2 g0 rs'
    rw [if_neg]
    intro z
    exact h z.1
  · rfl
theorem parts_is (s0 m0 g0 : List Str) (rest : List (List Str)) : partsL ((("signs" : Str) :: s0) :: (("moods" : Str) :: m0) :: (("good" : Str) :: g0) :: rest) =
    if areSignsL s0 = true ∧ areMoodsL m0 = true ∧ areGoodL g0 m0 = true ∧ goalsOkL (s0.getD 0 Str.empty) m0 rest = true then some ⟨s0.getD 0 Str.empty, m0, g0, rest⟩ else none := by
  unfold partsL
  simp only [true_and]
theorem signs_one {s0 : List Str} (h : areSignsL s0 = true) : ∃ x, s0 = [x] ∧ x.length ≤ 3 := by
  match s0, h with
  | [x], h =>
    rw [areS1] at h
    simp only [Bool.and_eq_true] at h
    exact ⟨x, rfl, of_decide_eq_true h.1.1.2⟩
theorem moods_few {m0 : List Str} (h : areMoodsL m0 = true) : m0.length ≤ 300 := by
  unfold areMoodsL at h
  simp only [Bool.and_eq_true] at h
  exact of_decide_eq_true h.1.1.2
section
variable {P : Program} {w : World} {K : PySem.W.Frag} {mg : Str → Option Value} {base : Heap}
abbrev nRead : List Str := ["text", "rows", "signs", "moods", "good", "goals", "line", "row"]
theorem scRead : FnScope nRead ["text"] (defScope sRead) := ⟨rfl, rfl, rfl, by decide +kernel, rfl, by decide +kernel, by decide +kernel⟩
theorem ok_read {f tT : Addr} {fd : FuncData} (F : Fun K "read_rule" "read_rule" sRead f fd) (h1 : Hv P w K mg base 2 "are_signs" ["words"] (spSigns K)) (h2 : Hv P w K mg base 3 "are_moods" ["words"] (spMoods K)) (h3 : Hv P w K mg base 1 "are_good" ["words", "moods"] (spGood K))
    (h4 : Hv P w K mg base 1 "read_goals" ["signs", "moods", "rows"] spGoals) (gT : mg "TITLES" = some (.ref tT)) (kT : ∀ H, SqT K H tT (titles.map V.str)) (hLi : mg "list" = none) (hTu : mg "tuple" = none) : FnOk P w K mg base CX0 4 f fd ["text"] spRead := by
  refine F.ok scRead (fun vs H Q E h => ?_) (fun cdv A outer s H vs Q E hr h => ?_)
  · obtain ⟨t, rfl, _⟩ := h
    rfl
  · obtain ⟨t, rfl, zt, ot, kN, kY⟩ := h
    refine ⟨_, pss_cons (ps_setLc (i := 1) (own := [("line", 6)]) (g := gName 6) (tt := tYes) rfl scRead.nd rfl rfl (sw_true rfl rfl rfl (by decide +kernel)) (pi_list (pe_split (pv 0) pe_str))
          (blkOk_by (N := nRead) (sc := defScope sRead) (by decide +kernel)) (fun _ _ _ _ _ => pg_name (i := 6) scRead.nd rfl (Or.inl rfl)) (fun _ _ _ _ _ => pts_nil) (fun _ _ _ _ _ => pe_split (pv 6) pe_str))
      (pss_cons (ps_if (pt_cmpR (op_neD hr.units) (pe_lc (own := [("row", 7)]) (g := gName 7) (tt := tYes) rfl scRead.nd (pi_list (pe_slice sl_list (pv 1) po_none (po_some pe_int)))
            (blkOk_by (N := nRead) (sc := defScope sRead) (by decide +kernel)) (fun _ _ _ _ _ => pg_name (i := 7) scRead.nd rfl (Or.inl rfl)) (fun _ _ _ _ _ => pts_nil) (te := tOp (rIxL K) (tVar 7) (tC (.int 0))) (fun _ _ _ _ _ => pe_ix ix_list (pv 7) pe_int (fun _ _ => rfl)))
          (pe_callTy call_list_of (by rfl) hLi (by decide +kernel) (pa_cons (pe_glob (v := .ref tT) rfl gT rfl) pa_nil)) (nomark _))
        (pss_one (ps_ret pe_non)) pss_nil)
      (pss_cons (ps_asg (pe_lc (own := [("row", 7)]) (g := gName 7) (tt := tYes) rfl scRead.nd (pi_list (pe_slice sl_list (pv 1) po_none (po_some pe_int)))
            (blkOk_by (N := nRead) (sc := defScope sRead) (by decide +kernel)) (fun _ _ _ _ _ => pg_name (i := 7) scRead.nd rfl (Or.inl rfl)) (fun _ _ _ _ _ => pts_nil) (te := tSl (rSlL K) (tVar 7) (tPart (tC (.int 1))) tNoPart) (fun _ _ _ _ _ => pe_slice sl_list (pv 7) (po_some pe_int) po_none))
          (pg_unl (n := 3) rfl (pgs_cons (pg_name (i := 2) scRead.nd rfl (Or.inl rfl)) (pgs_cons (pg_name (i := 3) scRead.nd rfl (Or.inl rfl)) (pgs_cons (pg_name (i := 4) scRead.nd rfl (Or.inl rfl)) pgs_nil)))))
      (pss_cons (ps_if (pt_not (PW.pt (pw_and (pt_val (pe_cl h1 (hr.mono (by decide)) rfl pass0 (pa_cons (pv 2) pa_nil))) (pw_and (pt_val (pe_cl h2 hr rfl pass0 (pa_cons (pv 3) pa_nil))) (pw_and1 (pt_val (pe_cl h3 (hr.mono (by decide)) rfl pass0 (pa_cons (pv 4) (pa_cons (pv 3) pa_nil)))))))))
        (pss_one (ps_ret pe_non)) pss_nil)
      (pss_cons (ps_set (i := 5) scRead.nd rfl (Or.inl rfl) (pe_cl h4 (hr.mono (by decide)) rfl pass0 (pa_cons (pe_ix ix_list (pv 2) pe_int (fun _ _ => rfl)) (pa_cons (pv 3) (pa_cons (pe_slice sl_list (pv 1) (po_some pe_int) po_none) pa_nil)))))
      (pss_cons (ps_if (pt_cmpR op_isN (pv 5) pe_non (nomark _)) (pss_one (ps_ret pe_non)) pss_nil)
      (pss_one (ps_ret (pe_tup (pa_cons (pe_ix ix_list (pv 2) pe_int (fun _ _ => rfl)) (pa_cons (pe_callTy call_tuple_of (by rfl) hTu (by decide +kernel) (pa_cons (pv 3) pa_nil)) (pa_cons (pe_callTy call_tuple_of (by rfl) hTu (by decide +kernel) (pa_cons (pv 4) pa_nil)) (pa_cons (pv 5) pa_nil)))))))))))), ?_⟩
    have enl : (Str.ofString "\n") = nl := by decide +kernel
    have esp : (Str.ofString " ") = sp := by decide +kernel
    have z0 : t.length + 2 ≤ sizeLine := by rw [sizeLine_eq]; omega
    refine ⟨_, rfl, ⟨_, rfl⟩, t, _, rfl, rfl, rfl, z0, fun p0 hp0 => ⟨p0, rfl, ⟨_, SqL.of upd_same⟩, fun D0 hD0 => ?_⟩⟩
    rw [enl] at hD0 ⊢
    have hl0 : upd H p0 (.lst ((Txt.split t nl).map V.str)) p0 = some (.lst ((Txt.split t nl).map V.str)) := upd_same
    generalize eH0 : upd H p0 (.lst ((Txt.split t nl).map V.str)) = H0 at hD0 hl0 ⊢
    have s0 : Same H H0 := by rw [← eH0]; exact same_new hp0
    refine lc_it (walk_listL (Txt.split t nl) V.str) (fun i H' => Pr H0 D0 H' ((rowsL t).take i)) (Pr.zero hD0) (fun i H' _ h => SqL.of (h.keeps _ _ hl0)) (fun i y H' H'' hi h hy => ?_) (fun H1 g1 => ?_)
    · obtain ⟨rfl, hy⟩ := hy
      have ha : (Txt.split t nl)[i]? = some (Txt.split t nl)[i] := List.getElem?_eq_getElem hi
      obtain rfl := map_get ha hy
      have et : (rowsL t).take (i + 1) = (rowsL t).take i ++ [Txt.split (Txt.split t nl)[i] sp] := by
        unfold rowsL
        rw [List.take_add_one, List.getElem?_map, ha]
        rfl
      have zl := split_small (List.getElem_mem hi)
      refine ⟨rfl, _, rfl, ⟨_, rfl⟩, _, _, rfl, rfl, rfl, (by rw [sizeLine_eq]; omega), fun p hp => ?_⟩
      rw [et, esp]
      refine h.push hD0 hp ?_
      have := rows_few t
      rw [List.length_take]
      omega
    have g1' : Pr H0 D0 H1 (rowsL t) := by
      have : (rowsL t).take (Txt.split t nl).length = rowsL t := by
        have e : (Txt.split t nl).length = (rowsL t).length := by unfold rowsL; rw [List.length_map]
        rw [e, List.take_length]
      rw [this] at g1
      exact g1
    obtain ⟨as, s1', eD0, rw0⟩ := g1'.rw_
    have s1 := s0.trans s1'
    have nes := rows_ne (t := t)
    have oks := rows_ok (t := t) ot
    have sms := rows_small (t := t)
    have few := rows_few t
    generalize eR : rowsL t = rs at rw0 nes oks sms few
    have ep : parseL t = partsL rs := by rw [← eR]; rfl
    rw [ep] at kN kY
    clear g1 g1' ep eR
    have len := rw0.len
    -- the titles
    have ecut : cutV (as.map V.ref) none (some 3) = (as.take 3).map V.ref := by
      rw [show (3 : Int) = ((3 : Nat) : Int) from rfl, cut_toV _ 3 (by decide), List.map_take]
    refine ⟨_, rfl, 3, rfl, D0, _, rfl, SqL.of eD0, fun p3 hp3 => ⟨p3, rfl, ⟨_, SqL.of upd_same⟩, fun D1 hD1 => ?_⟩⟩
    rw [ecut] at hD1 ⊢
    have hl3 : upd H1 p3 (.lst ((as.take 3).map V.ref)) p3 = some (.lst ((as.take 3).map V.ref)) := upd_same
    generalize eH2 : upd H1 p3 (.lst ((as.take 3).map V.ref)) = H2 at hD1 hl3 ⊢
    have s2' : Same H1 H2 := by rw [← eH2]; exact same_new hp3
    have rw3 := (rw0.take 3).same s2'
    refine lcG ((as.take 3).zip (rs.take 3)) (fun ar => some (.str (ar.2.headD Str.empty))) (by rw [List.length_zip, ← rw3.len, Nat.min_self]; exact walk_listL (as.take 3) V.ref) (by rw [List.length_zip, List.length_take]; omega) hD1 (yat_same _) (fun H' s => SqL.of (s _ _ hl3)) (fun i ar y H' H'' k1 hz sz hy k2 => ?_) (fun H3 s3 e3 => ?_)
    · obtain ⟨rfl, hy⟩ := hy
      rw [List.getElem?_zip_eq_some] at hz
      obtain rfl := map_get hz.1 hy
      have hrow := sz _ _ (rw3.get hz.1 hz.2)
      have nr := nes ar.2 (List.mem_of_mem_take (List.mem_of_getElem? hz.2))
      obtain ⟨u, us, e⟩ := List.exists_cons_of_ne_nil nr
      rw [e] at hrow k2
      exact ⟨rfl, _, rfl, ar.1, _, _, _, rfl, rfl, SqL.of hrow, atI_nat (j := 0) rfl, k2 _ (Same.refl _)⟩
    have ez : ((as.take 3).zip (rs.take 3)).filterMap (fun ar => some (V.str (ar.2.headD Str.empty))) = ((rs.take 3).map (fun r => r.headD Str.empty)).map V.str := by
      rw [List.filterMap_eq_map', List.map_map]
      have : ((as.take 3).zip (rs.take 3)).map Prod.snd = rs.take 3 := List.map_snd_zip (by rw [rw3.len]; exact Nat.le_refl _)
      conv => rhs; rw [← this, List.map_map]
      rfl
    rw [ez] at e3
    refine ⟨tT, _, rfl, .inr (kT _), fun l4 hl4 => ?_⟩
    have s4 := ((s1.trans s2').trans s3).trans (same_new (o := .lst (titles.map V.str)) hl4)
    refine ⟨dTx _, dTx titles, dp_dTx (keep1 e3 hl4), dp_dTx upd_same, shaped_dTx (fun x hx => ?_), (by decide +kernel), _, rfl, ?_⟩
    · obtain ⟨r, h1, rfl⟩ := List.mem_map.mp hx
      have h2 := List.mem_of_mem_take h1
      obtain ⟨u, us, rfl⟩ := List.exists_cons_of_ne_nil (nes r h2)
      exact oks _ h2 u (by simp)
    rw [eqv_dTx]
    refine ite2 (fun c => kN (parts_none (by simpa using c)) _ s4) (fun c => ?_)
    obtain ⟨s0', m0, g0, rest, rfl⟩ := heads_is nes (by simpa using c)
    rw [parts_is] at kN kY
    generalize eH4 : upd H3 l4 (.lst (titles.map V.str)) = H4 at s4 ⊢
    have s14 : Same H1 H4 := by
      rw [← eH4]
      exact (s2'.trans s3).trans (same_new hl4)
    have eD4 := s14 _ _ eD0
    have rw4 := rw0.same s14
    clear e3 rw3 ez hl3 eH2 hD1 hp3 hl4 eH4 s3 s2' c
    -- the three lists
    refine ⟨_, rfl, 3, rfl, D0, _, rfl, SqL.of eD4, fun p5 hp5 => ⟨p5, rfl, ⟨_, SqL.of upd_same⟩, fun D2 hD2 => ?_⟩⟩
    rw [ecut] at hD2 ⊢
    have hl5 : upd H4 p5 (.lst ((as.take 3).map V.ref)) p5 = some (.lst ((as.take 3).map V.ref)) := upd_same
    generalize eH5 : upd H4 p5 (.lst ((as.take 3).map V.ref)) = H5 at hD2 hl5 ⊢
    have s5' : Same H4 H5 := by rw [← eH5]; exact same_new hp5
    have rw5 := (rw4.take 3).same s5'
    refine lc_it (walk_listL (as.take 3) V.ref) (fun i H' => Pr H5 D2 H' ([s0', m0, g0].take i)) (Pr.zero hD2) (fun i H' _ h => SqL.of (h.keeps _ _ hl5)) (fun i y H' H'' hi h hy => ?_) (fun H6 g6 => ?_)
    · obtain ⟨rfl, hy⟩ := hy
      have ha : (as.take 3)[i]? = some (as.take 3)[i] := List.getElem?_eq_getElem hi
      obtain rfl := map_get ha hy
      have hi3 : i < 3 := by rw [List.length_take] at hi; omega
      have row : ∃ u us, [(("signs" : Str) :: s0'), (("moods" : Str) :: m0), (("good" : Str) :: g0)][i]? = some (u :: us) ∧ [s0', m0, g0][i]? = some us := by
        match i, hi3 with
        | 0, _ => exact ⟨_, _, rfl, rfl⟩
        | 1, _ => exact ⟨_, _, rfl, rfl⟩
        | 2, _ => exact ⟨_, _, rfl, rfl⟩
      obtain ⟨u, us, hu, hus⟩ := row
      refine ⟨rfl, _, rfl, 1, rfl, (as.take 3)[i], _, rfl, SqL.of (h.keeps _ _ (rw5.get ha hu)), fun p hp => ?_⟩
      rw [show (1 : Int) = ((1 : Nat) : Int) from rfl, cut_fromV _ 1 (by decide)]
      have et : [s0', m0, g0].take (i + 1) = [s0', m0, g0].take i ++ [us] := by
        rw [List.take_add_one, hus]
        rfl
      rw [et]
      exact h.push (r := us) hD2 hp (by rw [List.length_take]; simp; omega)
    have g6' : Pr H5 D2 H6 [s0', m0, g0] := by
      have : [s0', m0, g0].take (as.take 3).length = [s0', m0, g0] := by
        rw [List.length_take, len]
        simp
      rw [this] at g6
      exact g6
    obtain ⟨bs, s6', eD6, rw6⟩ := g6'.rw_
    have s6 := (s4.trans s5').trans s6'
    have s16 := (s14.trans s5').trans s6'
    have eR6 := s16 _ _ eD0
    have rr6 := rw0.same s16
    clear g6 g6' rw5 hl5 eH5 hD2 s6' s5' rw4 eD4 hp5
    cases rw6 with
    | cons e1 t1 =>
    cases t1 with
    | cons e2 t2 =>
    cases t2 with
    | cons e3 t3 =>
    cases t3
    rename_i a1 a2 a3
    refine ⟨D2, _, rfl, SqL.of eD6, rfl, _, _, rfl, _, _, rfl, _, _, rfl, rfl, ?_⟩
    have m1 := sms (("signs" : Str) :: s0') (by simp)
    have m2 := sms (("moods" : Str) :: m0) (by simp)
    have m3 := sms (("good" : Str) :: g0) (by simp)
    have o1 := oks (("signs" : Str) :: s0') (by simp)
    have o2 := oks (("moods" : Str) :: m0) (by simp)
    have o3 := oks (("good" : Str) :: g0) (by simp)
    simp only [List.length_cons] at m1 m2 m3
    refine ⟨_, rfl, a1, s0', rfl, e1, fun x hx => Nat.le_trans (m1.2 x (by simp [hx])) (by omega), fun H7 s7 => ⟨_, rfl, ite2 (fun c1 => ?_) (fun c1 => ?_)⟩⟩
    rotate_left
    · exact kN (by rw [if_neg (fun z => c1 z.1)]) _ (s6.trans s7)
    refine ⟨_, rfl, a2, m0, rfl, s7 _ _ e2, fun x hx => Nat.le_trans (m2.2 x (by simp [hx])) (by omega), fun H8 s8 => ⟨_, rfl, ite2 (fun c2 => ?_) (fun c2 => ?_)⟩⟩
    rotate_left
    · exact kN (by rw [if_neg (fun z => c2 z.2.1)]) _ ((s6.trans s7).trans s8)
    have s68 := s7.trans s8
    refine ⟨_, rfl, _, rfl, a3, a2, g0, m0, rfl, s68 _ _ e3, s68 _ _ e2, (by omega), (by omega), fun x hx => o3 x (by simp [hx]), fun x hx => o2 x (by simp [hx]), fun H9 s9 => ⟨_, rfl, ite2 (fun c3 => ?_) (fun c3 => ?_)⟩⟩
    · refine kN ?_ _ ((s6.trans s68).trans s9)
      rw [if_neg]
      intro z
      rw [z.2.2.1] at c3
      cases c3
    have c3' : areGoodL g0 m0 = true := by simpa using c3
    have s69 := s68.trans s9
    obtain ⟨x, rfl, zx⟩ := signs_one c1
    have zm := moods_few c2
    have rest9 := (rr6.same s69).drop 3
    refine ⟨_, rfl, a1, _, _, _, rfl, rfl, SqL.of (s69 _ _ e1), atI_nat (j := 0) rfl, _, rfl, _, rfl, 3, rfl, D0, _, rfl, SqL.of (s69 _ _ eR6), fun p7 hp7 => ?_⟩
    rw [show (3 : Int) = ((3 : Nat) : Int) from rfl, cut_fromV _ 3 (by decide), ← List.map_drop]
    have s10 := s69.trans (same_new (o := .lst ((as.drop 3).map V.ref)) hp7)
    refine ⟨x, a2, p7, m0, as.drop 3, rest, rfl, s10 _ _ e2, upd_same, rest9.same (same_new hp7), zx, zm, ?_, o1 x (by simp), fun y hy => o2 y (by simp [hy]), fun r hr y hy => oks r (by simp [hr]) y hy, fun c4 H10 s11 => ?_, fun c4 D H10 hD s11 eD => ?_⟩
    · simp only [List.length_cons] at few
      omega
    · refine ⟨_, rfl, rfl, _, rfl, iteT (kN ?_ _ ((s6.trans s10).trans s11))⟩
      rw [if_neg]
      intro z
      have := z.2.2.2
      simp only [List.getD_cons_zero] at this
      rw [c4] at this
      cases this
    · refine ⟨_, rfl, rfl, _, rfl, iteF ?_⟩
      have q1 := (s10.trans s11) _ _ e1
      have q2 := (s10.trans s11) _ _ e2
      have q3 := (s10.trans s11) _ _ e3
      refine ⟨_, rfl, a1, _, _, _, rfl, rfl, SqL.of q1, atI_nat (j := 0) rfl, _, rfl, a2, _, rfl, .inl ⟨SqL.of q2, fun M hM => ?_⟩⟩
      refine ⟨_, rfl, a3, _, rfl, .inl ⟨SqL.of (keep1 q3 hM), fun G hG => ?_⟩⟩
      refine ⟨_, rfl, (by show 4 ≤ sizeLine; decide), fun T hT => ?_⟩
      refine kY _ (by rw [if_pos ⟨c1, c2, c3', c4⟩]) T _ (((((s6.trans s10).trans s11).trans (same_new hM)).trans (same_new hG)).trans (same_new hT)) ⟨M, G, D, upd_same, keep1 (keep1 upd_same hG) hT, keep1 upd_same hT, keep1 (keep1 (keep1 eD hM) hG) hT⟩
end
end My
namespace My
open PySem PySem.Spec PyProof.Rows L2
abbrev kT (t : Str) (c : Nat) : List Key := [Sum.inr t, Sum.inr (sg c)]
def gf (kvs : List (List Key × V)) (t : Str) (c : Nat) : Str := match valV kvs (kT t c) with
  | some (.str y) => y
  | _ => Str.empty
theorem gf_is {kvs : List (List Key × V)} {t : Str} {c : Nat} {y : Str} (h : valV kvs (kT t c) = some (.str y)) : gf kvs t c = y := by
  unfold gf
  rw [h]
end My
namespace My
open PySem PySem.Spec PyProof.Rows L2
/-- the fields of a rule -/
abbrev rFs (t : Str) (p : Parts) (M G D : Addr) : List (Str × V) := [("written", .str t), ("letters", .str p.sg), ("words", .ref M), ("chosen", .ref G), ("goals", .ref D)]
/-- a rule stands at a -/
def RuleAt (H : Hp) (C a : Addr) (t : Str) (p : Parts) : Prop := ∃ dx M G D, H a = some (.ins C dx (rFs t p M G D)) ∧ H M = some (.tup (p.ms.map V.str)) ∧ H G = some (.tup (p.gs.map V.str)) ∧ H D = some (.dT (goalsD p.rs))
theorem RuleAt.same {H H' : Hp} {C a : Addr} {t : Str} {p : Parts} (h : RuleAt H C a t p) (s : Same H H') : RuleAt H' C a t p := by
  obtain ⟨dx, M, G, D, e1, e2, e3, e4⟩ := h
  exact ⟨dx, M, G, D, s _ _ e1, s _ _ e2, s _ _ e3, s _ _ e4⟩
def spInit (C : Addr) : Sp := fun vs H Q _ => ∃ (a dx : Addr) (t : Str) (p : Parts), vs = [.ref a, .str t] ∧ H a = some (.ins C dx []) ∧ t.length ≤ 1000000 ∧ PyData.strOk t = true ∧ parseL t = some p ∧
  ∀ H', (∀ b o, b ≠ a → H b = some o → H' b = some o) → RuleAt H' C a t p → Q .non H'
/-- what is fixed of the class -/
structure RuC (K : PySem.W.Frag) (C : Addr) : Prop where
  cl : Cls K C
  f1 : NoAttr K C "written"
  f2 : NoAttr K C "letters"
  f3 : NoAttr K C "words"
  f4 : NoAttr K C "chosen"
  f5 : NoAttr K C "goals"
section
variable {P : Program} {w : World} {K : PySem.W.Frag} {mg : Str → Option Value} {base : Heap}
abbrev sInit : Stmt := inClass sRule 0
abbrev nInit : List Str := ["self", "text", "parts"]
theorem scInit : FnScope nInit ["self", "text"] (defScope sInit) := ⟨rfl, rfl, rfl, by decide +kernel, rfl, by decide +kernel, by decide +kernel⟩
theorem ok_init {f C : Addr} {fd : FuncData} (F : Fun K "__init__" "Rule.__init__" sInit f fd) (T : RuC K C) (hR : Hv P w K mg base 4 "read_rule" ["text"] spRead) (hIs : mg "isinstance" = none) (hSt : mg "str" = none) : FnOk P w K mg base CX0 5 f fd ["self", "text"] (spInit C) := by
  refine F.ok scInit (fun vs H Q E h => ?_) (fun cdv A outer s H vs Q E hr h => ?_)
  · obtain ⟨a, dx, t, p, rfl, _⟩ := h
    rfl
  · obtain ⟨a, dx, t, p, rfl, ha, zt, ot, pt, k⟩ := h
    refine ⟨_, pss_cons (ps_set (i := 2) scInit.nd rfl (Or.inl rfl) (pe_ifExp (pt_val (pe_callB call_isi (by rfl) hIs (by decide +kernel) (pa_cons (pv 1) (pa_cons (pe_bltn (v := .ty "str") (by rfl) hSt (by decide +kernel) rfl) pa_nil)))) (pe_cl hR hr rfl pass0 (pa_cons (pv 1) pa_nil)) pe_non))
      (pss_cons (ps_if (pt_cmpR op_isN (pv 2) pe_non (nomark _)) (pss_one ps_never) pss_nil)
      (pss_cons (ps_fld (pv 0) (pv 1) rfl)
      (pss_one (ps_asg (pv 2) (pg_tup (by rfl) (pgs_cons (pg_fld (pv 0)) (pgs_cons (pg_fld (pv 0)) (pgs_cons (pg_fld (pv 0)) (pgs_cons (pg_fld (pv 0)) pgs_nil))))))))), ?_⟩
    refine ⟨_, rfl, .str t, .ty "str", _, .type "str", true, rfl, .ty _, .base (.str t), kit_ty (by decide +kernel), _, rfl, iteT ?_⟩
    refine ⟨_, rfl, t, rfl, zt, ot, (fun z => by rw [pt] at z; cases z), fun p' hp' T' H1 s1 hT => ?_⟩
    rw [pt] at hp'
    cases hp'
    obtain ⟨M, G, D, e1, e2, e3, e4⟩ := hT
    have ea := s1 _ _ ha
    refine ⟨_, rfl, rfl, _, rfl, iteF ?_⟩
    refine ⟨_, rfl, _, rfl, a, C, dx, _, rfl, ea, T.cl, T.f1, by decide, ?_⟩
    have ne : ∀ {b : Addr} {xs : List V}, H1 b = some (.tup xs) → b ≠ a := fun e => ne_of e ea (by intro z; cases z)
    have nD : D ≠ a := ne_of e4 ea (by intro z; cases z)
    refine ⟨_, rfl, T', _, rfl, SqT.of (by rw [upd_ne (ne e1)]; exact e1), rfl, _, _, rfl, _, rfl, a, C, dx, _, rfl, upd_same, T.cl, T.f2, (by show 1 < 1000; decide), ?_⟩
    rw [upd_upd]
    refine ⟨_, _, rfl, _, rfl, a, C, dx, _, rfl, upd_same, T.cl, T.f3, (by show 2 < 1000; decide), ?_⟩
    rw [upd_upd]
    refine ⟨_, _, rfl, _, rfl, a, C, dx, _, rfl, upd_same, T.cl, T.f4, (by show 3 < 1000; decide), ?_⟩
    rw [upd_upd]
    refine ⟨_, _, rfl, _, rfl, a, C, dx, _, rfl, upd_same, T.cl, T.f5, (by show 4 < 1000; decide), ?_⟩
    rw [upd_upd]
    refine ⟨rfl, k _ (fun b o n e => by rw [upd_ne n]; exact s1 _ _ e) ⟨dx, M, G, D, upd_same, ?_, ?_, ?_⟩⟩
    · rw [upd_ne (ne e2)]; exact e2
    · rw [upd_ne (ne e3)]; exact e3
    · rw [upd_ne nD]; exact e4
end
end My
namespace My
open PySem PySem.Spec PyProof.Rows L2 PySem.GX
def isRowL (x r : Str) : Bool := decide (r.length ≤ 1000) && r.cps.toList.all fun c => decide (c ∈ x.cps.toList)
/-- v is no row of the signs x -/
def NoRow (K : PySem.W.Frag) (H : Hp) (x : Str) (v : V) : Prop := (∃ r, v = .str r ∧ r.length ≤ 16000000 ∧ isRowL x r = false) ∨ ∃ ty, TyX K H v ty ∧ PySem.W.kitOne K ty (.type "str") = some false
end My
namespace My
open PySem PySem.Spec PyProof.Rows L2 PySem.GX
def spRow : Sp := fun vs H Q _ => ∃ (r x : Str), vs = [.str r, .str x] ∧ r.length ≤ 16000000 ∧ ∀ H', Same H H' → Q (.bl (isRowL x r)) H'
def spRowX (K : PySem.W.Frag) : Sp := fun vs H Q _ => ∃ (v : V) (x : Str), vs = [v, .str x] ∧ NoRow K H x v ∧ ∀ H', Same H H' → Q (.bl false) H'
section
variable {P : Program} {w : World} {K : PySem.W.Frag} {mg : Str → Option Value} {base : Heap}
theorem pe_neverE {X : Cx} {e : Expr} : PE X e (fun _ _ _ => False) := ⟨fun _ _ _ _ _ _ h => h.elim⟩
theorem FnOk.or_ {CX : CXT} {k : Nat} {f : Addr} {fd : FuncData} {ps : List Str} {s1 s2 : Sp} (a : FnOk P w K mg base CX k f fd ps s1) (b : FnOk P w K mg base CX k f fd ps s2) : FnOk P w K mg base CX k f fd ps (fun vs H Q E => s1 vs H Q E ∨ s2 vs H Q E) :=
  ⟨fun vs H Q E h => h.elim (a.len vs H Q E) (b.len vs H Q E), fun A outer s H args us vs Q E hr e0 hb r h => h.elim (a.run A outer s H args us vs Q E hr e0 hb r) (b.run A outer s H args us vs Q E hr e0 hb r)⟩
theorem FnOk.imp_ {CX : CXT} {k : Nat} {f : Addr} {fd : FuncData} {ps : List Str} {s1 s2 : Sp} (a : FnOk P w K mg base CX k f fd ps s1) (m : ∀ vs H Q E, s2 vs H Q E → s1 vs H Q E) : FnOk P w K mg base CX k f fd ps s2 :=
  ⟨fun vs H Q E h => a.len vs H Q E (m _ _ _ _ h), fun A outer s H args us vs Q E hr e0 hb r h => a.run A outer s H args us vs Q E hr e0 hb r (m _ _ _ _ h)⟩
theorem scRow : FnScope ["value", "letters"] ["value", "letters"] (defScope sRowOf) := ⟨rfl, rfl, rfl, by decide +kernel, rfl, by decide +kernel, by decide +kernel⟩
theorem made_all (x r : Str) : madeL r x = r.cps.toList.all fun c => decide (c ∈ x.cps.toList) := by
  unfold madeL
  rw [List.all_map]
  rfl
theorem ok_row {f : Addr} {fd : FuncData} {tA : Tok} (F : Fun K "is_row_of" "is_row_of" sRowOf f fd) (hO : Hv P w K mg base 1 "made_of" ["text", "letters"] spMade) (hIs : mg "isinstance" = none) (hSt : mg "str" = none) (hL : mg "len" = none) (gM : mg "MOST_ROW" = some (.int 1000 tA)) : FnOk P w K mg base CX0 2 f fd ["value", "letters"] spRow := by
  refine F.ok scRow (fun vs H Q E h => ?_) (fun cdv A outer s H vs Q E hr h => ?_)
  · obtain ⟨r, x, rfl, _⟩ := h
    rfl
  · obtain ⟨r, x, rfl, zr, k⟩ := h
    refine ⟨_, pss_one (ps_ret (pe_and (pe_callB call_isi (by rfl) hIs (by decide +kernel) (pa_cons (pv 0) (pa_cons (pe_bltn (v := .ty "str") (by rfl) hSt (by decide +kernel) rfl) pa_nil)))
        (pe_and (pe_cmpR op_le (pe_callB call_len_str (by rfl) hL PySem.boot_len (pa_cons (pv 0) pa_nil)) (pe_glob (v := .int 1000) rfl gM ⟨_, rfl⟩) (nomark _)) (pe_one (pe_cl hO hr rfl pass0 (pa_cons (pv 0) (pa_cons (pv 1) pa_nil))))))), ?_⟩
    refine ⟨_, rfl, .str r, .ty "str", _, .type "str", true, rfl, .ty _, .base (.str r), kit_ty (by decide +kernel), _, rfl, iteT ?_⟩
    refine ⟨_, rfl, r, rfl, (by rw [sizeLine_eq]; omega), _, _, rfl, rfl, _, rfl, ite2 (fun c => ?_) (fun c => ?_)⟩
    · have h1 : (r.length : Int) ≤ 1000 := of_decide_eq_true c
      refine ⟨_, rfl, _, rfl, r, x, rfl, zr, fun H' s' => ?_⟩
      have e : madeL r x = isRowL x r := by
        unfold isRowL
        rw [decide_eq_true (by omega : r.length ≤ 1000), Bool.true_and, made_all]
      rw [e]
      exact k _ s'
    · have h1 : ¬ (r.length : Int) ≤ 1000 := by simpa using c
      have e : isRowL x r = false := by
        unfold isRowL
        rw [decide_eq_false (by omega : ¬ r.length ≤ 1000)]
        rfl
      rw [e] at k
      exact k _ (Same.refl _)
def spRowT (K : PySem.W.Frag) : Sp := fun vs H Q _ => ∃ (v : V) (x : Str) (ty : Value), vs = [v, .str x] ∧ TyX K H v ty ∧ PySem.W.kitOne K ty (.type "str") = some false ∧ Q (.bl false) H
theorem ok_rowT {f : Addr} {fd : FuncData} (F : Fun K "is_row_of" "is_row_of" sRowOf f fd) (hIs : mg "isinstance" = none) (hSt : mg "str" = none) : FnOk P w K mg base CX0 2 f fd ["value", "letters"] (spRowT K) := by
  refine F.ok scRow (fun vs H Q E h => ?_) (fun cdv A outer s H vs Q E hr h => ?_)
  · obtain ⟨v, x, ty, rfl, _⟩ := h
    rfl
  · obtain ⟨v, x, ty, rfl, hty, hk, k⟩ := h
    refine ⟨_, pss_one (ps_ret (pe_and (pe_callB call_isi (by rfl) hIs (by decide +kernel) (pa_cons (pv 0) (pa_cons (pe_bltn (v := .ty "str") (by rfl) hSt (by decide +kernel) rfl) pa_nil))) pe_neverE)), ?_⟩
    exact ⟨_, rfl, v, .ty "str", ty, .type "str", false, rfl, .ty _, hty, hk, _, rfl, iteF k⟩
theorem ok_rowX {f : Addr} {fd : FuncData} {tA : Tok} (F : Fun K "is_row_of" "is_row_of" sRowOf f fd) (hO : Hv P w K mg base 1 "made_of" ["text", "letters"] spMade) (hIs : mg "isinstance" = none) (hSt : mg "str" = none) (hL : mg "len" = none) (gM : mg "MOST_ROW" = some (.int 1000 tA)) : FnOk P w K mg base CX0 2 f fd ["value", "letters"] (spRowX K) := by
  refine FnOk.imp_ (FnOk.or_ (ok_row F hO hIs hSt hL gM) (ok_rowT F hIs hSt)) fun vs H Q E ⟨v, x, e, nr, k⟩ => ?_
  rcases nr with ⟨r, rfl, zr, ir⟩ | ⟨ty, hty, hk⟩
  · exact .inl ⟨r, x, e, zr, by rw [ir]; exact k⟩
  · exact .inr ⟨v, x, ty, e, hty, hk, k _ (Same.refl _)⟩
end
end My
namespace My
open PySem PySem.Spec PyProof.Rows L2
abbrev sMood : Stmt := inClass sRule 8
abbrev sHas : Stmt := inClass sRule 9
/-- the method x of C is there, and keeps the promise -/
structure HvM (P : Program) (w : World) (K : PySem.W.Frag) (mg : Str → Option Value) (base : Heap) (k : Nat) (C : Addr) (x : Str) (ps : List Str) (sp : Sp) : Prop where
  ex : ∃ (f : Addr) (fd : FuncData), FnOk P w K mg base CX0 k f fd ps sp ∧ Binds K fd ps [] ∧ Meth K C x f
theorem pe_mt {X : Cx} {k : Nat} {C : Addr} {x : Str} {ps : List Str} {sp : Sp} {apos pos : Pos} {o e : Expr} {es : List Expr} {ta : TE} {t : TA} {E : XK} {pl : Sem Bool} (h : HvM X.prog X.w X.K X.mg X.base k C x ps sp) (ho : PE X o ta) (c : Cls X.K C) (hr : Room k X.A) (hx : Passes CX0 X E) (ha : PA X (e :: es) t)
    (hst : starEach (e :: es) X.env = (false, eval e X.env) :: starEach es X.env := by rfl) (hpl : (backTo pos (starEach es X.env)).any (·.1) = false := by rfl)
    (ht : eval (.Call (.Attribute o x apos) (e :: es) [] pos) X.env = (do
      let ov ← eval o X.env
      standAt apos.atName
      let (f, first) ← holding [ov] (getMethod ov x pl)
      callWith pos f first (backTo pos (starEach (e :: es) X.env)) (backToKw pos (keywordEach [] X.env))) := by rfl) :
    PE X (.Call (.Attribute o x apos) (e :: es) [] pos) (tMeth C x sp [] E ta t) := by
  obtain ⟨f, fd, F, b, m⟩ := h.ex
  exact pe_meth ho c m F hr b .nil hx ha hst hpl ht
theorem pe_fldK {X : Cx} {K : PySem.W.Frag} {e : Expr} {f : Str} {ta : TE} {pos : Pos} (h : X.K = K) (he : PE X e ta) (hb : attributeBase e f X.env (eval e X.env) = eval e X.env) : PE X (.Attribute e f pos) (tFld K ta f) := by subst h; exact pe_fld he hb
/-- what a text that is one writes -/
structure PartsOk (p : Parts) : Prop where
  sgs : areSignsL [p.sg] = true
  mds : areMoodsL p.ms = true
  gds : areGoodL p.gs p.ms = true
  gls : goalsOkL p.sg p.ms p.rs = true
theorem parts_ok {t : Str} {p : Parts} (h : parseL t = some p) : PartsOk p := by
  unfold parseL partsL at h
  split at h
  · rename_i t0 s0 t1 m0 t2 g0 rs heq
    split at h
    · rename_i hc
      cases h
      obtain ⟨x, e, _⟩ := signs_one hc.2.1
      subst e
      exact ⟨hc.2.1, hc.2.2.1, hc.2.2.2.1, hc.2.2.2.2⟩
    · cases h
  · cases h
theorem dOf_some {α κ : Type} [DecidableEq κ] {key : α → κ} {val : α → V} {k : κ} : ∀ (xs : List α), (∃ a ∈ xs, key a = k) → ∃ a ∈ xs, key a = k ∧ valV (dOf key val xs) k = some (val a) := by
  suffices h : ∀ (n : Nat) (xs : List α), xs.length = n → (∃ a ∈ xs, key a = k) → ∃ a ∈ xs, key a = k ∧ valV (dOf key val xs) k = some (val a) from fun xs => h _ xs rfl
  intro n
  induction n with
  | zero =>
    intro xs h ⟨a, ha, _⟩
    have : xs = [] := List.eq_nil_of_length_eq_zero h
    subst this
    cases ha
  | succ n ih =>
    intro xs h h2
    have hne : xs ≠ [] := by intro z; subst z; cases h
    obtain ⟨ys, a, rfl⟩ : ∃ ys a, xs = ys ++ [a] := ⟨xs.dropLast, xs.getLast hne, (List.dropLast_concat_getLast hne).symm⟩
    have hl : ys.length = n := by rw [List.length_append] at h; simpa using h
    rw [dOf_snoc, valV_put]
    by_cases e : k = key a
    · exact ⟨a, by simp, e.symm, by rw [if_pos e]⟩
    · rw [if_neg e]
      obtain ⟨b, hb, eb⟩ := h2
      rcases List.mem_append.mp hb with m | m
      · obtain ⟨d, hd, ed, hv⟩ := ih ys hl ⟨b, m, eb⟩
        exact ⟨d, by simp [hd], ed, hv⟩
      · have : b = a := by simpa using m
        exact absurd (this ▸ eb.symm) e
/-- where the sign c leads from the mood t -/
def ledL (p : Parts) (t : Str) (c : Nat) : Str := gf (goalsD p.rs) t c
theorem PartsOk.goal {p : Parts} (h : PartsOk p) {t : Str} (ht : t ∈ p.ms) {c : Nat} (hc : c ∈ p.sg.cps.toList) : ledL p t c ∈ p.ms ∧ valV (goalsD p.rs) (kT t c) = some (.str (ledL p t c)) := by
  have hg := h.gls
  unfold goalsOkL at hg
  rw [Bool.and_eq_true_iff] at hg
  have ep : p.rs.map (List.take 2) = pairsL p.sg p.ms := of_decide_eq_true hg.1
  have hm : [t, sg c] ∈ p.rs.map (List.take 2) := by
    rw [ep]
    unfold pairsL
    exact List.mem_flatMap.mpr ⟨t, ht, List.mem_map.mpr ⟨c, hc, rfl⟩⟩
  obtain ⟨r, hr, er⟩ := List.mem_map.mp hm
  have key : ∀ q : List Str, q.take 2 = [t, sg c] → [(Sum.inr (q.getD 0 Str.empty) : Key), Sum.inr (q.getD 1 Str.empty)] = kT t c := fun q hq => by
    match q, hq with
    | [], hq => cases hq
    | [_], hq => simp at hq
    | a :: b :: _, hq =>
      have : [a, b] = [t, sg c] := hq
      injection this with e1 this
      injection this with e2 _
      subst e1 e2
      rfl
  obtain ⟨q, hq, eq, hv⟩ := dOf_some (key := fun r : List Str => [(Sum.inr (r.getD 0 Str.empty) : Key), Sum.inr (r.getD 1 Str.empty)]) (val := fun r => V.str (r.getD 2 Str.empty)) (k := kT t c) p.rs ⟨r, hr, key r er⟩
  have ok := List.all_eq_true.mp hg.2 q hq
  unfold rowOkL at ok
  rw [Bool.and_eq_true_iff] at ok
  have e : ledL p t c = q.getD 2 Str.empty := gf_is hv
  rw [e]
  exact ⟨of_decide_eq_true ok.2, hv⟩
/-- a row leads from t -/
def walkL (p : Parts) (t : Str) (cs : List Nat) : Str := cs.foldl (ledL p) t
def firstL (p : Parts) : Str := p.ms.headD Str.empty
def moodL (p : Parts) (r : Str) : Str := walkL p (firstL p) r.cps.toList
theorem walk_mem {p : Parts} (h : PartsOk p) : ∀ (cs : List Nat) (t : Str), t ∈ p.ms → (∀ c ∈ cs, c ∈ p.sg.cps.toList) → walkL p t cs ∈ p.ms
  | [], _, ht, _ => ht
  | c :: cs, t, ht, hc => walk_mem h cs _ (h.goal ht (hc c (by simp))).1 fun d hd => hc d (by simp [hd])
theorem PartsOk.first {p : Parts} (h : PartsOk p) : ∃ ms, p.ms = firstL p :: ms := by
  have := h.mds
  unfold areMoodsL at this
  simp only [Bool.and_eq_true] at this
  have l1 : 1 ≤ p.ms.length := of_decide_eq_true this.1.1.1
  unfold firstL
  match hm : p.ms, l1 with
  | a :: t, _ => exact ⟨t, rfl⟩
def spMood (C : Addr) : Sp := fun vs H Q _ => ∃ (a : Addr) (r t : Str) (p : Parts), vs = [.ref a, .str r] ∧ RuleAt H C a t p ∧ PartsOk p ∧ isRowL p.sg r = true ∧ ∀ H', Same H H' → Q (.str (moodL p r)) H'
def spHas (C : Addr) : Sp := fun vs H Q _ => ∃ (a : Addr) (r t : Str) (p : Parts), vs = [.ref a, .str r] ∧ RuleAt H C a t p ∧ PartsOk p ∧ isRowL p.sg r = true ∧ ∀ H', Same H H' → Q (.bl (decide (moodL p r ∈ p.gs))) H'
section
variable {P : Program} {w : World} {K : PySem.W.Frag} {mg : Str → Option Value} {base : Heap}
theorem scMood : FnScope ["self", "row", "reached", "sign"] ["self", "row"] (defScope sMood) := ⟨rfl, rfl, rfl, by decide +kernel, rfl, by decide +kernel, by decide +kernel⟩
theorem ok_mood {f C : Addr} {fd : FuncData} (F : Fun K "mood" "Rule.mood" sMood f fd) (T : RuC K C) (hR : Hv P w K mg base 2 "is_row_of" ["value", "letters"] spRow) : FnOk P w K mg base CX0 3 f fd ["self", "row"] (spMood C) := by
  refine F.ok scMood (fun vs H Q E h => ?_) (fun cdv A outer s H vs Q E hr h => ?_)
  · obtain ⟨a, r, t, p, rfl, _⟩ := h
    rfl
  · obtain ⟨a, r, t, p, rfl, hA, ok, ir, k⟩ := h
    refine ⟨_, pss_cons (ps_if (pt_not (pt_val (pe_cl hR hr rfl pass0 (pa_cons (pv 1) (pa_cons (pe_fld (pv 0) rfl) pa_nil))))) (pss_one ps_never) pss_nil)
      (pss_cons (ps_set (i := 2) scMood.nd rfl (Or.inl rfl) (pe_ix ix_tup (pe_fld (pv 0) rfl) pe_int (fun _ _ => rfl)))
      (pss_cons (ps_for PassesOwn.never rfl (pi_str (pv 1)) (pg_name (i := 3) scMood.nd rfl (Or.inl rfl)) (pss_one (ps_set (i := 2) scMood.nd rfl (Or.inl rfl) (pe_dget (hu_of hr) (pe_fld (pv 0) rfl) (pe_tup (pa_cons (pv 2) (pa_cons (pv 3) pa_nil))) (fun _ _ => rfl)))))
      (pss_one (ps_ret (pv 2))))), ?_⟩
    obtain ⟨dx, M, G, D, e1, e2, e3, e4⟩ := id hA
    have hl : r.length ≤ 1000 := by
      unfold isRowL at ir
      exact of_decide_eq_true (Bool.and_eq_true_iff.mp ir).1
    have hin : ∀ c ∈ r.cps.toList, c ∈ p.sg.cps.toList := fun c hc => by
      unfold isRowL at ir
      exact of_decide_eq_true (List.all_eq_true.mp (Bool.and_eq_true_iff.mp ir).2 c hc)
    refine ⟨_, rfl, _, rfl, a, C, dx, _, .str p.sg, rfl, e1, T.cl, T.f2, rfl, r, p.sg, rfl, by omega, fun H1 s1 => ⟨_, rfl, ?_⟩⟩
    rw [ir]
    refine iteF ?_
    obtain ⟨ms, em⟩ := ok.first
    have ef : (p.ms.map V.str)[0]? = some (.str (firstL p)) := by rw [em]; rfl
    refine ⟨_, rfl, a, C, dx, _, .ref M, rfl, s1 _ _ e1, T.cl, T.f3, rfl, M, _, _, _, rfl, rfl, SqT.of (s1 _ _ e2), atI_nat (j := 0) ef, ?_⟩
    refine ⟨_, rfl, r, rfl, ?_⟩
    refine for_it walk_str (fun i σ H' => ∃ v3, σ = [some (.ref a), some (.str r), some (.str (walkL p (firstL p) (r.cps.toList.take i))), v3] ∧ Same H1 H') ⟨none, rfl, Same.refl _⟩ (fun _ _ _ _ _ => trivial) (fun i y σ H2 H3 hi h hy => ?_) (fun σ H2 h => ?_)
    · obtain ⟨rfl, c, hc, rfl⟩ := hy
      obtain ⟨v3, rfl, s2⟩ := h
      have hc' : r.cps.toList[i]? = some c := by rw [Array.getElem?_toList]; exact hc
      have hm := walk_mem ok (r.cps.toList.take i) (firstL p) (by rw [em]; simp) fun d hd => hin d (List.mem_of_mem_take hd)
      have hg := ok.goal hm (hin c (List.mem_of_getElem? hc'))
      have s3 := s1.trans s2
      refine ⟨_, rfl, a, C, dx, _, .ref D, rfl, s3 _ _ e1, T.cl, T.f5, rfl, _, rfl, _, rfl, (by show 2 ≤ sizeLine; decide), fun t' ht => ⟨D, .str (ledL p (walkL p (firstL p) (r.cps.toList.take i)) c), rfl, ?_, ?_⟩⟩
      · have := DGet.t (k := kT (walkL p (firstL p) (r.cps.toList.take i)) c) (keep1 (s3 _ _ e4) ht) (upd_same (o := .tup ((kT (walkL p (firstL p) (r.cps.toList.take i)) c).map kV)))
        rw [hg.2] at this
        exact this
      · refine ⟨some (.str (sg c)), ?_, s2.trans (same_new ht)⟩
        rw [List.take_add_one, hc']
        show _ = [_, _, some (V.str (walkL p (firstL p) (r.cps.toList.take i ++ [c]))), _]
        unfold walkL
        rw [List.foldl_append]
        rfl
    · obtain ⟨v3, rfl, s2⟩ := h
      refine ⟨_, rfl, ?_⟩
      have : r.cps.toList.take r.cps.size = r.cps.toList := by rw [← Array.length_toList, List.take_length]
      rw [this]
      exact k _ (s1.trans s2)
theorem scHas : FnScope ["self", "row"] ["self", "row"] (defScope sHas) := ⟨rfl, rfl, rfl, by decide +kernel, rfl, by decide +kernel, by decide +kernel⟩
theorem ok_has {f C : Addr} {fd : FuncData} (F : Fun K "has" "Rule.has" sHas f fd) (T : RuC K C) (hM : HvM P w K mg base 3 C "mood" ["self", "row"] (spMood C)) : FnOk P w K mg base CX0 4 f fd ["self", "row"] (spHas C) := by
  refine F.ok scHas (fun vs H Q E h => ?_) (fun cdv A outer s H vs Q E hr h => ?_)
  · obtain ⟨a, r, t, p, rfl, _⟩ := h
    rfl
  · obtain ⟨a, r, t, p, rfl, hA, ok, ir, k⟩ := h
    refine ⟨_, pss_one (ps_ret (pe_cmpR op_in_seq (pe_mt hM (pv 0) T.cl hr pass0 (pa_cons (pv 1) pa_nil)) (pe_fld (pv 0) rfl) (by rfl))), ?_⟩
    obtain ⟨dx, M, G, D, e1, e2, e3, e4⟩ := id hA
    refine ⟨_, rfl, a, dx, _, rfl, e1, rfl, _, rfl, a, r, t, p, rfl, hA, ok, ir, fun H1 s1 => ?_⟩
    refine ⟨_, rfl, a, C, dx, _, .ref G, rfl, s1 _ _ e1, T.cl, T.f4, rfl, G, _, rfl, .inr (SqT.of (s1 _ _ e3)), rfl, flat_strs _, ?_⟩
    show Q (.bl (inV (.str (moodL p r)) (p.gs.map V.str))) H1
    rw [in_strs]
    exact k _ s1
end
end My
namespace My
open PySem PySem.Spec PyProof.Rows L2
/-- a well stands at p -/
def Wl (H : Hp) (p : Addr) : Prop := ∃ w0 w1 w2 : Int, 0 ≤ w0 ∧ 0 ≤ w1 ∧ H p = some (.lst [.int w0, .int w1, .int w2])
theorem cut_ints (ns : List Int) (lo hi : Option Int) : ∃ ms : List Int, cutV (ns.map V.int) lo hi = ms.map V.int := by
  unfold cutV
  rw [← List.map_drop, ← List.map_take]
  exact ⟨_, rfl⟩
theorem map_int_get {ns : List Int} {i : Nat} {y : V} (h : (ns.map V.int)[i]? = some y) : ∃ z, ns[i]? = some z ∧ y = V.int z := by
  rw [List.getElem?_map] at h
  cases e : ns[i]? with
  | none => rw [e] at h; cases h
  | some z => rw [e] at h; exact ⟨z, rfl, (Option.some.inj h).symm⟩
/-- all but the well stays -/
def Sb (p : Addr) (H H' : Hp) : Prop := ∀ b o, b ≠ p → H b = some o → H' b = some o
theorem Sb.refl (p : Addr) (H : Hp) : Sb p H H := fun _ _ _ h => h
theorem Sb.trans {p : Addr} {H H1 H2 : Hp} (a : Sb p H H1) (b : Sb p H1 H2) : Sb p H H2 := fun c o n h => b c o n (a c o n h)
theorem Sb.of {p : Addr} {H H' : Hp} (s : Same H H') : Sb p H H' := fun b o _ h => s b o h
theorem Sb.upd_ {p : Addr} {H : Hp} {o : HO} : Sb p H (upd H p o) := fun b u n h => by rw [upd_ne n]; exact h
theorem Sb.free {p : Addr} {H H' : Hp} (s : Sb p H H') {q : Addr} (n : q ≠ p) (h : H' q = none) : H q = none := by
  cases e : H q with
  | none => rfl
  | some o => rw [s q o n e] at h; cases h
theorem Wl.same {H H' : Hp} {p : Addr} (w : Wl H p) (s : Same H H') : Wl H' p := by
  obtain ⟨w0, w1, w2, a0, a1, e⟩ := w
  exact ⟨w0, w1, w2, a0, a1, s _ _ e⟩
theorem Wl.new {H : Hp} {p q : Addr} (w : Wl H p) (h : H q = none) : q ≠ p := by
  obtain ⟨w0, w1, w2, a0, a1, e⟩ := w
  exact (ne_of_none e h).symm
theorem Wl.ne {H : Hp} {p q : Addr} {o : HO} (w : Wl H p) (h : H q = some o) (n : ∀ a b c : Int, o ≠ .lst [.int a, .int b, .int c]) : q ≠ p := by
  obtain ⟨w0, w1, w2, a0, a1, e⟩ := w
  exact ne_of h e (n _ _ _)
theorem Wl.neS {H : Hp} {p q : Addr} {ws : List Str} (w : Wl H p) (h : H q = some (.lst (ws.map V.str))) : q ≠ p := w.ne h fun a b c z => by
  cases ws with
  | nil => cases z
  | cons x t => cases z
theorem Wl.upd_ {H : Hp} {p q : Addr} {o : HO} (w : Wl H p) (n : q ≠ p) : Wl (upd H q o) p := by
  obtain ⟨w0, w1, w2, a0, a1, e⟩ := w
  exact ⟨w0, w1, w2, a0, a1, by rw [upd_ne n.symm]; exact e⟩
/-- rules whose readings speak of a K that is the context's -/
theorem ix_listK {X : Cx} {K : PySem.W.Frag} (h : X.K = K) : IxR X (rIxL K) := by subst h; exact ix_list
theorem sl_listK {X : Cx} {K : PySem.W.Frag} (h : X.K = K) : SlR X (rSlL K) := by subst h; exact sl_list
end My
namespace L2
open PySem PySem.Spec PyProof.Rows PySem.GX HotX
/-! lists walked and unpacked while an exception is handled -/
section
variable {prog : Program} {w : World} {A : Around} {Er : Value → Shared → Prop} {s : Shared}
theorem hot_ne {x it l : Addr} {i : Nat} {h : Heap} (hot : HotAt A x h) (hit : h.IsListIter it l i) : x ≠ it := fun z => by
  obtain ⟨_, o, vs, e, d, c⟩ := hot
  obtain ⟨o', e', _, d'⟩ := hit
  rw [z, e'] at e
  cases e
  rw [d'] at d
  cases d
  simp at c
theorem next_end_hot {it l x : Addr} {i : Nat} {items : Array Value} {Q : Option Value → Shared → Prop} (hot : HotAt A x s.heap) (hit : s.heap.IsListIter it l i) (hl : s.heap.IsList l items) (none_ : items[i]? = none)
    (k : ∀ h', Heap.ExtBut it s.heap h' → Q none { s with heap := h' }) : wpAny (model prog w) A (pyNext (.ref it)) Q Er s := by
  have ne := hot_ne hot hit
  obtain ⟨oi, ei, ci, di⟩ := id hit
  obtain ⟨ol, el, _, nl, dl⟩ := hl
  obtain ⟨hh, o1, vs1, h1, d1, c1⟩ := hot
  unfold pyNext
  refine wpAny_bind (wpAny_attempt (wpAny_callSpecial?_slot (name := Str.ofString "__next__") hit.typeIs slot_listiter_next (wpAny_call_entry slot_listiter_next hit.typeIs entry_listiter_next ?_ (args_listiter_next _))))
  show wpAny _ _ (field (.ref it) 0 >>= _) _ _ s
  refine wpAny_bind (wpAny_field ei di (x := .ref l) rfl ?_)
  show wpAny _ _ (if (Value.ref l == Value.none) = true then _ else _) _ _ s
  rw [if_neg (show ¬ ((Value.ref l == Value.none) = true) from Bool.false_ne_true)]
  show wpAny _ _ (field (.ref it) 1 >>= _) _ _ s
  refine wpAny_bind (wpAny_field ei di (x := .int i 0) rfl ?_)
  show wpAny _ _ (seqItems? (.ref l) >>= _) _ _ s
  refine wpAny_bind (wpAny_seqItems el dl ?_)
  simp only [Int.toNat_natCast, none_]
  refine wpAny_bind (wpAny_rule (wpAny_bind (wpAny_setField ei di (by simp) ?_)))
  show wpAny _ _ (newExc (.type "StopIteration") [] >>= _) _ _ _
  refine wpAny_bind ?_
  simp only [newExc, newTuple]
  refine wpAny_bind (wpAny_newObj_type ?_ (by size_fits))
  refine wpAny_bind (m := firstArgMember _ _) (wpAny_of_eq (a := Value.none) (by first | rfl | (simp only [firstArgMember]; rfl)) ?_)
  refine wpAny_newObj_type ?_ (by size_fits)
  have g1 := Heap.get?_push_of_some { cls := .type "tuple", data := .seq ([] : List Value).toArray } ((Heap.get?_update_other s.heap (Obj.mapFields (·.setIfInBounds 0 Value.none)) ne.symm).trans h1)
  refine raiseNew_hot ⟨hh, o1, vs1, Heap.get?_push_of_some _ g1, d1, c1⟩ (Nat.ne_of_lt (Heap.lt_size g1)) (Heap.get?_push_size _ rfl) rfl (by first | (simp; done) | (simp; omega) | (simp only [Array.size_append]; simp; omega)) ?_
  refine wpAny_bind (wpAny_isInstance (T := "StopIteration") (b := true) ⟨_, Heap.get?_update_self _ (Heap.get?_push_size _ rfl) rfl, rfl⟩ isSubtype_stop ?_)
  refine wpAny_pure (k _ fun b o nb e => ?_)
  have g2 := Heap.get?_push_of_some { cls := .type "tuple", data := .seq ([] : List Value).toArray } ((Heap.get?_update_other s.heap (Obj.mapFields (·.setIfInBounds 0 Value.none)) nb.symm).trans e)
  rw [Heap.get?_update_other _ _ (Nat.ne_of_gt (Heap.lt_size g2))]
  exact Heap.get?_push_of_some _ g2
end
end L2
namespace L2
open PySem PySem.Spec PyProof.Rows PySem.GX HotX
/-- the context X handles the exception p, which stands as it is -/
structure Hb (X : Cx) (p : Addr × Obj) : Prop where
  hh : X.A.handled = some (.ref p.1)
  ctx : ∃ vs : Array Value, p.2.data = .fields vs ∧ vs[2]? = some .none
  at_ : ∀ (pins : List (Addr × Obj)) (σ : St) (H : Hp) (s : Shared), Inv X pins σ H s → s.heap.get? p.1 = some p.2 ∧ H p.1 = none
section
variable {X : Cx} {p : Addr × Obj}
theorem Hb.hot (h : Hb X p) {pins : List (Addr × Obj)} {σ : St} {H : Hp} {s : Shared} (I : Inv X pins σ H s) : HotAt X.A p.1 s.heap := by
  obtain ⟨vs, d, c⟩ := h.ctx
  exact ⟨h.hh, p.2, vs, (h.at_ _ _ _ _ I).1, d, c⟩
theorem Hb.of_pn (h1 : X.A.handled = some (.ref p.1)) (h2 : ∃ vs : Array Value, p.2.data = .fields vs ∧ vs[2]? = some .none) (hp : p ∈ X.pn) : Hb X p :=
  ⟨h1, h2, fun pins σ H s I => let z := I.pin p (List.mem_append_left _ hp); ⟨z.1, z.2.1⟩⟩
end
section
variable {prog : Program} {w : World} {A : Around} {Er : Value → Shared → Prop} {s : Shared}
theorem items_hot {x l : Addr} {items : Array Value} {Q : List Value → Shared → Prop} (hot : HotAt A x s.heap) (hl : s.heap.IsList l items) (k : ∀ h', Heap.ExtBut s.heap.objs.size s.heap h' → Q items.toList { s with heap := h' }) :
    wpAny (model prog w) A (unpackItems (.ref l) items.size none) Q Er s := by
  have nl : l ≠ s.heap.objs.size := by
    obtain ⟨o, e, _⟩ := hl
    exact Nat.ne_of_lt (Heap.lt_size e)
  obtain ⟨hh, o1, vs1, h1, d1, c1⟩ := hot
  unfold unpackItems
  refine wpAny_bind ?_
  unfold notIterableAtAll
  refine wpAny_bind (wpAny_specialOf hl.typeIs slot_list_iter.lookup (wpAny_pure ?_))
  simp only [Bool.false_eq_true, if_false]
  refine wpAny_bind (wpAny_holding (wpAny_pyIter_list hl (wpAny_bind (wpAny_holding (PySem.W.kun_draw nl items.size 0 _ _ ⟨_, Heap.get?_push_size _ rfl, rfl, rfl⟩ (hl.push _) (by omega) fun ha ita sa => ?_)))))
  rw [show List.take items.size (List.drop 0 items.toList) = items.toList by rw [List.drop_zero]; exact List.take_of_length_le (by simp), if_neg (by simp)]
  have hot2 : HotAt A x ha := ⟨hh, o1, vs1, sa.extBut x _ (Nat.ne_of_lt (Heap.lt_size h1)) (Heap.get?_push_of_some _ h1), d1, c1⟩
  refine wpAny_bind (wpAny_holding (next_end_hot (s := { s with heap := ha }) hot2 ita ((hl.push _).extBut sa.extBut nl) (by simp) fun hb eb => ?_))
  simp only [Option.isSome_none, Bool.false_eq_true, if_false]
  exact wpAny_pure (k hb fun b o nb e => eb b o nb (sa.extBut b o nb (Heap.get?_push_of_some _ e)))
end
section
variable {X : Cx} {p : Addr × Obj} {pos : Pos}
/-- (a, b, ..) = a list, while p is handled -/
theorem pg_unlE {K : PySem.W.Frag} (eK : X.K = K) {es : List Expr} {k : Nat} {t : TGs} {n : Nat} (hb : Hb X p) (h : PGs X es t) (hn : (assignEach es X.env).length = n := by rfl) (hst : (assignEach es X.env).findIdx? (·.1) = none := by rfl) : PG X (.Tuple es k pos) (gUnl K n t) := by
  subst eK
  refine ⟨fun pl s σ H v u Q I r ⟨a, xs, ev, hq, hl, hw⟩ => ?_⟩
  subst ev
  cases r
  obtain ⟨its, rv, ls, hz⟩ := I.list hq
  obtain ⟨o, m, e, c, d, q⟩ := ls
  have isL : s.heap.IsList a its.toArray := ⟨o, e, c, m, q⟩
  have en : (assignEach es X.env).length = its.toArray.size := hn.trans (hl.symm.trans (rv.length.trans (by simp)))
  rw [PyProof.Rows.assign_Tuple]
  refine wpAny_bind (wpAny_standAt ?_)
  unfold unpack
  rw [en, hst]
  refine wpAny_bind (wpAny_holding (items_hot (hb.hot I) isL fun h' hx => ?_))
  exact h.run pl _ σ H xs _ Q (I.kept (t' := s.toks) fun b o e => hx b o (Nat.ne_of_lt (Heap.lt_size e)) e) (by simpa using rv) hw
end
section
variable {X : Cx} {p : Addr × Obj} {pl : List (Addr × Obj)} {s : Shared} {σ : St} {H : Hp} {Q : VK} {elt tg iter : Expr} {ifs : List Expr} {scope : Scope} {own : List (Str × Nat)} {pos pos' : Pos} {ti : TE} {g : TG} {tt : TT} {te : TE} {use : Option (Value → Sem Unit)} {Qf : Value → Shared → Prop}
/-- [e for target in a list if ..], while p is handled -/
theorem lcE (hp : p ∈ X.pn) (hb : Hb X p) (hN : X.N.Nodup) (I : Inv X pl σ H s) (hi : PE X iter ti) (ok : BlkOk X.N X.env.scope scope own)
    (hg : ∀ (s : Shared) (H : Hp) (C : Addr) (cl : List (Str × Addr)) (fp : List Addr), Hb (X.blk s H scope (compEnvC scope cl C X.env) fp) p → PG (X.blk s H scope (compEnvC scope cl C X.env) fp) tg g)
    (ht : ∀ (s : Shared) (H : Hp) (C : Addr) (cl : List (Str × Addr)) (fp : List Addr), PTs (X.blk s H scope (compEnvC scope cl C X.env) fp) ifs tt)
    (he : ∀ (s : Shared) (H : Hp) (C : Addr) (cl : List (Str × Addr)) (fp : List Addr), PE (X.blk s H scope (compEnvC scope cl C X.env) fp) elt te) (hs : ∀ x, foldedSetIterable iter X.env x = pure x)
    (want : tLc (iList X.K ti) g tt te (own.map (·.2)) σ H Q)
    (fin : ∀ D C s' m H', Inv X pl σ H' s' → Q (.ref D) H' → s'.heap.Ns C m → FpOk X pl H' C → compPost (model X.prog X.w) X.A X.xe use Qf (.ref D) C (.ok .next) s') :
    wpAny (model X.prog X.w) X.A (comprehension (.ListComp elt [⟨tg, iter, ifs, 0⟩] scope pos) scope X.env pos' (newList []) false (eval iter X.env) use) Qf X.xe s := by
  have frees : ∀ y ∈ scope.names, y.2 = .free → ∃ c, X.env.cells.lookup y.1 = some c := fun y hy e => by
    rcases ok.free y hy e with k | k
    · exact I.ok.has _ (.inl k)
    · exact I.ok.has _ (.inr k)
  refine wpAny_comprehension_free (use := use) rfl hs (closure_ok frees) ok.kind (fun y hy e => by rw [ok.uniq y hy, e]) (thn (hi.run pl s σ H _ I want) fun _ sa ⟨va, Ha, Ia, ra, a, ea, ⟨xs, hq⟩, wishes⟩ => ?_)
  subst ea
  cases ra
  obtain ⟨its, rv, ls, hz⟩ := Ia.list hq
  refine wpAny_pyIter_list ls.isList (wpAny_newObj_type (newEnv_comp ?_) (by show 0 ≤ sizeLine; decide))
  generalize eit : sa.heap.objs.size = it
  generalize esb : ({ sa with heap := sa.heap.push { cls := .type "list_iterator", data := .fields #[.ref a, .int 0 0] } } : Shared) = sb
  have hsb : sb.heap = sa.heap.push { cls := .type "list_iterator", data := .fields #[.ref a, .int 0 0] } := by rw [← esb]
  have Ib : Inv X pl σ Ha sb := by
    rw [← esb]
    exact Ia.kept (t' := sa.toks) fun b o e => Heap.get?_push_of_some _ e
  have itb : sb.heap.IsListIter it a 0 := by
    rw [hsb, ← eit]
    exact ⟨_, Heap.get?_push_size _ rfl, rfl, rfl⟩
  have okit : FpOk X pl Ha it := Ia.fpOk (Nat.le_of_eq eit) (Ia.hok.fresh (Nat.le_of_eq eit))
  generalize eD : sb.heap.objs.size = D
  have freeD : Ha D = none := Ib.hok.fresh (Nat.le_of_eq eD)
  obtain ⟨W, ⟨m0, begins⟩, turn⟩ := wishes D freeD
  generalize esc : ({ sb with heap := sb.heap.push { cls := .type "list", data := .seq ([] : List Value).toArray } } : Shared) = sc
  have hsc : sc.heap = sb.heap.push { cls := .type "list", data := .seq ([] : List Value).toArray } := by rw [← esc]
  have Ic : Inv X pl σ (upd Ha D (.lst [])) sc := by
    rw [← esc]
    refine Ib.laid (t' := sb.toks) (fun b o e => Heap.get?_push_of_some _ e) (Nat.le_of_eq eD) ⟨Nat.zero_le _, [], 0, .nil, ?_⟩
    rw [← eD]
    exact Heap.get?_push_size _ rfl
  have itlt : it < sb.heap.objs.size := by
    obtain ⟨o, e, _⟩ := itb
    exact Heap.lt_size e
  have okc : ∀ b ∈ [it], FpOk X pl (upd Ha D (.lst [])) b ∧ b < sc.heap.objs.size := fun b hb => by
    obtain rfl : b = it := by simpa using hb
    refine ⟨⟨?_, okit.2⟩, ?_⟩
    · rw [upd_ne (by rw [← eD]; exact Nat.ne_of_lt itlt)]
      exact okit.1
    · rw [hsc, Heap.size_push]
      exact Nat.lt_succ_of_lt itlt
  have itc : sc.heap.IsListIter it a 0 := itb.at fun o e => by
    rw [hsc]
    exact Heap.get?_push_of_some _ e
  have Id := block_start Ic ok hN okc
  have pc := hb.at_ _ _ _ _ Ic
  have pz := Ic.pin p (List.mem_append_left _ hp)
  have nit : p.1 ≠ it := okit.2.2.2.2.2 p (List.mem_append_left _ hp)
  -- the block bears the handled exception
  have hbb : Hb (X.blk sc (upd Ha D (.lst [])) scope (compEnvC scope (cellsFrom (sc.heap.objs.size + 1) scope.names (cloFrom X.env.cells scope.names [])) sc.heap.objs.size X.env) [it]) p := by
    refine ⟨hb.hh, hb.ctx, fun pins' σ' H' s' I' => ?_⟩
    have nfs : p.1 ∉ frs X.stack := fun m => by
      rcases Ic.ok.stk with z | ⟨z, zf⟩
      · rw [z] at m
        exact pz.2.2.2.1 m
      · rw [z] at m
        unfold frs at m
        rw [List.filterMap_cons, zf] at m
        rcases List.mem_cons.mp m with m | m
        · exact pz.2.2.1 m
        · exact pz.2.2.2.1 m
    have nex : p.1 ∉ [it] := fun z => nit (by simpa using z)
    exact ⟨I'.base.keep p.1 p.2 pc.1 pc.2 nfs nex, I'.base.free p.1 p.2 pc.1 pc.2 nex⟩
  have g1 := hg sc (upd Ha D (.lst [])) sc.heap.objs.size (cellsFrom (sc.heap.objs.size + 1) scope.names (cloFrom X.env.cells scope.names [])) [it] hbb
  have g2 := ht sc (upd Ha D (.lst [])) sc.heap.objs.size (cellsFrom (sc.heap.objs.size + 1) scope.names (cloFrom X.env.cells scope.names [])) [it]
  have g3 := he sc (upd Ha D (.lst [])) sc.heap.objs.size (cellsFrom (sc.heap.objs.size + 1) scope.names (cloFrom X.env.cells scope.names [])) [it]
  show codeAny _ _ (.compStart (.ListComp elt [⟨tg, iter, ifs, 0⟩] scope pos) 0 (.ref it) (.ref D) (compEnvC scope (cellsFrom (sc.heap.objs.size + 1) scope.names (cloFrom X.env.cells scope.names [])) sc.heap.objs.size X.env)) _
    { sc with heap := pushCells (sc.heap.push { cls := .type "dict", data := .dict #[] }) scope.names }
  have hid : (upd Ha D (.lst [])) it = none := (okc it (by simp)).1.1
  generalize eenv : compEnvC scope (cellsFrom (sc.heap.objs.size + 1) scope.names (cloFrom X.env.cells scope.names [])) sc.heap.objs.size X.env = env at Id g1 g2 g3 hbb ⊢
  have eloc : env.locals = sc.heap.objs.size := by subst eenv; rfl
  generalize eHc : upd Ha D (.lst []) = Hc at Ic Id g1 g2 g3 begins hid okc hbb
  generalize esd : ({ sc with heap := pushCells (sc.heap.push { cls := .type "dict", data := .dict #[] }) scope.names } : Shared) = sd at Id ⊢
  have itd : sd.heap.IsListIter it a 0 := itc.at fun o e => by
    rw [← esd]
    exact pushCells_keeps _ _ _ _ (Heap.get?_push_of_some _ e)
  have fpOk : ∀ {σ' : St} {H' : Hp} {s' : Shared}, Inv (X.blk sc Hc scope env [it]) [] σ' H' s' → H' it = none → FpOk (X.blk sc Hc scope env [it]) [] H' it := fun {σ' H' s'} I' free => by
    refine ⟨free, (I'.ok.exf it (by simp)).1, I'.ok.exfs it (by simp), .inl (by simp), fun x c e => (I'.ok.exf it (by simp)).2 x c e, fun q hq => ?_⟩
    exact absurd (show q ∈ ([] : List (Addr × Obj)) ++ [] from hq) (by simp)
  have lp : codeAny (model X.prog X.w) X.A (.compLoop (.ListComp elt [⟨tg, iter, ifs, 0⟩] scope pos) 0 (.ref it) (.ref D) env) (compPost (model X.prog X.w) X.A X.xe use Qf (.ref D) sc.heap.objs.size) sd := by
    refine compLoop_any (fun n s' => ∃ i H', Inv (X.blk sc Hc scope env [it]) [] (wipe σ (own.map (·.2))) H' s' ∧ s'.heap.IsListIter it a i ∧ H' it = none ∧ W i n H') ?_ m0 ⟨0, Hc, Id, itd, hid, begins⟩
    rintro n se ⟨i, He, Ie, ie, free, at_⟩
    obtain ⟨f0, f1, f2, f3, f4, f5⟩ := fpOk Ie free
    rcases turn i n He at_ with ⟨⟨ys, hy, hle⟩, wish⟩ | ⟨⟨ys, x0, hy, hx0⟩, On, next, step⟩
    · obtain ⟨jts, rj, lj, hj⟩ := Ie.list hy
      have hlen := rj.length
      refine next_end_hot (hbb.hot Ie) ie lj.isList (by simp; omega) fun h' eb => ?_
      have If : Inv (X.blk sc Hc scope env [it]) [] (wipe σ (own.map (·.2))) He { se with heap := h' } := Ie.turned (t' := se.toks) (fun b o hb e => eb b o hb e) f0 f1 f3 f4 f5
      have back : Inv X pl σ He { se with heap := h' } := Ic.call' (ch := [it]) If.os If.base If.hok If.bare fun b hb => ⟨(okc b hb).1.2.2.2.1, (okc b hb).1.2.1, (okc b hb).1.2.2.2.2.1, (okc b hb).1.2.2.2.2.2⟩
      have noC : He sc.heap.objs.size = none := by
        have z : He env.locals = none := If.free
        rw [eloc] at z
        exact z
      obtain ⟨m, hn, _⟩ := If.loc
      have hn' : h'.Ns env.locals m := hn
      rw [eloc] at hn'
      exact fin D sc.heap.objs.size _ m He back wish hn' (Ic.fpOk (Nat.le_refl _) noC)
    · obtain ⟨jts, rj, lj, hj⟩ := Ie.list hy
      obtain ⟨u, hu, ru⟩ := rj.get hx0
      refine wpAny_pyNext_list_item ie lj.isList (x := u) (by simpa using hu) fun h' ie' sb' => ?_
      have Ig : Inv (X.blk sc Hc scope env [it]) [] (wipe σ (own.map (·.2))) He { se with heap := h' } := Ie.turned (t' := se.toks) (fun b o hb e => (sb'.2 b hb).trans e) f0 f1 f3 f4 f5
      obtain ⟨oi, ei, ci, di⟩ := id ie'
      refine go_of (s := { se with heap := h' }) ei ci di (by decide) ?_
      have pinned := Ig.pinned (fp := [it]) (fun b hb => by
        obtain rfl : b = it := by simpa using hb
        exact fpOk Ig free) (fun b hb => by
        obtain rfl : b = it := by simpa using hb
        exact ⟨oi, ei, fun v z => by rw [di] at z; cases z⟩)
      refine thnF (g1.run _ { se with heap := h' } _ He x0 u _ pinned ru (step x0 He ⟨rfl, fun zs hz => by rw [Ie.list_inj hz hy]; exact hx0⟩)) fun _ sh ⟨σh, Hh, Ih, wh, qh⟩ => ?_
      refine thnF (g2.run _ sh σh Hh _ Ih qh) fun b si ⟨Hi, Ii, qi⟩ => ?_
      have ends : ∀ {s' : Shared} {H' : Hp}, Inv (X.blk sc Hc scope env [it]) ([] ++ pinsAt [it] h') σh H' s' → On H' →
          ∃ m, m < n ∧ ∃ i H', Inv (X.blk sc Hc scope env [it]) [] (wipe σ (own.map (·.2))) H' s' ∧ s'.heap.IsListIter it a i ∧ H' it = none ∧ W i m H' := fun {s' H'} I' on => by
        obtain ⟨m', lt, at'⟩ := next H' on
        have z := I'.pin (it, oi) (List.mem_append_right _ (List.mem_append_right _ (mem_pinsAt (by simp) ei)))
        have len : (wipe σ (own.map (·.2))).length = σh.length := by
          rw [← wh, wipe_length]
        refine ⟨m', lt, i + 1, H', (I'.unpinned (pins := [])).weak len (fun j y e => ?_), ⟨oi, z.1, ci, di⟩, z.2.1, at'⟩
        rw [← wh] at e
        exact (wipe_some e).1
      cases b with
      | false =>
        simp only [Bool.false_eq_true, if_false] at qi ⊢
        exact ends Ii qi
      | true =>
        simp only [if_true] at qi ⊢
        refine thnF (g3.run _ si σh Hi _ Ii qi) fun _ sj ⟨yv, Hj, Ij, rj', acc, eDj, few, on⟩ => ?_
        exact app_ok (X := X.blk sc Hc scope env [it]) Ij eDj few rj' fun _ Il => ends Il on
  exact codeAny_compStart_list lp (wpAny_pyIter_listiter itd lp)
/-- name = [..] on one line, while p is handled -/
theorem ps_setLcE {i : Nat} {y : Str} {py spos : Pos} (hp : p ∈ X.pn) (hb : Hb X p) (hN : X.N.Nodup) (hy : X.N[i]? = some y) (hyl : X.env.scope.names.lookup y = some .local) (hsw : swapsWith (.ListComp elt [⟨tg, iter, ifs, 0⟩] scope pos) (some (.Name y py)) spos.line X.env = pure true)
    (hi : PE X iter ti) (ok : BlkOk X.N X.env.scope scope own)
    (hg : ∀ (s : Shared) (H : Hp) (C : Addr) (cl : List (Str × Addr)) (fp : List Addr), Hb (X.blk s H scope (compEnvC scope cl C X.env) fp) p → PG (X.blk s H scope (compEnvC scope cl C X.env) fp) tg g)
    (ht : ∀ (s : Shared) (H : Hp) (C : Addr) (cl : List (Str × Addr)) (fp : List Addr), PTs (X.blk s H scope (compEnvC scope cl C X.env) fp) ifs tt)
    (he : ∀ (s : Shared) (H : Hp) (C : Addr) (cl : List (Str × Addr)) (fp : List Addr), PE (X.blk s H scope (compEnvC scope cl C X.env) fp) elt te) (hs : ∀ x, foldedSetIterable iter X.env x = pure x := by intro _; rfl) :
    PS X (.Assign [.Name y py] (.ListComp elt [⟨tg, iter, ifs, 0⟩] scope pos) spos) (tAsg (tLc (iList X.K ti) g tt te (own.map (·.2))) (gName i)) := by
  refine ⟨fun pl s σ H D I want => ?_⟩
  rw [exec_Assign_Name_used _ _ _ _ hsw]
  refine wpAny_bind (wpAny_standAt (wpAny_bind (wpAny_bind (thn (lcE (Qf := fun _ s' => SP X pl D .next s') hp hb hN I hi ok hg ht he hs (show tLc (iList X.K ti) g tt te (own.map (·.2)) σ H (fun x H1 => gName i x σ H1 D.nx) from want) fun L C s' m H' I' q hn f => ?_) fun _ s' hq => wpAny_pure (wpAny_pure hq)))))
  obtain ⟨f0, f1, f2, f3, f4, f5⟩ := f
  refine wpAny_assign_Name (store_ok2 (v := V.ref L) I' hN hy (.inl hyl) rfl (fun sx Ix ⟨a, sb, ha⟩ => ⟨m, hn.sameBut sb ?_, fun hx sbx => ⟨_, H', Ix.turned (t' := sx.toks) (fun b o hb e => (sbx.2 b hb).trans e) f0 f1 f3 f4 f5, q⟩⟩) (.inr hyl))
  rcases ha with z | z
  · rw [z]
    exact f1
  · exact fun e => f4 y a z e.symm
end
end L2
namespace L2
open PySem PySem.Spec PyProof.Rows PySem.GX HotX L2H
/-- what a def promises where p is handled: sp may speak of p -/
structure FnE (p : Addr × Obj) (P : Program) (w : World) (K : PySem.W.Frag) (mg : Str → Option Value) (base : Heap) (k : Nat) (f : Addr) (fd : FuncData) (ps : List Str) (sp : Sp) : Prop where
  len : ∀ vs H Q E, sp vs H Q E → vs.length = ps.length
  run : ∀ (A : Around) (outer : List Env) (s : Shared) (H : Hp) (args : Args) (us : List Value) (vs : List V) (Q : VK) (E : XK), RoomH k A → Hot1 A p → PinOk outer H s p → Env0 P w K mg base A outer s H → BindsTo s fd args (ps.zip us) → Vals vs us → sp vs H Q E →
    codeAny (model P w) A (.call (.ref f) args) (CR CX0 outer P w H s Q E) s
section
variable {P : Program} {w : World} {K : PySem.W.Frag} {mg : Str → Option Value} {base : Heap} {p : Addr × Obj}
theorem Fun.okE {x qual : Str} {st : Stmt} {f : Addr} {fd : FuncData} {N ps : List Str} {k : Nat} {sp : Sp} (F : Fun K x qual st f fd) (S : FnScope N ps (defScope st)) (len : ∀ vs H Q E, sp vs H Q E → vs.length = ps.length)
    (hbody : ∀ (cdv : Value) (A : Around) (outer : List Env) (s : Shared) (H : Hp) (vs : List V) (Q : VK) (E : XK), Hot1 A p → RoomH k (A.deeper (envOfC qual (defScope st) s.heap.objs.size f cdv)) → sp vs H Q E →
      ∃ t, PSs (cxH CX0 P w K mg base N qual (defScope st) f cdv A outer s H E p) (defBody st) t ∧ t { nx := fun _ H' => Q .non H', rt := Q } (start N vs) H) : FnE p P w K mg base (k + 1) f fd ps sp := by
  obtain ⟨oc, od, kV, doc, pm, an, cdv, ct, osl, rfl, lk, hcd⟩ := F.ex
  refine ⟨len, fun A outer s H args us vs Q E hr hot hpin e0 hb r want => ?_⟩
  have kin : K.In s.heap := e0.mod.kin.keeps fun b o e => (e0.bs b o e).1
  have kinds : ∀ y ∈ ps.zip us, (defScope st).names.lookup y.1 = some .local ∨ ((defScope st).names.lookup y.1 = some .cell ∧ ((cellsFrom (s.heap.objs.size + 1) (defScope st).names []).lookup y.1).isSome = true) := fun ⟨n, v⟩ hy => by
    rcases S.par n (List.of_mem_zip hy).1 with q | q
    · exact .inl q
    · exact .inr ⟨q, PySem.W.cellsFrom_some _ _ _ (.inl q)⟩
  refine codeAny_call_function hr.depth (kin _ _ lk) rfl S.co S.gen rfl (PySem.W.codeRec_of kin hcd) (hb _ _ _ _ (wpAny_newFunctionEnv_cells S.kind kinds fun env he s1 x => ?_))
  subst he
  refine ⟨(e0.mod.nolimit.keeps fun b o e => (e0.bs b o e).1).keeps x.toInCall.keep, codeAny_func ?_⟩
  obtain ⟨t, ht, hq⟩ := hbody cdv A outer s H vs Q E hot (hr.deeper _) want
  refine wpAny_mono (ht.run [] s1 (start N vs) H _ (inv_startH S hpin e0 (len _ _ _ _ want) r x) hq) (fun fl s' hs => ?_) fun e s' hs => hs
  cases fl with
  | ret u =>
    obtain ⟨v, σ', H', J, rv, q⟩ := hs
    exact ⟨v, H', J.os, J.bare, J.base, J.hok, rv, q⟩
  | next =>
    obtain ⟨σ', H', J, q⟩ := hs
    exact ⟨V.non, H', J.os, J.bare, J.base, J.hok, rfl, q⟩
  | brk =>
    obtain ⟨_, _, _, q⟩ := hs
    exact False.elim q
  | cont =>
    obtain ⟨_, _, _, q⟩ := hs
    exact False.elim q
end
def tCallE (sp : Sp) (t : TA) : TE := fun σ H Q => t σ H fun vs H1 => sp vs H1 Q fun _ _ _ => False
section
variable {X : Cx} {p : Addr × Obj} {k : Nat} {f : Addr} {fd : FuncData} {ps : List Str} {sp : Sp} {x : Str} {pp pos : Pos} {e : Expr} {es : List Expr} {t : TA}
theorem pe_callE (F : FnE p X.prog X.w X.K X.mg X.base k f fd ps sp) (hr : RoomH k X.A) (hot : Hot1 X.A p) (hp : p ∈ X.pn) (hg : Gl X x) (hm : X.mg x = some (.ref f)) (hk : PySem.W.keepIn X.K (.ref f) = true) (hb : Binds X.K fd ps [])
    (ha : PA X (e :: es) t) (hdb : (x == ("__debug__" : Str)) = false := by decide) (he : starEach (e :: es) X.env = (false, eval e X.env) :: starEach es X.env := by rfl) (hpl : (backTo pos (starEach es X.env)).any (·.1) = false := by rfl) :
    PE X (.Call (.Name x pp) (e :: es) [] pos) (tCallE sp t) := by
  refine ⟨fun pl s σ H Q I want => wpAny_Call_Name_kw (ld_glob I hg hm (PySem.W.callWith_K (h₀ := X.base) I.ok.mod.kin hk (thn (ha.run pos pl s σ H _ I want) fun us s1 ⟨vs, H1, I1, r, q⟩ => ⟨I1.kIn, ?_⟩) he hpl) hdb)⟩
  have hl : us.length = ps.length := by
    rw [← r.length]
    exact F.len _ _ _ _ q
  have b := hb s1 us I1.kIn (by rw [List.append_nil]; exact hl)
  rw [List.append_nil] at b
  have z := I1.pin p (List.mem_append_left _ hp)
  have pin : PinOk X.stack H1 s1 p := ⟨z.1, z.2.1, fun m => (List.mem_cons.mp (I1.stkSub p.1 m)).elim z.2.2.1 z.2.2.2.1, z.2.2.2.2⟩
  refine wpAny_call (codeAny_mono (F.run X.A X.stack s1 H1 ⟨us, []⟩ us vs Q _ hr hot pin I1.env0 b r q) fun r s' hq => ?_)
  cases r with
  | error e => exact False.elim hq
  | ok fl =>
    cases fl with
    | ret u => exact I1.after hq
    | next => exact False.elim hq
    | brk => exact False.elim hq
    | cont => exact False.elim hq
end
end L2
namespace L2
open PySem PySem.Spec PyProof.Rows PySem.GX HotX L2H
/-- p is an exception of the class at C, its dict at d -/
structure PIs (p : Addr × Obj) (C d : Addr) : Prop where
  cl : p.2.cls = .ref C
  di : p.2.dict = some d
section
variable {X : Cx} {p : Addr × Obj} {C d : Addr} {pins : List (Addr × Obj)} {σ : St} {H : Hp} {s : Shared} {fs : List (Str × V)}
theorem inst_p (hb : Hb X p) (hp : PIs p C d) (I : Inv X pins σ H s) (hd : H d = some (exd d fs)) : ∃ o : Obj, PySem.W.InstAt s.heap p.1 p.2 C (some o) := by
  obtain ⟨mA, ⟨o, es, ep, h1, h2⟩, _⟩ := exd_at I.hok hd
  obtain ⟨vs, dv, _⟩ := hb.ctx
  refine ⟨o, ⟨(hb.at_ _ _ _ _ I).1, hp.cl, ?_, ?_⟩⟩
  · unfold PySem.W.notCls
    rw [dv]
  · rw [hp.di]
    exact h1
end
/-- isinstance(e, c), e the exception p that is handled -/
def rIsP (p : Addr × Obj) (C d : Addr) (K : PySem.W.Frag) : List V → Hp → VK → Prop := fun xs H Q => ∃ (c : V) (u : Value) (b : Bool) (fs : List (Str × V)), xs = [.ref p.1, c] ∧ H d = some (exd d fs) ∧ ClsV c u ∧ PySem.W.kitOne K (.ref C) u = some b ∧ Q (.bl b) H
theorem call_isP {X : Cx} {p : Addr × Obj} {C d : Addr} (hb : Hb X p) (hp : PIs p C d) (T : ExcC X.K C) : CallR X (.builtin "isinstance") (rIsP p C d X.K) := by
  intro pl s σ H xs us Q I r ⟨c, u, b, fs, ex, hd, k, ek, q⟩
  subst ex
  obtain ⟨u1, u2, rfl, r1, r2⟩ := vals2 r
  have z := k.eq r2
  subst z
  obtain rfl : u1 = Value.ref p.1 := r1
  obtain ⟨o, J⟩ := inst_p hb hp I hd
  exact PySem.W.kia_one (kitG T) I.kIn J ek (fun z => nomatch z) fun tk => ⟨.bl b, H, I.tok tk, rfl, q⟩
/-- e.f, e the exception p that is handled -/
def tXfP (p : Addr × Obj) (C d : Addr) (K : PySem.W.Frag) (f : Str) (te : TE) : TE := fun σ H Q => te σ H fun x H1 => ∃ (fs : List (Str × V)) (v : V), x = .ref p.1 ∧ H1 d = some (exd d fs) ∧ PySem.W.findIn K (.ref C) f = some none ∧ fs.lookup f = some v ∧ Q v H1
theorem pe_xfP {X : Cx} {p : Addr × Obj} {C d : Addr} {e : Expr} {te : TE} {f : Str} {pos : Pos} (hb : Hb X p) (hp : PIs p C d) (T : ExcC X.K C) (he : PE X e te) (ha : attributeBase e f X.env (eval e X.env) = eval e X.env := by rfl) : PE X (.Attribute e f pos) (tXfP p C d X.K f te) := by
  refine ⟨fun pl s σ H Q I want => attr_of ha (thn (he.run pl s σ H _ I want) fun u s1 ⟨x, H1, I1, rx, fs, v, ex, hd, no, l, q⟩ => ?_)⟩
  subst ex
  obtain rfl : u = Value.ref p.1 := rx
  obtain ⟨mA, hns, rel⟩ := exd_at I1.hok hd
  obtain ⟨od, hod, hl⟩ := lookIn_ns hns
  obtain ⟨u, hu, ru⟩ := RelO.some_of (v := v) (o := mA f) (by rw [← l]; exact rel f)
  obtain ⟨vs, dv, _⟩ := hb.ctx
  have J : PySem.W.InstAt s1.heap p.1 p.2 C (some od) := ⟨(hb.at_ _ _ _ _ I1).1, hp.cl, by unfold PySem.W.notCls; rw [dv], by rw [hp.di]; exact hod⟩
  exact HandSPX.exc_get I1.kIn J T.hg T.hk T.hs (PySem.W.findObj_own T.hd no rfl (by rw [hl, hu])) (handed_of ru) ⟨v, H1, I1.tok _, ru, q⟩
end L2
namespace L2
open PySem PySem.Spec PyProof.Rows PySem.GX HotX L2H
theorem PE_imp {X : Cx} {e : Expr} {t t' : TE} (h : PE X e t) (m : ∀ σ H Q, t' σ H Q → t σ H Q) : PE X e t' := ⟨fun pins s σ H Q I q => h.run pins s σ H Q I (m σ H Q q)⟩
/-- __init__ with one field -/
def spI1 (C : Addr) (f : Str) : Sp := fun vs H Q _ => ∃ (a : Addr) (v : V), vs = [.ref a, v] ∧ H a = some (exo a C none) ∧
  ∀ d, H d = none → d ≠ a → Q .non (upd (upd H d (exd d [(f, v)])) a (exo a C (some d)))
/-- the class x at C, whose __init__ keeps its one argument as f -/
structure Mk1 (P : Program) (w : World) (K : PySem.W.Frag) (mg : Str → Option Value) (base : Heap) (x : Str) (C : Addr) (f : Str) : Prop where
  ex : ExG K C
  gC : mg x = some (.ref C)
  ini : ∃ (fI : Addr) (fd : FuncData), PySem.W.findIn K (.ref C) "__init__" = some (some (.ref fI)) ∧ PySem.W.typeIn K (.ref fI) = some (.type "function") ∧ FnOk P w K mg base CX0 1 fI fd ["self", f] (spI1 C f) ∧
    KBn K fd ["self", f] 2 [] (fun us _ => us) (fun vs _ => vs) ∧ KBn K fd ["self", f] 1 [f] (fun us ws => us ++ ws) (fun vs zs => vs ++ zs)
def tMk1 (C : Addr) (f : Str) (ta : TA) : TE := fun σ H Q => ta σ H fun vs H1 => ∃ v, vs = [v] ∧ ∀ (a d : Addr) (H2 : Hp), H1 a = none → d ≠ a → Same H1 H2 → ExAt H2 a C d [(f, v)] → Q (.ref a) H2
/-- the heap behind the making -/
theorem mk1_heap {H : Hp} {a d C : Addr} {f : Str} {v : V} (ha : H a = none) (hd : upd H a (exo a C none) d = none) (ne : d ≠ a) :
    Same H (upd (upd (upd H a (exo a C none)) d (exd d [(f, v)])) a (exo a C (some d))) ∧ ExAt (upd (upd (upd H a (exo a C none)) d (exd d [(f, v)])) a (exo a C (some d))) a C d [(f, v)] := by
  refine ⟨fun b o e => ?_, upd_same, by rw [upd_ne ne, upd_same]⟩
  have hd' : H d = none := by rw [upd_ne ne] at hd; exact hd
  rw [upd_ne (ne_of_none e ha), upd_ne (ne_of_none e hd'), upd_ne (ne_of_none e ha)]
  exact e
section
variable {X : Cx} {x f g : Str} {C : Addr} {e : Expr} {es : List Expr} {kws : List Keyword} {ta tk : TA} {p pos : Pos}
theorem pe_mk1 (M : Mk1 X.prog X.w X.K X.mg X.base x C f) (hr : Room 2 X.A) (hg : Gl X x) (ha : PA X (e :: es) ta)
    (hdb : (x == ("__debug__" : Str)) = false := by decide) (he : starEach (e :: es) X.env = (false, eval e X.env) :: starEach es X.env := by rfl) (hpl : (backTo pos (starEach es X.env)).any (·.1) = false := by rfl) :
    PE X (.Call (.Name x p) (e :: es) [] pos) (tMk1 C f ta) := by
  obtain ⟨fI, fd, iC, tI, F1, kb, _⟩ := M.ini
  refine ⟨fun pins s σ H Q I h => wpAny_Call_Name_kw (ld_glob I hg M.gC ?_ hdb)⟩
  refine PySem.W.callWith_K (h₀ := X.base) I.ok.mod.kin M.ex.kC (thn (ha.run pos pins s σ H _ I h) fun us s1 ⟨vs, H1, I1, r, v, ev, q⟩ => ⟨I1.kIn, ?_⟩) he hpl
  subst ev
  refine run_mkG (n := 1) (ks := []) (ws := []) (zs := []) M.ex iC tI F1 hr kb pass0 I1 r .nil rfl rfl (by show 1 ≤ 1000; decide) fun a na => ⟨a, v, rfl, upd_same, fun d nd ne => ⟨rfl, ?_⟩⟩
  obtain ⟨z1, z2⟩ := mk1_heap (f := f) (v := v) na nd ne
  exact q a d _ na ne z1 z2
theorem pe_mk1K (M : Mk1 X.prog X.w X.K X.mg X.base x C f) (hr : Room 2 X.A) (hg : Gl X x) (hkw : PK X kws tk)
    (hall : (backToKw pos (keywordEach kws X.env)).all (·.1.isSome) = true := by rfl) (hks : (backToKw pos (keywordEach kws X.env)).filterMap (·.1) = [f] := by rfl) (hdb : (x == ("__debug__" : Str)) = false := by decide)
    (hpl : ((backTo pos (starEach [] X.env)).any (·.1) || (backToKw pos (keywordEach kws X.env)).any (·.1.isNone)) = false := by rfl) :
    PE X (.Call (.Name x p) [] kws pos) (tMk1 C f tk) := by
  obtain ⟨fI, fd, iC, tI, F1, _, kb⟩ := M.ini
  refine ⟨fun pins s σ H Q I h => wpAny_Call_Name_kw (ld_glob I hg M.gC ?_ hdb)⟩
  refine PySem.W.callWith_KW0 (h₀ := X.base) I.ok.mod.kin M.ex.kC hall ?_ hpl
  refine thn (hkw.run pos pins s σ H _ I h) fun ws s2 ⟨zs, H1, I1, rz, v, ev, q⟩ => ⟨I1.kIn, ?_⟩
  subst ev
  rw [hks]
  refine run_mkG (n := 0) (ks := [f]) (us := []) (vs := []) M.ex iC tI F1 hr kb pass0 I1 .nil rz rfl rfl (by decide) fun a na => ⟨a, v, rfl, upd_same, fun d nd ne => ⟨rfl, ?_⟩⟩
  obtain ⟨z1, z2⟩ := mk1_heap (f := f) (v := v) na nd ne
  exact q a d _ na ne z1 z2
end

/-- an own exception with its dict, made and raised -/
theorem pmk_exo {X : Cx} {e : Expr} {te : TE} (hx : X.ex = []) (he : PE X e te) :
    L2N.PMk X e (fun σ H Q => te σ H fun x H1 => ∃ a C d, x = .ref a ∧ H1 a = some (exo a C (some d)) ∧ X.H_0 a = none ∧ Raises X (.ref C) ∧ Q (.ref C) (some d) (delH H1 a)) := by
  intro pl s σ H Q I want
  refine wpAny_mono (he.run pl s σ H _ I want) (fun u s1 ⟨v, H1, I1, r1, a, C, d, ev, ea, h0, hr, q⟩ => ?_) fun _ _ x => x
  subst ev
  cases r1
  obtain ⟨t1, ho⟩ := exo_at I1.hok ea
  obtain ⟨G, gs, ga, J⟩ := Inv.untrack I1 ea (fr0_none h0) hx
  exact ⟨a, _, _, { s1 with heap := G }, delH H1 a, .ref C, some d, rfl, J, gs, ga, ho, ⟨rfl, rfl, fun vs e => by cases e; rfl⟩, rfl, rfl, delH_same, rfl, I1.bare, hr, q⟩
/-- raise X(e): what leaves -/
def tRs1 (X : Cx) (C : Addr) (f : Str) (W : L2.WX) (ta : TA) : TS := fun _ σ H => tMk1 C f ta σ H fun x H1 => ∃ a C d, x = .ref a ∧ H1 a = some (exo a C (some d)) ∧ X.H_0 a = none ∧ Raises X (.ref C) ∧ W (.ref C) (some d) σ (delH H1 a)
section
variable {X : Cx} {x f : Str} {C : Addr} {e : Expr} {es : List Expr} {ta : TA} {pp pos pos2 : Pos} {W : L2.WX}
theorem ps_raise1 (M : Mk1 X.prog X.w X.K X.mg X.base x C f) (hr : Room 2 X.A) (hg : Gl X x) (hx : X.ex = []) (hc : X.calm = true) (tk : L2N.Takes X W) (ha : PA X (e :: es) ta)
    (hdb : (x == ("__debug__" : Str)) = false := by decide) (he : starEach (e :: es) X.env = (false, eval e X.env) :: starEach es X.env := by rfl) (hpl : (backTo pos (starEach es X.env)).any (·.1) = false := by rfl) :
    PS X (.Raise (some (.Call (.Name x pp) (e :: es) [] pos)) none pos2) (tRs1 X C f W ta) :=
  L2N.ps_raise hc tk (pmk_exo hx (pe_mk1 (p := pp) M hr hg ha hdb he hpl))
/-- how the reading is answered -/
theorem rs1_end {X : Cx} {C a d : Addr} {f : Str} {v : V} {H1 H2 : Hp} {σ : St} {W : L2.WX} (rs : Raises X (.ref C)) (h0 : Same X.H_0 H1) (na : H1 a = none) (ne : d ≠ a) (s2 : Same H1 H2) (ex : ExAt H2 a C d [(f, v)])
    (k : ∀ H3, Same H1 H3 → H3 d = some (exd d [(f, v)]) → W (.ref C) (some d) σ H3) : ∃ a' C' d', V.ref a = .ref a' ∧ H2 a' = some (exo a' C' (some d')) ∧ X.H_0 a' = none ∧ Raises X (.ref C') ∧ W (.ref C') (some d') σ (delH H2 a') := by
  refine ⟨a, C, d, rfl, ex.ob, h0.free na, rs, k _ (fun b o e => ?_) ?_⟩
  · rw [delH_ne (ne_of_none e na)]
    exact s2 b o e
  · rw [delH_ne ne]
    exact ex.di
end
/-- a def that may raise, where nothing is handled -/
theorem Fun.okN {P : Program} {w : World} {K : PySem.W.Frag} {mg : Str → Option Value} {base : Heap} {x qual : Str} {st : Stmt} {f : Addr} {fd : FuncData} {N ps : List Str} {k : Nat} {sp : Sp} (F : Fun K x qual st f fd) (S : FnScope N ps (defScope st)) (len : ∀ vs H Q E, sp vs H Q E → vs.length = ps.length)
    (hbody : ∀ (cdv : Value) (A : Around) (outer : List Env) (s : Shared) (H : Hp) (vs : List V) (Q : VK) (E : XK), Room k (A.deeper (envOfC qual (defScope st) s.heap.objs.size f cdv)) → sp vs H Q E →
      ∃ t, PSs (cxOf (L2N.CX P w) P w K mg base N qual (defScope st) f cdv A outer s H E) (defBody st) t ∧ t { nx := fun _ H' => Q .non H', rt := Q } (start N vs) H) : FnOk P w K mg base (L2N.CX P w) (k + 1) f fd ps sp := by
  obtain ⟨oc, od, kV, doc, pm, an, cdv, ct, osl, rfl, lk, hcd⟩ := F.ex
  exact fn_of lk hcd S len fun A outer s H vs Q E hr want => hbody cdv A outer s H vs Q E hr want
end L2
namespace L2
open PySem PySem.Spec PyProof.Rows PySem.GX HotX L2H
theorem flying_keep {B h h' : Heap} {l : List Env} {e : Addr} {Z : Obj → Prop} (x : HandSPX.FlyingZ B l e Z h) (k : ∀ b o, h.get? b = some o → h'.get? b = some o) : HandSPX.FlyingZ B l e Z h' := by
  obtain ⟨f1, f2, f3, oe, vs, T, oT, ts, a1, a2, a3, a4, a5, a6, a7, a8, a9⟩ := x
  exact ⟨fun b o q => k b o (f1 b o q), f2, f3.of_keeps fun b o q _ => ⟨o, k b o q, rfl⟩, oe, vs, T, oT, ts, k _ _ a1, a2, a3, a4, a5, a6, k _ _ a7, a8, a9⟩
/-- what 'except (c1, c2, ..) as n' wishes: slot i is n's; all that may come is of one of them -/
def w3 (K : PySem.W.Frag) (cs : List Value) (i : Nat) (ts : Addr → Value → Option Addr → TS) (D : Ends) : L2.WX := fun cls d σ H =>
  PySem.W.exmAny K cls cs = some true ∧ ∀ a, H a = none → ts a cls d { nx := fun σ' H' => D.nx (σ'.set i none) H', rt := D.rt, bk := fun σ' H' => D.bk (σ'.set i none) H', ct := fun σ' H' => D.ct (σ'.set i none) H' } (σ.set i (some (.ref a))) H
section
variable {X : Cx} {x1 x2 x3 n : Str} {c1 c2 c3 : Value} {i kk : Nat} {body suite : List Stmt} {b₀ : Stmt} {p1 p2 p3 tp pos pos' : Pos} {tb : L2.WX → TS} {ts : Addr → Value → Option Addr → TS}
theorem ps_try3 (hs : X.stack = X.env :: X.outer) (hf : X.env.frame = some X.env.locals) (hN : X.N.Nodup) (hi : X.N[i]? = some n) (hln : X.env.kindOf n = some .local) (m1 : Names X x1 c1) (m2 : Names X x2 c2) (m3 : Names X x3 c3)
    (hb : ∀ (W : L2.WX) (pn : List (Addr × Obj)) (xe : Value → Shared → Prop), L2N.Takes (X.tr pn xe) W → PassesOwn (model X.prog X.w) X.A X.env xe → PSs (X.tr pn xe) body (tb W))
    (hsu : ∀ (a : Addr) (oe : Obj) (cls : Value) (d : Option Addr) (pn : List (Addr × Obj)), L2N.Zn cls d oe → (∃ vs, oe.data = .fields vs) → PSs (X.suite a ((a, oe) :: pn)) (b₀ :: suite) (ts a cls d)) :
    PS X (.Try body [.ExceptHandler (some (.Tuple [.Name x1 p1, .Name x2 p2, .Name x3 p3] kk tp)) (some n) (b₀ :: suite) pos'] [] [] pos) (fun D σ H => tb (w3 X.K [c1, c2, c3] i ts D) D σ H) := by
  refine ⟨fun pl s σ H D I want => wpAny_Try_except ?_⟩
  have ok := I.ok
  have frs_ : X.A.frames = some (X.env :: X.outer) := by rw [ok.frames, hs]
  have loc_ : Loc X.env.scope n := .inl hln
  refine wpAny_mono ((hb (w3 X.K [c1, c2, c3] i ts D) (X.pn ++ pl) (fun e s₁ => wpAny (model X.prog X.w) X.A (noteFrame e X.env) (fun _ s₂ => wpAny (model X.prog X.w) X.A (setFlight e none) (fun _ s₃ =>
    wpAny (model X.prog X.w) X.A (handleBy e X.env [.ExceptHandler (some (.Tuple [.Name x1 p1, .Name x2 p2, .Name x3 p3] kk tp)) (some n) (b₀ :: suite) pos']) (SP X pl D) X.xe s₃) X.xe s₂) X.xe s₁) (fun u s' xx => ?_) PassesOwn.looking).run [] s σ H D (I.toTry _) want) (fun f s1 hsp => ?_) (fun e s1 he => he)
  · obtain ⟨a, B, sI, pins', σ', H', cls, d, rfl, J', nb, up, sky, na, os, ag, hex, hyes⟩ := xx
    have J : Inv X pl σ' H' sI := J'.ofTry ok
    show wpAny (model X.prog X.w) X.A (noteFrame (.ref a) X.env) _ _ _
    refine L2N.Sky.land L2N.Zn.steady frs_ hf (show Sky B (X.env :: X.outer) a (L2N.Zn cls d) X.env.locals s'.heap by rw [← hs]; exact sky) fun h3 fl3 up3 => ?_
    have J3 : Inv X pl σ' H' { s' with heap := h3 } := J.landed nb fl3.1 (up.trans up3) os ag
    obtain ⟨oe3, vs3, he3, hz3, hd3⟩ := fl3.there
    have nfr : a ∉ frs (X.env :: X.outer) := fun m => by
      obtain ⟨_, o', e', hnf⟩ := fl3.2.2.1.mem m
      rw [he3] at e'
      cases e'
      exact hnf _ hd3
    have nL : a ≠ X.env.locals := fun z => nfr (List.mem_filterMap.mpr ⟨X.env, List.mem_cons_self, by rw [hf, z]⟩)
    have nF : a ∉ X.fs := fun m => by
      obtain ⟨e, he, q⟩ := List.mem_filterMap.mp m
      exact nfr (List.mem_filterMap.mpr ⟨e, List.mem_cons_of_mem _ he, q⟩)
    have S3 := J3.suite he3 hd3 na nL nF
    refine wpAny_handleBy_cons (codeAny_handlers_test ?_) (by intro q; cases q)
    have nam : ∀ {x : Str} {c : Value} {np : Pos} {Q : Value → Shared → Prop} {E : Value → Shared → Prop}, Names X x c → Q c { s' with heap := h3 } → wpAny (model X.prog X.w) (X.A.mark (some (.ref a))) (eval (.Name x np) X.env) Q E { s' with heap := h3 } := fun {x c np Q E} hc q => by
      obtain ⟨hg, hdbg, hm | ⟨hm, hv, hnn⟩⟩ := hc
      · exact ld_glob (X := X.suite a ((a, oe3) :: (X.pn ++ pl))) S3 hg hm q hdbg
      · exact ld_blt (X := X.suite a ((a, oe3) :: (X.pn ++ pl))) S3 hg hm hv q hnn hdbg
    refine wpAny_Tuple (wpAny_items_cons (nam m1 (wpAny_items_cons (nam m2 (wpAny_items_cons (nam m3 (wpAny_items_nil ⟨by size_fits, ?_⟩)))))))
    have kp : ∀ q o, h3.get? q = some o → (h3.push { cls := .type "tuple", data := .seq [c1, c2, c3].toArray }).get? q = some o := fun _ _ z => Heap.get?_push_of_some _ z
    have LT : PySem.W.Looks (model X.prog X.w) (h3.push { cls := .type "tuple", data := .seq [c1, c2, c3].toArray }) (typeOf (.ref a)) cls := fun A Q E s k q => wpAny_typeOf_ref (k _ _ (kp _ _ he3)) (by rw [hz3.1]; exact q)
    refine (PySem.W.exm_tup3 (M := model X.prog X.w) (J3.kIn.keeps kp) LT (Heap.get?_push_size h3 rfl) hex).here ?_
    refine codeAny_handlers_suite_as (HandSPX.lands_againZ (flying_keep fl3 kp) fun h4 fl4 up4 => ?_)
    have J4 : Inv X pl σ' H' { s' with heap := h4 } := J.landed nb fl4.1 (((up.trans up3).trans (.of_keeps kp)).trans up4) os ag
    obtain ⟨oe4, vs4, he4, hz4, hd4⟩ := fl4.there
    have S4 := J4.suite he4 hd4 na nL nF
    refine store_ok (X := X.suite a ((a, oe4) :: (X.pn ++ pl))) (v := .ref a) S4 hN hi loc_ rfl (fun s5 S5 => wpAny_mono ((hsu a oe4 cls d (X.pn ++ pl) hz4 ⟨_, hd4⟩).run [] s5 _ H' _ S5 (hyes a na)) (fun f s6 hsp => ?_) (fun _ _ z => False.elim z)) (.inr hln)
    have leaves : ∀ {σ6 : St} {H6 : Hp} {Q : Shared → Prop}, Inv (X.suite a ((a, oe4) :: (X.pn ++ pl))) [] σ6 H6 s6 → (∀ s7, Inv X pl (σ6.set i none) H6 s7 → Q s7) →
        wpAny (model X.prog X.w) X.A (do bindName X.env n .none; unbindBehindTheSuite X.env n pos') (fun _ s7 => Q s7) X.xe s6 := fun {σ6 H6 Q} S6 hq => gone_ok (S6.unsuite ok) hN hi hln hq
    cases f with
    | next =>
      obtain ⟨σ6, H6, S6, q6⟩ := hsp
      exact leaves S6 fun s7 J7 => ⟨_, _, J7, q6⟩
    | brk =>
      obtain ⟨σ6, H6, S6, q6⟩ := hsp
      exact leaves S6 fun s7 J7 => ⟨_, _, J7, q6⟩
    | cont =>
      obtain ⟨σ6, H6, S6, q6⟩ := hsp
      exact leaves S6 fun s7 J7 => ⟨_, _, J7, q6⟩
    | ret u =>
      obtain ⟨v6, σ6, H6, S6, r6, q6⟩ := hsp
      exact leaves S6 fun s7 J7 => ⟨_, _, _, J7, r6, q6⟩
  · cases f with
    | next =>
      obtain ⟨σ', H', J', q⟩ := hsp
      exact wpAny_execs_nil ⟨σ', H', J'.ofTry ok, q⟩
    | brk =>
      obtain ⟨σ', H', J', q⟩ := hsp
      exact ⟨σ', H', J'.ofTry ok, q⟩
    | cont =>
      obtain ⟨σ', H', J', q⟩ := hsp
      exact ⟨σ', H', J'.ofTry ok, q⟩
    | ret u =>
      obtain ⟨v, σ', H', J', r, q⟩ := hsp
      exact ⟨v, σ', H', J'.ofTry ok, r, q⟩
end
end L2
namespace L2
open PySem PySem.Spec PyProof.Rows PySem.GX HotX L2H LamX
/-- what is invariant does not speak of the wish about exceptions -/
theorem Inv.xe_ {X : Cx} {pins : List (Addr × Obj)} {σ : L2.St} {H : Hp} {s : Shared} (I : Inv X pins σ H s) (e : Value → Shared → Prop) : Inv { X with xe := e } pins σ H s :=
  have o := I.ok
  ⟨⟨o.mod, o.kind, o.glob, o.blt, o.above, o.inj, o.has, o.cab, o.hd, o.frames, o.stk, o.exf, o.bs, o.bsz, o.noex, o.exfs, o.funs, o.frf⟩, I.os, I.bare, I.base, I.loc, I.cell, I.free, I.freeC, I.pin, I.hok, I.len⟩
/-- the context of a lambda's body; what leaves it has no context of its own -/
def lamN (X : Cx) (A : Around) (outer : List Env) (s : Shared) (H : Hp) (E : XK) (scope : Scope) (f c' : Addr) : Cx :=
  { lamCx X A outer s H E scope f c' with xe := fun e s' => wpAny (model X.prog X.w) (A.deeper (lamEnv X scope s.heap.objs.size f c')) (leaving (lamEnv X scope s.heap.objs.size f c') e) (fun _ s'' => L2N.CX X.prog X.w outer H s E e s'') (fun e' s'' => L2N.CX X.prog X.w outer H s E e' s'') s' }
section
variable {X : Cx} {pl : List (Addr × Obj)} {σ : L2.St} {H : Hp} {s : Shared}
/-- a(), in the def that got the lambda -/
theorem pe_actN {CXg : CXT} {Eg : XK} {Ng : List Str} {qg : Str} {sg : Scope} {g f c' : Addr} {cdg pm ctv : Value} {params : Arguments} {body : Expr} {scope : Scope} {k i : Nat} {a : Str} {pn : List (Addr × Obj)} {xe : Value → Shared → Prop} {W : L2.WX} {E : XK} {tb : TE} {p1 p2 : Pos}
    (I : Inv X pl σ H s) (L : LamS X.env.scope scope) (hf : s.heap.get? f = some (PySem.W.kla_obj "<lambda>" (X.env.qual ++ "<lambda>") params body scope (cloFrom X.env.cells scope.names []) pm c' ctv)) (hfn : H f = none) (hfr : f ∉ frs X.stack)
    (hbind : bindArgs (PySem.W.kla_fn "<lambda>" (X.env.qual ++ "<lambda>") params body scope (cloFrom X.env.cells scope.names []) pm (.ref c') ctv) ⟨[], []⟩ = pure [])
    (tk : L2N.Takes ((cxOf CXg X.prog X.w X.K X.mg X.base Ng qg sg g cdg X.A X.stack s H Eg).tr pn xe) W) (hW : ∀ cls d σ' H', E cls d H' → W cls d σ' H') (hr : Room (k + 1) (X.A.deeper (envOfC qg sg s.heap.objs.size g cdg)))
    (hbody : ∀ (A : Around) (outer : List Env) (s : Shared) (H : Hp), Room k (A.deeper (lamEnv X scope s.heap.objs.size f c')) → PE (lamN X A outer s H E scope f c') body tb)
    (hN : Ng[i]? = some a) (hv : Vis sg a) (hd : (a == ("__debug__" : Str)) = false := by decide) (hcd : (a == ("__classdict__" : Str)) = false := by decide) :
    PE ((cxOf CXg X.prog X.w X.K X.mg X.base Ng qg sg g cdg X.A X.stack s H Eg).tr pn xe) (.Call (.Name a p1) [] [] p2)
      (fun σZ HZ Q => σZ[i]? = some (some (.ref f)) ∧ HZ c' = some (CodeO c' (X.env.qual ++ "<lambda>")) ∧ tb σ HZ Q) := by
  refine ⟨fun plZ sZ σZ HZ Q IZ ⟨hs, hc, want⟩ => wpAny_Call_Name_kw (thn ((pe_var (pos := p1) (i := i) hN hv hd hcd).run plZ sZ σZ HZ (fun v H1 => v = .ref f ∧ H1 = HZ) IZ ⟨.ref f, hs, rfl, rfl⟩) fun u s1 ⟨v, H1, I1, r1, ev, eH⟩ => ?_)⟩
  subst ev
  rw [eH] at I1
  obtain rfl : u = Value.ref f := r1
  have of1 : s1.heap.get? f = some (PySem.W.kla_obj "<lambda>" (X.env.qual ++ "<lambda>") params body scope (cloFrom X.env.cells scope.names []) pm c' ctv) := I1.base.keep f _ hf hfn hfr (fun z => nomatch (show f ∈ ([] : List Addr) from z))
  obtain ⟨⟨oc, vs, t, hoc, hdc, hvc⟩, _, _⟩ := I1.hok c' _ hc
  have rc : codeAny (model X.prog X.w) (X.A.deeper (envOfC qg sg s.heap.objs.size g cdg)) (.call (.ref f) ⟨[], []⟩) (CR (L2N.CX X.prog X.w) (envOfC qg sg s.heap.objs.size g cdg :: X.stack) X.prog X.w HZ s1 Q E) s1 := by
    refine PySem.W.kla_callFunE hr.depth of1 rfl L.co L.gen rfl ⟨c', oc, vs, t, rfl, hoc, hdc, hvc⟩ ?_
    rw [hbind]
    refine wpAny_pure (wpAny_newFunctionEnv (fun y hy => (L.own y hy).2) (fun y hy => absurd hy (by simp)) (fun h₁ hns hsb => ⟨I1.nolimit.fresh _ hsb, ?_⟩) L.kind)
    show codeAny _ _ (.expr body (lamEnv X scope s1.heap.objs.size f c')) _ _
    have J := (lam_start2 (E := E) (f := f) (c' := c') (tk := s1.toks + ([] : List (Str × Value)).length) I L I1.env0 hr.hd (show Un (frs X.stack) [] H HZ s.heap s1.heap from I1.base) hns fun b o e => hsb.extBut b o (Nat.ne_of_lt (Heap.lt_size e)) (Heap.get?_push_of_some _ e)).xe_ (fun e s' => wpAny (model X.prog X.w) ((X.A.deeper (envOfC qg sg s.heap.objs.size g cdg)).deeper (lamEnv X scope s1.heap.objs.size f c')) (leaving (lamEnv X scope s1.heap.objs.size f c') e) (fun _ s'' => L2N.CX X.prog X.w (envOfC qg sg s.heap.objs.size g cdg :: X.stack) HZ s1 E e s'') (fun e' s'' => L2N.CX X.prog X.w (envOfC qg sg s.heap.objs.size g cdg :: X.stack) HZ s1 E e' s'') s')
    refine PySem.W.kla_codeExpr (wpAny_mono ((hbody _ _ s1 HZ (hr.deeper _)).run [] _ _ HZ Q J want) (fun v s' ⟨w', H', J', rv, q⟩ => ⟨w', H', J'.os, J'.bare, J'.base, J'.hok, rv, q⟩) fun e s' hq => hq)
  refine PySem.W.callWith_F0 ⟨_, _, _, _, of1⟩ (wpAny_call (codeAny_mono rc fun r s' hq => ?_))
  cases r with
  | error e => exact L2N.passes_call tk hW plZ σZ HZ s1 e s' I1 hq
  | ok fl =>
    cases fl with
    | ret u => exact I1.after hq
    | next => exact False.elim hq
    | brk => exact False.elim hq
    | cont => exact False.elim hq
end
/-- the def that calls what it got (TT: what it makes of the lambda's reading) -/
def GivesN (X : Cx) (k : Nat) (Ng : List Str) (x : Str) (sg : Scope) (g : Addr) (cdg : Value) (bg : List Stmt) (a : Str) (q : Str) (TT : (XK → Hp → VK → Prop) → Hp → VK → Prop) : Prop :=
  ∀ (f c' : Addr) (s : Shared) (H : Hp) (Q : VK) (tl : XK → Hp → VK → Prop), Room k (X.A.deeper (envOfC x sg s.heap.objs.size g cdg)) →
    (∀ (W : L2.WX) (pn : List (Addr × Obj)) (xe : Value → Shared → Prop) (E : XK) (p1 p2 : Pos), L2N.Takes ((cxOf CX0 X.prog X.w X.K X.mg X.base Ng x sg g cdg X.A X.stack s H E0).tr pn xe) W → (∀ cls d σ' H', E cls d H' → W cls d σ' H') →
      PE ((cxOf CX0 X.prog X.w X.K X.mg X.base Ng x sg g cdg X.A X.stack s H E0).tr pn xe) (.Call (.Name a p1) [] [] p2) (fun σZ HZ Q => σZ[0]? = some (some (.ref f)) ∧ HZ c' = some (CodeO c' q) ∧ tl E HZ Q)) →
    H c' = some (CodeO c' q) → TT tl H Q →
    ∃ t, PSs (cxOf CX0 X.prog X.w X.K X.mg X.base Ng x sg g cdg X.A X.stack s H E0).nox bg t ∧ t { nx := fun _ H' => Q .non H', rt := Q } (L2.start Ng [.ref f]) H
section
variable {X : Cx}
/-- x(lambda: body) -/
theorem pe_lamN {T : List (Addr × Str)} {TT : (XK → Hp → VK → Prop) → Hp → VK → Prop} {x a : Str} {g c P : Addr} {k : Nat} {pg : Arguments} {bg : List Stmt} {sg : Scope} {dV kV doc pm cdv ct oc : Value} {an od : Option Addr} {osl : Array (Option Value)} {Ng : List Str}
    {params : Arguments} {body : Expr} {scope : Scope} {t : XK → TE} {p lpos pos : Pos} (hg : Gl X x) (hm : X.mg x = some (.ref g)) (hk : PySem.W.keepIn X.K (.ref g) = true)
    (lk : X.K.lookup g = some ⟨oc, od, .func (PySem.W.fnOf x x pg bg sg dV kV doc pm an cdv ct), osl⟩) (hcg : PySem.W.codeIn X.K cdv x = true) (hb : L2.Binds X.K (PySem.W.fnOf x x pg bg sg dV kV doc pm an cdv ct) [a] []) (Sg : FnScope Ng [a] sg) (hNg : Ng[0]? = some a) (hva : Vis sg a)
    (hG : GivesN X (k + 1) Ng x sg g cdv bg a (X.env.qual ++ "<lambda>") TT)
    (TB : TabB X.base X.mg c P) (hcode : X.env.code = .ref c) (hmT : (P, X.env.qual ++ "<lambda>") ∈ T) (hu : ∀ p ∈ T, p.1 = P → p.2 = X.env.qual ++ "<lambda>") (hr : Room (k + 2) X.A) (L : LamS X.env.scope scope) (hdef : defaultsOf params X.env = ([], []))
    (hbind : ∀ (q : Str) (cl : List (Str × Addr)) (pm cv ctv : Value), bindArgs (PySem.W.kla_fn "<lambda>" q params body scope cl pm cv ctv) ⟨[], []⟩ = pure [])
    (hbody : ∀ (A : Around) (outer : List Env) (s : Shared) (H : Hp) (E : XK) (f c' : Addr), Room k (A.deeper (lamEnv X scope s.heap.objs.size f c')) → PE (lamN X A outer s H E scope f c') body (t E))
    (hdb : (x == ("__debug__" : Str)) = false := by decide) (hd : (a == ("__debug__" : Str)) = false := by decide) (hcd : (a == ("__classdict__" : Str)) = false := by decide) :
    PE X (.Call (.Name x p) [.Lambda params body scope lpos] [] pos) (tLam T TT t) := by
  refine ⟨fun pl s σ H Q I ⟨hT, want⟩ => wpAny_Call_Name_kw (ld_glob I hg hm (PySem.W.callWith_K (h₀ := X.base) I.ok.mod.kin hk ?_ (by rfl) (by rfl)) hdb)⟩
  show wpAny _ _ (spliced ((false, eval (.Lambda params body scope lpos) X.env) :: backTo pos (starEach [] X.env))) _ _ s
  refine Calls.spliced_cons (lam_make2 I TB hcode hmT hu hT hdef (L.has I.ok) fun f c' pm' ctv H1 s' I1 eN T1 hf hfn hfr hco => Calls.spliced_nil ⟨I1.kIn, ?_⟩)
  have rc : codeAny (model X.prog X.w) X.A (.call (.ref g) ⟨[.ref f], []⟩) (CR CX0 X.stack X.prog X.w H1 s' Q E0) s' := by
    refine run_ofS (N := Ng) (ps := [a]) (us := [.ref f]) (vs := [.ref f]) lk hcg Sg hr I1.env0 (hb s' [.ref f] I1.kIn rfl) (.cons rfl .nil) rfl fun hr' => ?_
    obtain ⟨t', ht', hq'⟩ := hG f c' s' H1 Q (fun E H' Q' => t E σ H' Q') hr' (fun W pn xe E p1 p2 tk hW => pe_actN (i := 0) I1 L hf hfn hfr (hbind _ _ _ _ _) tk hW hr' (fun A outer s H hr2 => hbody A outer s H E f c' hr2) hNg hva hd hcd) hco (want H1 eN T1)
    exact ⟨t', ht'.nox, hq'⟩
  refine wpAny_call (codeAny_mono rc fun r s2 hq => ?_)
  cases r with
  | error e => exact (show False from hq).elim
  | ok fl =>
    cases fl with
    | ret u => exact I1.after hq
    | next => exact False.elim hq
    | brk => exact False.elim hq
    | cont => exact False.elim hq
end
end L2
namespace L2
open PySem PySem.Spec PyProof.Rows PySem.GX LamX
/-- the law's call, its promise where no repr is under way; the tables ts of code objects may grow -/
theorem law_callGT {P : Program} {w : World} {K : PySem.W.Frag} {mg mb : Str → Option Value} {CX : CXT} {k : Nat} {fa a : Addr} {fd : FuncData} {x : Str} {sp : Sp} {s1 : Shared} {vs : List Value} {ns : List Int} {ts : List (Addr × Addr)}
    (KX : K.In s1.heap) (hns : s1.heap.Ns mainGlobals mg) (hb : s1.heap.Ns builtinsNs mb) (hbb : ∀ x : Str, x ≠ "__name__" → mb x = bootBuiltins x) (hlim : s1.heap.NoLimit) (hg : s1.gens = #[])
    (t1 : ∀ q ∈ ts, s1.heap.get? q.2 = some (PySem.W.tabObj #[]) ∧ K.lookup q.2 = none ∧ PySem.W.CodeHd s1.heap q.1 q.2)
    (hbm : ∃ (m : Addr) (om : Obj), mg "__builtins__" = some (.ref m) ∧ m ≠ builtinsNs ∧ s1.heap.get? m = some om ∧ om.cls = .type "module" ∧ om.dict = some builtinsNs ∧ om.data = .plain)
    (ha : s1.heap.get? a = some { cls := .type "list", data := .seq vs.toArray }) (hi : IntsAre vs ns) (hl : ns.length ≤ sizeLine) (hr : Room k callerA)
    (F : ∀ base : Heap, K.In base → base.Ns mainGlobals mg → (∀ q ∈ ts, TabB base mg q.1 q.2) → FnG P w K mg base CX k fa fd [x] sp) (hbind : ∀ (s : Shared) (u : Value), BindsTo s fd ⟨[u], []⟩ [(x, u)])
    (hsp : ∀ H : Hp, (∀ q ∈ ts, H q.2 = some (.tbl #[])) → SqL K H a (ns.map V.int) → sp [.ref a] H (fun v _ => v = .bl true) fun _ _ _ => False)
    (hCX : ∀ H e s', CX [] H s1 (fun _ _ _ => False) e s' → False) :
    codeAny (model P w) callerA (.call (.ref fa) ⟨[.ref a], []⟩) (fun r s' => r = .ok (.ret (.bool true)) ∧ OldK s1.heap s'.heap ∧ s'.os = s1.os ∧ AllBare s'.gens) s1 := by
  have rv := vals_ints hi
  have lenV := hi.length
  let T : List Addr := ts.map (·.2)
  have tT : ∀ b ∈ T, ∃ q ∈ ts, q.2 = b := fun b h => List.mem_map.mp h
  have oT : ∀ b ∈ T, s1.heap.get? b = some (PySem.W.tabObj #[]) := fun b h => by
    obtain ⟨q, hq, rfl⟩ := tT b h
    exact (t1 q hq).1
  have naT : a ∉ T := fun h => by
    have e := oT a h
    rw [ha] at e
    have d : Data.seq vs.toArray _ = Data.fields #[] := congrArg Obj.data (Option.some.inj e)
    cases d
  let sc : HO := .frz { cls := .type "list", data := .seq vs.toArray } (.lst (ns.map V.int))
  let H : Hp := fun b => if b ∈ T then some (.tbl #[]) else if b = a ∧ (K.lookup a).isNone = true then some sc else none
  have HT : ∀ b ∈ T, H b = some (.tbl #[]) := fun b h => if_pos h
  have isH : ∀ b, H b ≠ none → b ∈ T ∨ b = a ∧ K.lookup a = none := fun b h => by
    by_cases h1 : b ∈ T
    · exact .inl h1
    · by_cases h2 : b = a ∧ (K.lookup a).isNone = true
      · exact .inr ⟨h2.1, Option.isNone_iff_eq_none.mp h2.2⟩
      · exact absurd ((if_neg h1).trans (if_neg h2)) h
  have sH : ∀ b u, H b = some u → b ∉ T → u = sc := fun b u e h1 => by
    have e2 : (if b = a ∧ (K.lookup a).isNone = true then some sc else none) = some u := (if_neg h1).symm.trans e
    by_cases h2 : b = a ∧ (K.lookup a).isNone = true
    · exact (Option.some.inj ((if_pos h2).symm.trans e2)).symm
    · cases (if_neg h2).symm.trans e2
  have seqA : SqL K H a (ns.map V.int) := by
    cases hk : K.lookup a with
    | some o =>
      have e := KX a o hk
      rw [ha] at e
      cases e
      exact .inr ⟨_, vs.toArray, _, hk, rfl, rfl, rfl, by rw [List.size_toArray, lenV]; exact hl, by simpa using rv⟩
    | none =>
      refine .inl (.inr ⟨{ cls := .type "list", data := .seq vs.toArray }, (if_neg naT).trans (if_pos ⟨rfl, ?_⟩)⟩)
      rw [hk]
      rfl
  have hok : HOk P w H s1.heap := fun b u e => by
    by_cases h1 : b ∈ T
    · have e2 := (HT b h1).symm.trans e
      cases e2
      exact oT b h1
    · have e3 := sH b u e h1
      have e4 : b = a := ((isH b (by rw [e]; simp)).resolve_left h1).1
      subst e3 e4
      exact ⟨ha, by rw [List.length_map]; exact hl, vs, _, rv, ha⟩
  -- what is of another kind is not tracked
  have off : ∀ {b : Addr} {o : Obj}, s1.heap.get? b = some o → (∀ z n, o.data ≠ .seq z n) → o.data ≠ .fields #[] → H b = none := fun {b o} e d1 d2 => by
    cases q : H b with
    | none => rfl
    | some u =>
      rcases isH b (by rw [q]; simp) with m | ⟨m, _⟩
      · rw [oT b m] at e
        cases e
        exact absurd rfl d2
      · rw [m, ha] at e
        cases e
        exact absurd rfl (d1 _ _)
  have offD : ∀ {b : Addr} {o : Obj} {es : Array DictEntry} {ep : Nat}, s1.heap.get? b = some o → o.data = .dict es ep → H b = none := fun {b o es ep} e d =>
    off e (fun z n q => by rw [d] at q; cases q) (fun q => by rw [d] at q; cases q)
  have nsB : ∀ {b : Addr} {m : Str → Option Value}, s1.heap.Ns b m → (hidT s1.heap H).Ns b m := fun {b m} ⟨o, es, ep, e, d, r⟩ => ⟨o, es, ep, hidT_get e (offD e d), d, r⟩
  have inB : K.In (hidT s1.heap H) := fun b o e => hidT_get (KX b o e) (by
    cases q : H b with
    | none => rfl
    | some u =>
      rcases isH b (by rw [q]; simp) with m | ⟨m, m2⟩
      · obtain ⟨r, hq, rfl⟩ := tT b m
        rw [(t1 r hq).2.1] at e
        cases e
      · rw [m, m2] at e
        cases e)
  have modB : Mod K mg (hidT s1.heap H) := ⟨inB, nsB hns, ⟨mb, nsB hb, hbb⟩, let ⟨mc, l1, l2⟩ := hlim; ⟨mc, nsB l1, l2⟩⟩
  have tabB : ∀ q ∈ ts, TabB (hidT s1.heap H) mg q.1 q.2 := fun q hq => by
    obtain ⟨oq, _, ⟨oc, us, fl, tf, fg, tg, nF, tx, tt, c1, c2, c3, c4, c5⟩⟩ := t1 q hq
    refine ⟨⟨oc, us, fl, tf, fg, tg, nF, tx, tt, hidT_get c1 (off c1 (fun z n d => by rw [c3] at d; cases d) fun d => ?_), c2, c3, c4, c5⟩, ?_, fun z => ?_⟩
    · rw [c3] at d
      cases d
      simp at c4
    · obtain ⟨m, om, b1, b2, b3, b4, b5, b6⟩ := hbm
      refine ⟨m, om, b1, b2, fun z => ?_, fun z => ?_, hidT_get b3 (off b3 (fun z n d => by rw [b6] at d; cases d) fun d => by rw [b6] at d; cases d), b4, b5, b6⟩
      · obtain ⟨o, es, ep, e, d, _⟩ := hns
        rw [z, e] at b3
        cases b3
        rw [d] at b6
        cases b6
      · rw [z, oq] at b3
        cases b3
        cases b6
    · obtain ⟨o, es, ep, e, d, _⟩ := hns
      rw [z, oq] at e
      cases e
      cases d
  have e0 : Env0 P w K mg (hidT s1.heap H) callerA [] s1 H :=
    ⟨rfl, modB, fun b o e => of_hidT e, Nat.le_of_eq (hidT_size _ _), trivial, fun b m => absurd (show b ∈ ([] : List Addr) from m) (by simp), hok, .of_eq hg⟩
  refine codeAny_mono ((F _ inB (nsB hns) tabB).run callerA [] s1 H ⟨[.ref a], []⟩ [.ref a] [.ref a] _ _ rfl hr e0 (hbind s1 (.ref a)) (.cons rfl .nil) (hsp H (fun q hq => HT _ (List.mem_map.mpr ⟨q, hq, rfl⟩)) seqA)) fun r s' h => ?_
  cases r with
  | error e => exact (hCX H e s' h).elim
  | ok fl =>
    cases fl with
    | next => exact False.elim h
    | brk => exact False.elim h
    | cont => exact False.elim h
    | ret u =>
      obtain ⟨v, H', os, bare, un, hok', r', q⟩ := h
      have qv : v = .bl true := q
      subst qv
      obtain rfl : u = Value.bool true := r'
      have stays : ∀ b o, b ∉ T → s1.heap.get? b = some o → s'.heap.get? b = some o := fun b o nb e => by
        cases q : H b with
        | none => exact un.keep b o e q (by intro z; exact absurd (show b ∈ ([] : List Addr) from z) (by simp)) (by simp)
        | some u =>
          have e3 := sH b u q nb
          subst e3
          have z2 := un.frzs b _ _ q
          obtain ⟨k1, _⟩ := hok b _ q
          obtain ⟨k2, _⟩ := hok' b _ z2
          rw [e] at k1
          cases k1
          exact k2
      have grows : ∀ b ∈ T, ∃ more : Array Value, s'.heap.get? b = some (PySem.W.tabObj more) := fun b m => by
        obtain ⟨more, z⟩ := un.tbls b #[] (HT b m)
        exact ⟨_, hok' b _ z⟩
      refine ⟨rfl, ⟨fun b o e => ?_, fun b o e => ?_⟩, os, bare⟩
      · by_cases m : b ∈ T
        · obtain ⟨q, hq, rfl⟩ := tT b m
          obtain ⟨more, hm⟩ := grows _ m
          obtain ⟨oq, _, cq⟩ := t1 q hq
          rw [oq] at e
          cases e
          exact .inr (.inl ⟨(cq.tab oq).isCodeTable, rfl, #[], more, rfl, by rw [Array.empty_append]; exact hm⟩)
        · exact .inl (stays b o m e)
      · by_cases m : b ∈ T
        · obtain ⟨more, hm⟩ := grows _ m
          exact ⟨_, hm⟩
        · exact ⟨o, stays b o m e⟩
/-- the walk of a law whose defs make lambdas -/
theorem walk_GT {l : PySem.W.OpenLaw} {n k : Nat} {q : Program} {loose : List Str} {XP : (Str → Option Value) → Heap → Prop} {YP : World → Heap → Prop} {d : DefRec} {K : Params → PySem.W.Frag} {sp : PySem.W.Frag → List (Addr × Addr) → Sp} {x : Str} {ts : List (Addr × Addr)}
    (hn : l.most = some n) (hn2 : n ≤ sizeLine) (hdf : d.params.defaults = []) (hr : Room k callerA)
    (hY : ∀ (w : World) (h : Heap), YP w h → (K w.params).In h) (hZ : ∀ (w : World) (h : Heap), YP w h → ∀ q ∈ ts, h.get? q.2 = some (PySem.W.tabObj #[]) ∧ (K w.params).lookup q.2 = none ∧ PySem.W.CodeHd h q.1 q.2)
    (F : ∀ (w : World) (mg : Str → Option Value) (fa : Addr) (h : Heap), (K w.params).In h → h.Ns mainGlobals mg → mg d.name = some (.ref fa) →
      ∃ fd : FuncData, (∀ (s : Shared) (u : Value), BindsTo s fd ⟨[u], []⟩ [(x, u)]) ∧
        ∀ base : Heap, (K w.params).In base → base.Ns mainGlobals mg → (∀ q ∈ ts, TabB base mg q.1 q.2) → FnG l.prog w (K w.params) mg base CX0 k fa fd [x] (sp (K w.params) ts))
    (hsp : ∀ (K : PySem.W.Frag) (H : Hp) (a : Addr) (ns : List Int), ns.length ≤ n → (∀ q ∈ ts, H q.2 = some (.tbl #[])) → SqL K H a (ns.map V.int) → sp K ts [.ref a] H (fun v _ => v = .bl true) fun _ _ _ => False) :
    PySem.W.WalkO q loose XP YP l.row.toRowW d [] (fun f vs => PySem.call f vs) := by
  refine Att.attach_call hn hdf fun w s₀ s1 mg mb fa o pm cd doc a vs ns G Y ho hd hcd hmg hobj hints hlen hg => ?_
  have KX := hY w _ Y
  have t1 := hZ w _ Y
  obtain ⟨fd, hb, hF⟩ := F w mg fa _ KX G.T.g hmg
  exact law_callGT KX G.T.g G.T.b G.T.builtins G.T.nolimit hg t1 G.T.bmain hobj hints (Nat.le_trans hlen hn2) hr hF hb (fun H hT hS => hsp (K w.params) H a ns hlen hT hS) fun _ _ _ z => z
end L2
namespace My
open PySem PySem.Spec PyProof.Rows L2 PySem.GX L2H LamX
theorem ix_tupK {X : Cx} {K : PySem.W.Frag} (h : X.K = K) : IxR X (rIxT K) := by subst h; exact ix_tup
theorem call_isiK {X : Cx} {K : PySem.W.Frag} (h : X.K = K) : CallR X (.builtin "isinstance") (rIsi K) := by subst h; exact call_isi
def rJoinK (K : PySem.W.Frag) : V → List V → Hp → VK → Prop := fun x xs H Q => ∃ a p, ∃ ys : List Str, x = .str a ∧ xs = [.ref p] ∧ (SqL K H p (ys.map V.str) ∨ SqT K H p (ys.map V.str)) ∧ (ys.map (·.length)).sum + ys.length * a.length ≤ 16777216 ∧ Q (.str (Txt.join a ys)) H
theorem pe_joinK {X : Cx} {K : PySem.W.Frag} {o e : Expr} {to te : TE} {apos pos : Pos} (h : X.K = K) (ho : PE X o to) (he : PE X e te) (hs : starEach [e] X.env = [(false, eval e X.env)] := by rfl) (hbase : attributeBase o "join" X.env (eval o X.env) = eval o X.env := by rfl) (hline : (apos.endLine == pos.line) = true := by rfl) :
    PE X (.Call (.Attribute o "join" apos) [e] [] pos) (tM1 (rJoinK K) to te) := by
  subst h
  exact pe_join ho he hs hbase hline
theorem pi_listK {X : Cx} {K : PySem.W.Frag} {tg l : Expr} {tl : TE} (h : X.K = K) (hl : PE X l tl) : PI X tg l (iList K tl) := by
  subst h
  exact pi_list hl
theorem op_in_seqK {X : Cx} {K : PySem.W.Frag} (h : X.K = K) : OpR X (compareOp .In) (rIn K false) := by subst h; exact op_in_seq
end My
set_option pp.maxSteps 1500
namespace L2
open PySem PySem.Spec PyProof.Rows PySem.GX NdefX LamX
/-! a function that a def returned: its cells are kept in the heap as things of their own -/
def CellX (c : Addr) (v : V) : HO := .ext fun h => ∃ u, RelV v u ∧ h.IsCell c (some u)
theorem cellX_own {c x : Addr} {v : V} : CellX c v ≠ .own x := fun z => by cases z
theorem cellX_tup {c : Addr} {v : V} {xs : List V} : CellX c v ≠ .tup xs := fun z => by cases z
def hide (H : Hp) (cs : List Addr) : Hp := fun b => if b ∈ cs then none else H b
def unhide (H : Hp) (cs : List Addr) (H' : Hp) : Hp := fun b => if b ∈ cs then H b else H' b
theorem hide_in {H : Hp} {cs : List Addr} {b : Addr} (h : b ∈ cs) : hide H cs b = none := by unfold hide; rw [if_pos h]
theorem hide_out {H : Hp} {cs : List Addr} {b : Addr} (h : b ∉ cs) : hide H cs b = H b := by unfold hide; rw [if_neg h]
theorem unhide_in {H H' : Hp} {cs : List Addr} {b : Addr} (h : b ∈ cs) : unhide H cs H' b = H b := by unfold unhide; rw [if_pos h]
theorem unhide_out {H H' : Hp} {cs : List Addr} {b : Addr} (h : b ∉ cs) : unhide H cs H' b = H' b := by unfold unhide; rw [if_neg h]
/-- all these are cells -/
def CellsX (H : Hp) (cs : List Addr) : Prop := ∀ c ∈ cs, ∃ v, H c = some (CellX c v)
theorem CellsX.out {H : Hp} {cs : List Addr} (a : CellsX H cs) {b : Addr} {o : HO} (e : H b = some o) (n : ∀ v, o ≠ CellX b v) : b ∉ cs := fun m => by
  obtain ⟨v, ev⟩ := a b m
  rw [e] at ev
  exact n v (Option.some.inj ev)
theorem hide_some {H : Hp} {cs : List Addr} {b : Addr} {o : HO} (e : hide H cs b = some o) : b ∉ cs ∧ H b = some o := by
  by_cases h : b ∈ cs
  · rw [hide_in h] at e; cases e
  · rw [hide_out h] at e; exact ⟨h, e⟩
section
variable {P : Program} {w : World} {K : PySem.W.Frag} {mg : Str → Option Value} {base : Heap} {A : Around} {outer : List Env} {s : Shared} {H : Hp} {cs : List Addr}
theorem hide_ok {h : Heap} (x : HOk P w H h) (a : CellsX H cs) : HOk P w (hide H cs) h := fun b o e => by
  obtain ⟨n, e'⟩ := hide_some e
  refine (x b o e').stay (fun _ _ _ q => q) (fun c q => ?_) (fun c xs q => ?_)
  · rw [hide_out (a.out q fun v z => cellX_own z.symm)]; exact q
  · rw [hide_out (a.out q fun v z => cellX_tup z.symm)]; exact q
theorem hide_env (e : Env0 P w K mg base A outer s H) (a : CellsX H cs) : Env0 P w K mg base A outer s (hide H cs) := by
  refine { frames := e.frames, mod := e.mod, bs := fun b o q => ⟨(e.bs b o q).1, ?_⟩, bsz := e.bsz, funs := e.funs, frf := fun b hb => ?_, hok := hide_ok e.hok a, bare := e.bare }
  · have := (e.bs b o q).2
    unfold hide
    split
    · rfl
    · exact this
  · have := e.frf b hb
    unfold hide
    split
    · rfl
    · exact this
theorem cell_keep {h h' : Heap} {c : Addr} {v : V} (x : ObjOk P w H h c (CellX c v)) (k : ∀ o, h.get? c = some o → h'.get? c = some o) : ObjOk P w H h' c (CellX c v) := by
  obtain ⟨p, ⟨o, e⟩, st⟩ := x
  exact ⟨st _ _ p k, ⟨o, k _ e⟩, st⟩
/-- behind the call the cells are there again -/
theorem unhide_end {Q : VK} {u : Value} {s' : Shared} (e : Env0 P w K mg base A outer s H) (a : CellsX H cs) (h : CE outer P w (hide H cs) s (fun v H' => (∀ c ∈ cs, H' c = none) → Q v (unhide H cs H')) u s') : CE outer P w H s Q u s' := by
  obtain ⟨v, H', os, bare, un, ok, r, q⟩ := h
  have nofr : ∀ c ∈ cs, c ∉ frs outer := fun c hc hf => by
    obtain ⟨v, ev⟩ := a c hc
    rw [e.frf c hf] at ev
    cases ev
  have obj : ∀ c ∈ cs, ∃ o v, s.heap.get? c = some o ∧ H c = some (CellX c v) ∧ ObjOk P w H s.heap c (CellX c v) := fun c hc => by
    obtain ⟨v, ev⟩ := a c hc
    have x := e.hok c _ ev
    obtain ⟨p, ⟨o, eo⟩, st⟩ := id x
    exact ⟨o, v, eo, ev, x⟩
  have keepc : ∀ c ∈ cs, ∀ o, s.heap.get? c = some o → s'.heap.get? c = some o := fun c hc o eo => un.keep c o eo (hide_in hc) (nofr c hc) (by simp)
  have none' : ∀ c ∈ cs, H' c = none := fun c hc => by
    obtain ⟨o, v, eo, _, _⟩ := obj c hc
    exact un.free c o eo (hide_in hc) (by simp)
  have outc : ∀ {b : Addr}, H b = none → b ∉ cs := fun {b} hb hc => by
    obtain ⟨v, ev⟩ := a b hc
    rw [hb] at ev
    cases ev
  have hn : ∀ {b : Addr}, H b = none → hide H cs b = none := fun {b} hb => by rw [hide_out (outc hb)]; exact hb
  refine ⟨v, unhide H cs H', os, bare, ?_, fun b o eb => ?_, r, q none'⟩
  · refine { keep := fun b o eo hb hf hx => un.keep b o eo (hn hb) hf hx, slot := fun b o eo hb hf hx => un.slot b o eo (hn hb) hf hx, free := fun b o eo hb hx => ?_, there := fun b o eo hx => un.there b o eo hx, tups := fun b xs eb => ?_, frzs := fun b o u' eb => ?_, tbls := fun b ps eb => ?_ }
    · rw [unhide_out (outc hb)]
      exact un.free b o eo (hn hb) hx
    · have n := a.out eb fun v z => cellX_tup z.symm
      rw [unhide_out n]
      exact un.tups b xs (by rw [hide_out n]; exact eb)
    · have n : b ∉ cs := a.out eb fun v z => by cases z
      rw [unhide_out n]
      exact un.frzs b o u' (by rw [hide_out n]; exact eb)
    · have n : b ∉ cs := a.out eb fun v z => by cases z
      rw [unhide_out n]
      exact un.tbls b ps (by rw [hide_out n]; exact eb)
  · by_cases hb : b ∈ cs
    · rw [unhide_in hb] at eb
      obtain ⟨o', v', eo, ev, x⟩ := obj b hb
      rw [ev] at eb
      cases eb
      have x' := cell_keep (h' := s'.heap) x (keepc b hb)
      obtain ⟨p, q', st⟩ := x'
      exact ⟨p, q', st⟩
    · rw [unhide_out hb] at eb
      refine (ok b o eb).stay (fun _ _ _ q => q) (fun c q => ?_) (fun c xs q => ?_)
      · rw [unhide_out fun hc => by rw [none' c hc] at q; cases q]; exact q
      · rw [unhide_out fun hc => by rw [none' c hc] at q; cases q]; exact q
end
/-- the captured names' values, the cells kept in the heap -/
structure CloAt (H : Hp) (cl : List (Str × Addr)) (fr : List Str) (ws : List V) : Prop where
  len : ws.length = fr.length
  cel : CellsX H (cl.map (·.2))
  inj : ∀ x y c, cl.lookup x = some c → cl.lookup y = some c → x = y
  has : ∀ (i : Nat) (y : Str), fr[i]? = some y → ∃ c, cl.lookup y = some c ∧ ∀ v, ws[i]? = some v → H c = some (CellX c v)
theorem lookup_in : ∀ {cl : List (Str × Addr)} {y : Str} {c : Addr}, cl.lookup y = some c → c ∈ cl.map (·.2)
  | [], _, _, h => by cases h
  | (a, b) :: t, y, c, h => by
    rw [List.lookup_cons] at h
    split at h
    · injection h with h
      subst h
      exact List.mem_cons_self ..
    · exact List.mem_cons_of_mem _ (lookup_in h)
theorem CloAt.cells {P : Program} {w : World} {H : Hp} {h : Heap} {cl : List (Str × Addr)} {fr : List Str} {ws : List V} (C : CloAt H cl fr ws) (ok : HOk P w H h) : CellsAt cl fr (ws.map some) h (hide H (cl.map (·.2))) := by
  refine ⟨by rw [List.length_map]; exact C.len, fun y c e => ⟨hide_in (lookup_in e), ?_⟩, C.inj, fun i y e => ?_⟩
  · obtain ⟨v, ev⟩ := C.cel c (lookup_in e)
    obtain ⟨⟨u, _, hu⟩, _, _⟩ := ok c _ ev
    exact ⟨_, hu⟩
  · obtain ⟨c, hc, hv⟩ := C.has i y e
    refine ⟨c, hc, fun v q => ?_⟩
    rw [List.getElem?_map] at q
    cases hw : ws[i]? with
    | none => rw [hw] at q; cases q
    | some v' =>
      rw [hw] at q
      injection q with q
      injection q with q
      subst q
      obtain ⟨⟨u, hr, hu⟩, _, _⟩ := ok c _ (hv v' hw)
      exact ⟨u, hr, hu⟩
/-- what may be called: the object O at f, the captured names, the promise -/
structure COk (P : Program) (w : World) (K : PySem.W.Frag) (mg : Str → Option Value) (base : Heap) (k : Nat) (f : Addr) (O : HO) (F : NF) (ps fr : List Str) (sp : List (Option V) → Sp) : Prop where
  len : ∀ ws vs H Q E, sp ws vs H Q E → vs.length = ps.length
  isf : ∀ (H : Hp) (h : Heap), HOk P w H h → H f = some O → ∃ (fd : FuncData) (od : Option Addr) (oc : Value) (sl : Array (Option Value)), h.get? f = some (⟨oc, od, .func fd, sl⟩ : Obj) ∧ PySem.W.FnAt f h
  run : ∀ (A : Around) (outer : List Env) (s : Shared) (H : Hp) (us : List Value) (vs : List V) (ws : List (Option V)) (Q : VK) (E : XK), Room k A → Env0 P w K mg base A outer s H → H f = some O → H F.c = some (CodeO F.c F.qual) →
    CellsAt F.cl fr ws s.heap H → Vals vs us → sp ws vs H Q E → codeAny (model P w) A (.call (.ref f) ⟨us, []⟩) (CR (fun _ _ _ _ _ _ => False) outer P w H s Q E) s
theorem cok_def {P : Program} {w : World} {K : PySem.W.Frag} {mg : Str → Option Value} {base : Heap} {k : Nat} {f : Addr} {F : NF} {ps fr : List Str} {sp : List (Option V) → Sp} (o : NOk P w K mg base (fun _ _ _ _ _ _ => False) k f F ps fr sp) : COk P w K mg base k f (FnO f F) F ps fr sp :=
  ⟨o.len, fun H h ok e => let ⟨od, sl, doc, pm, ctv, ho⟩ := fnO_at ok e; ⟨_, od, _, sl, ho, ⟨_, od, _, sl, ho⟩⟩, o.run⟩
/-- the object of a lambda -/
def LamO (f : Addr) (F : NF) (e : Expr) : HO := .ext fun h => ∃ pm ctv : Value, h.get? f = some (PySem.W.kla_obj F.name F.qual F.params e F.scope F.cl pm F.c ctv)
/-- the running lambda -/
theorem cok_lam {P : Program} {w : World} {K : PySem.W.Frag} {mg : Str → Option Value} {base : Heap} {k : Nat} {f : Addr} {F : NF} {e : Expr} {N ps fr : List Str} {sp : List (Option V) → Sp} (S : NScope N ps fr F.scope)
    (hb : ∀ (pm ctv : Value) (us : List Value), us.length = ps.length → bindArgs (PySem.W.kla_fn F.name F.qual F.params e F.scope F.cl pm (.ref F.c) ctv) ⟨us, []⟩ = pure (ps.zip us)) (len : ∀ ws vs H Q E, sp ws vs H Q E → vs.length = ps.length)
    (hbody : ∀ (A : Around) (outer : List Env) (s : Shared) (H : Hp) (vs : List V) (ws : List (Option V)) (Q : VK) (E : XK), Room k (A.deeper (envF F f s.heap.objs.size)) → H f = some (LamO f F e) → H F.c = some (CodeO F.c F.qual) → ws.length = fr.length → sp ws vs H Q E →
      ∃ te, PE (ncx (fun _ _ _ _ _ _ => False) P w K mg base N F f A outer s H E) e te ∧ te (startF N vs ws) H Q) :
    COk P w K mg base (k + 1) f (LamO f F e) F ps fr sp := by
  refine ⟨len, fun H h ok eo => ?_, fun A outer s H us vs ws Q E hr e0 hf hc C r hsp => ?_⟩
  · obtain ⟨⟨pm, ctv, ho⟩, _, _⟩ := ok f _ eo
    exact ⟨_, _, _, _, ho, ⟨_, _, _, _, ho⟩⟩
  · have hl := len _ _ _ _ _ hsp
    have lim : s.heap.NoLimit := e0.mod.nolimit.keeps fun b o e => (e0.bs b o e).1
    obtain ⟨⟨pm, ctv, ho⟩, _, _⟩ := e0.hok f _ hf
    obtain ⟨⟨oc, vs', t, hoc, hdc, hvc⟩, _, _⟩ := e0.hok F.c _ hc
    refine PySem.W.kla_callFunE hr.depth ho rfl S.co S.gen rfl ⟨F.c, oc, vs', t, rfl, hoc, hdc, hvc⟩ ?_
    rw [hb pm ctv us (by rw [← r.length]; exact hl)]
    refine wpAny_pure (wpAny_newFunctionEnv S.nocell (fun ⟨n, _⟩ hy => S.par n (List.of_mem_zip hy).1) (fun h₁ hns hsb => ⟨lim.fresh _ hsb, ?_⟩) S.kind)
    show codeAny _ _ (.expr e (envF F f s.heap.objs.size)) _ _
    have kp : ∀ b o, s.heap.get? b = some o → h₁.get? b = some o := fun b o e => hsb.extBut b o (Nat.ne_of_lt (Heap.lt_size e)) (Heap.get?_push_of_some _ e)
    obtain ⟨te, ht, hq⟩ := hbody A outer s H vs ws Q E (hr.deeper _) hf hc C.len hsp
    have I : Inv (ncx (fun _ _ _ _ _ _ => False) P w K mg base N F f A outer s H E) [] (startF N vs ws) H { s with heap := h₁, toks := s.toks + (ps.zip us).length } := inv_startN S hr.hd e0 hl r C hns kp
    refine PySem.W.kla_codeExpr (wpAny_mono (ht.run [] _ (startF N vs ws) H _ I hq) (fun v s' hs => ?_) fun e s' hs => hs)
    obtain ⟨w', H', J, rv, q⟩ := hs
    exact ⟨w', H', J.os, J.bare, J.base, J.hok, rv, q⟩
/-- a function that was returned: what it is, and what it promises -/
structure Clo (P : Program) (w : World) (K : PySem.W.Frag) (mg : Str → Option Value) (base : Heap) (k : Nat) (H : Hp) (f : Addr) (O : HO) (fs : NF) (ps fr : List Str) (ws : List V) (sp : List (Option V) → Sp) : Prop where
  ok : COk P w K mg base k f O fs ps fr sp
  ntb : ∀ ps, O ≠ .tbl ps
  at_ : H f = some O
  code : H fs.c = some (CodeO fs.c fs.qual)
  clo : CloAt H fs.cl fr ws
theorem Clo.same {P : Program} {w : World} {K : PySem.W.Frag} {mg : Str → Option Value} {base : Heap} {k : Nat} {H H' : Hp} {f : Addr} {O : HO} {fs : NF} {ps fr : List Str} {ws : List V} {sp : List (Option V) → Sp} (c : Clo P w K mg base k H f O fs ps fr ws sp) (s : ∀ b o, H b = some o → H' b = some o) : Clo P w K mg base k H' f O fs ps fr ws sp :=
  ⟨c.ok, c.ntb, s _ _ c.at_, s _ _ c.code, ⟨c.clo.len, fun a ha => let ⟨v, e⟩ := c.clo.cel a ha; ⟨v, s _ _ e⟩, c.clo.inj, fun i y e => let ⟨a, h1, h2⟩ := c.clo.has i y e; ⟨a, h1, fun v q => s _ _ (h2 v q)⟩⟩⟩
theorem Clo.ext {P : Program} {w : World} {K : PySem.W.Frag} {mg : Str → Option Value} {base : Heap} {k : Nat} {H H' : Hp} {f : Addr} {O : HO} {fs : NF} {ps fr : List Str} {ws : List V} {sp : List (Option V) → Sp} (c : Clo P w K mg base k H f O fs ps fr ws sp) (s : ExtN H H') : Clo P w K mg base k H' f O fs ps fr ws sp :=
  ⟨c.ok, c.ntb, s _ _ c.at_ c.ntb, s _ _ c.code codeO_ne, ⟨c.clo.len, fun a ha => let ⟨v, e⟩ := c.clo.cel a ha; ⟨v, s _ _ e fun _ z => by cases z⟩, c.clo.inj, fun i y e => let ⟨a, h1, h2⟩ := c.clo.has i y e; ⟨a, h1, fun v q => s _ _ (h2 v q) fun _ z => by cases z⟩⟩⟩
theorem lamO_ne {f : Addr} {F : NF} {e : Expr} (ps : Array Value) : LamO f F e ≠ .tbl ps := fun z => by
  unfold LamO at z
  cases z
section
variable {X : Cx} {k j i : Nat} {x : Str} {p pos : Pos} {e : Expr} {es : List Expr} {t : TA}
theorem run_clo {pins : List (Addr × Obj)} {σ : L2.St} {H : Hp} {s : Shared} {Q : VK} {f : Addr} {O : HO} {fs : NF} {ps fr : List Str} {ws : List V} {sp : List (Option V) → Sp} {us : List Value} {vs : List V} (C : Clo X.prog X.w X.K X.mg X.base k H f O fs ps fr ws sp) (hr : Room k X.A) (I : Inv X pins σ H s) (r : Vals vs us)
    (q : sp (ws.map some) vs (hide H (fs.cl.map (·.2))) (fun v H' => (∀ c ∈ fs.cl.map (·.2), H' c = none) → Q v (unhide H (fs.cl.map (·.2)) H')) (fun _ _ _ => False)) :
    wpAny (model X.prog X.w) X.A (call (.ref f) us) (EP X pins σ Q) X.xe s := by
  have nf : f ∉ fs.cl.map (·.2) := fun m => by
    obtain ⟨v, ev⟩ := C.clo.cel f m
    obtain ⟨⟨u, _, o, ho, hd⟩, _, _⟩ := I.hok f _ ev
    obtain ⟨_, _, _, _, hf, _⟩ := C.ok.isf H s.heap I.hok C.at_
    rw [ho] at hf
    cases hf
    cases hd
  have nc : fs.c ∉ fs.cl.map (·.2) := fun m => by
    obtain ⟨v, ev⟩ := C.clo.cel fs.c m
    obtain ⟨⟨u, _, o, ho, hd⟩, _, _⟩ := I.hok fs.c _ ev
    obtain ⟨⟨oc, vs', t', hc, hd2, _⟩, _, _⟩ := I.hok fs.c _ C.code
    rw [ho] at hc
    injection hc with hc
    rw [hc, hd2] at hd
    cases hd
  refine wpAny_call (codeAny_mono (C.ok.run X.A X.stack s (hide H (fs.cl.map (·.2))) us vs _ _ _ hr (hide_env I.env0 C.clo.cel) (by rw [hide_out nf]; exact C.at_) (by rw [hide_out nc]; exact C.code) (C.clo.cells I.hok) r q) fun r s' hq => ?_)
  cases r with
  | error e => exact False.elim hq
  | ok fl =>
    cases fl with
    | ret u => exact I.after (unhide_end I.env0 C.clo.cel hq)
    | next => exact False.elim hq
    | brk => exact False.elim hq
    | cont => exact False.elim hq
/-- f(..), f a name that holds a returned function -/
def tCallC (P : Program) (w : World) (K : PySem.W.Frag) (mg : Str → Option Value) (base : Heap) (k i : Nat) (t : TA) : TE := fun σ H Q => ∃ (f : Addr) (O : HO) (fs : NF) (ps fr : List Str) (ws : List V) (sp : List (Option V) → Sp), σ[i]? = some (some (.ref f)) ∧ COk P w K mg base k f O fs ps fr sp ∧ H f = some O ∧
  t σ H fun vs H1 => Clo P w K mg base k H1 f O fs ps fr ws sp ∧ sp (ws.map some) vs (hide H1 (fs.cl.map (·.2))) (fun v H' => (∀ c ∈ fs.cl.map (·.2), H' c = none) → Q v (unhide H1 (fs.cl.map (·.2)) H')) (fun _ _ _ => False)
theorem pe_callC {P : Program} {w : World} {K : PySem.W.Frag} {mg : Str → Option Value} {base : Heap} (e1 : X.prog = P) (e2 : X.w = w) (e3 : X.K = K) (e4 : X.mg = mg) (e5 : X.base = base) (hr : Room k X.A) (hN : X.N[i]? = some x) (hv : Vis X.env.scope x) (ha : PA X (e :: es) t)
    (hd : (x == ("__debug__" : Str)) = false := by decide) (hcd : (x == ("__classdict__" : Str)) = false := by decide)
    (he : starEach (e :: es) X.env = (false, eval e X.env) :: starEach es X.env := by rfl) (hpl : (backTo pos (starEach es X.env)).any (·.1) = false := by rfl) :
    PE X (.Call (.Name x p) (e :: es) [] pos) (tCallC P w K mg base k i t) := by
  subst e1 e2 e3 e4 e5
  refine ⟨fun pins s σ H Q I h => ?_⟩
  obtain ⟨f, O, fs, ps, fr, ws, sp, hs, hO, hf, ht⟩ := h
  refine wpAny_Call_Name_kw (thn ((pe_var (pos := p) hN hv hd hcd).run pins s σ H (fun v H1 => v = .ref f ∧ H1 = H) I ⟨.ref f, hs, rfl, rfl⟩) fun u s1 ⟨v, H1, I1, r1, q1⟩ => ?_)
  obtain ⟨ev, eH⟩ := q1
  subst ev
  rw [eH] at I1
  obtain rfl : u = Value.ref f := r1
  refine PySem.W.callWith_F (first := []) (let ⟨_, _, _, _, _, z⟩ := hO.isf H s1.heap I1.hok hf; z) (thn (ha.run pos pins s1 σ H _ I1 ht) fun us s2 ⟨vs, H2, I2, r, C, q⟩ => ⟨(let ⟨_, _, _, _, _, z⟩ := C.ok.isf H2 s2.heap I2.hok C.at_; z), ?_⟩) he hpl
  show wpAny _ _ (call (.ref f) us) _ _ _
  exact run_clo C hr I2 r q
end
end L2
set_option pp.maxSteps 1500
namespace L2
open PySem PySem.Spec PyProof.Rows PySem.GX NdefX LamX
section
variable {X : Cx} {pins : List (Addr × Obj)} {σ : L2.St} {H : Hp} {s : Shared}
/-- a lambda's object just made is known from now on -/
theorem inv_lamO {F : NF} {e : Expr} {t' : Nat} {pm ctv : Value} (I : Inv X pins σ H s) :
    Inv X pins σ (upd H s.heap.objs.size (LamO s.heap.objs.size F e)) { s with heap := s.heap.push (PySem.W.kla_obj F.name F.qual F.params e F.scope F.cl pm F.c ctv), toks := t' } := by
  refine I.laid (a := s.heap.objs.size) (fun b u e => Heap.get?_push_of_some _ e) (Nat.le_refl _) ?_
  have e' : (s.heap.push (PySem.W.kla_obj F.name F.qual F.params e F.scope F.cl pm F.c ctv)).get? s.heap.objs.size = some (PySem.W.kla_obj F.name F.qual F.params e F.scope F.cl pm F.c ctv) := Heap.get?_push_size _ rfl
  exact ⟨⟨pm, ctv, e'⟩, ⟨_, e'⟩, fun h1 h2 ⟨p, t, z⟩ st => ⟨p, t, st _ z⟩⟩
theorem lamO_make {T : List (Addr × Str)} {c P : Addr} {params : Arguments} {body : Expr} {scope : Scope} {pos : Pos} {E : Value → Shared → Prop} {Q : Value → Shared → Prop} (I : Inv X pins σ H s) (TB : TabB X.base X.mg c P) (hcode : X.env.code = .ref c)
    (hm : (P, X.env.qual ++ "<lambda>") ∈ T) (hu : ∀ p ∈ T, p.1 = P → p.2 = X.env.qual ++ "<lambda>") (hT : Tabs T H) (hdef : defaultsOf params X.env = ([], [])) (hfree : ∀ y ∈ scope.names, y.2 = .free → ∃ c, X.env.cells.lookup y.1 = some c)
    (h : ∀ (f c' : Addr) (H1 : Hp) (s' : Shared), Inv X pins σ H1 s' → ExtN H H1 → Tabs T H1 → H f = none → H1 f = some (LamO f ⟨"<lambda>", X.env.qual ++ "<lambda>", params, [], scope, cloFrom X.env.cells scope.names [], c'⟩ body) → H1 c' = some (CodeO c' (X.env.qual ++ "<lambda>")) → Q (.ref f) s') :
    wpAny (model X.prog X.w) X.A (eval (.Lambda params body scope pos) X.env) Q E s := by
  obtain ⟨ps, hP, ht, ha⟩ := hT _ hm
  refine PySem.W.kla_eval hdef ?_
  have bP : s.heap.BuiltinsAt X.mg P := TB.bm.keeps I.bk
  have hP' : s.heap.get? P = some { cls := .none, data := .fields ps } := I.hok P _ hP
  cases hc : codeAmong pos ps.toList with
  | none =>
    refine PySem.W.kla_makeFunction (mg := X.mg) (c := c) (P := P) (ps := ps) (closure_ok hfree) I.ok.glob (I.mod.glob.keeps I.bk) hcode (TB.code.keeps I.bk) hP' ht hc TB.gP bP fun c' ctv h' tk hx hge hlt hrec htb => ?_
    obtain ⟨c2, oc, vs, t, e2, hoc, hd, hv⟩ := hrec
    cases e2
    have nC : H c' = none := I.hok.fresh hge
    have I1 := inv_table (t' := tk) (more := #[rawInt pos.line, rawInt pos.col, .ref c']) (h' := h') I hP (fun b o hb e => hx b o hb e) htb hge ⟨oc, vs, t, hoc, hd, hv⟩
    have hE : ExtN H (upd (upd H P (.tbl (ps ++ #[rawInt pos.line, rawInt pos.col, .ref c']))) c' (CodeO c' (X.env.qual ++ "<lambda>"))) := fun b o e n => by
      rw [upd_ne (ne_of_none e nC), upd_ne (fun z => n ps (Option.some.inj (e.symm.trans (by rw [z]; exact hP))))]
      exact e
    have eL : (ps ++ #[rawInt pos.line, rawInt pos.col, .ref c']).toList = ps.toList ++ [rawInt pos.line, rawInt pos.col, .ref c'] := by simp
    have T1 : Tabs T (upd (upd H P (.tbl (ps ++ #[rawInt pos.line, rawInt pos.col, .ref c']))) c' (CodeO c' (X.env.qual ++ "<lambda>"))) := fun p hp => by
      by_cases hb : p.1 = P
      · rw [hu p hp hb, hb]
        refine ⟨_, by rw [upd_ne (ne_of_none hP nC), upd_same], by rw [eL]; exact PySem.TriplesOk_snoc _ _ _ _ ht, fun p' cv hcv => ?_⟩
        rw [eL] at hcv
        rcases among_app _ ht hcv with z | z
        · obtain ⟨c0, e1, e2⟩ := ha p' cv z
          exact ⟨c0, e1, hE _ _ e2 codeO_ne⟩
        · exact ⟨c', z, upd_same⟩
      · obtain ⟨ps', a1, a2, a3⟩ := hT p hp
        refine ⟨ps', by rw [upd_ne (ne_of_none a1 nC), upd_ne hb]; exact a1, a2, fun p' cv hcv => ?_⟩
        obtain ⟨c0, e1, e2⟩ := a3 p' cv hcv
        exact ⟨c0, e1, hE _ _ e2 codeO_ne⟩
    have nF := I1.hok.fresh (Nat.le_refl _)
    have I2 := inv_lamO (F := ⟨"<lambda>", X.env.qual ++ "<lambda>", params, [], scope, cloFrom X.env.cells scope.names [], c'⟩) (e := body) (t' := tk) (pm := (X.mg "__name__").getD .none) (ctv := ctv) I1
    refine h h'.objs.size c' _ _ I2 (fun b o e n => ?_) (T1.ext fun b o e => ?_) (I.hok.fresh (Nat.le_trans hge (Nat.le_of_lt hlt))) upd_same ?_
    · have e1 := hE b o e n
      exact (upd_ne (ne_of_none e1 nF)).trans e1
    · exact (upd_ne (ne_of_none e nF)).trans e
    · exact (upd_ne (Nat.ne_of_lt hlt)).trans upd_same
  | some cv =>
    obtain ⟨c', e, hco⟩ := ha pos cv hc
    subst e
    refine PySem.W.kla_makeFunctionHit (mg := X.mg) (c := c) (P := P) (ps := ps) (closure_ok hfree) I.ok.glob (I.mod.glob.keeps I.bk) hcode (TB.code.keeps I.bk) hP' ht hc bP fun ctv h' tk hx hsz => ?_
    have I1 : Inv X pins σ H { s with heap := h', toks := tk } := I.kept hx
    have nF : H h'.objs.size = none := I1.hok.fresh (Nat.le_refl _)
    have I2 := inv_lamO (F := ⟨"<lambda>", X.env.qual ++ "<lambda>", params, [], scope, cloFrom X.env.cells scope.names [], c'⟩) (e := body) (t' := tk) (pm := (X.mg "__name__").getD .none) (ctv := ctv) I1
    refine h h'.objs.size c' _ _ I2 (fun b o e n => ?_) (hT.ext fun b o e => ?_) nF upd_same ?_
    · exact (upd_ne (ne_of_none e nF)).trans e
    · exact (upd_ne (ne_of_none e nF)).trans e
    · exact (upd_ne (ne_of_none hco nF)).trans hco
end
end L2
set_option pp.maxSteps 1500
namespace L2
open PySem PySem.Spec PyProof.Rows PySem.GX NdefX LamX
/-! a frame is left, a function that it made goes out: its cells are known from now on -/
section
variable {X : Cx} {σ : L2.St} {H : Hp} {s : Shared} {cl : List (Str × Addr)} {fr : List Str} {ws : List V} {js : List Nat}
def CelV (cl : List (Str × Addr)) (fr : List Str) (ws : List V) (b : Addr) (v : V) : Prop := ∃ (i : Nat) (y : Str), fr[i]? = some y ∧ cl.lookup y = some b ∧ ws[i]? = some v
open Classical in
noncomputable def celV (cl : List (Str × Addr)) (fr : List Str) (ws : List V) (b : Addr) : V := if h : ∃ v, CelV cl fr ws b v then h.choose else .non
theorem celV_is (nd : fr.Nodup) (inj : ∀ x y c, cl.lookup x = some c → cl.lookup y = some c → x = y) {b : Addr} {v : V} (h : CelV cl fr ws b v) : celV cl fr ws b = v := by
  have ex : ∃ v, CelV cl fr ws b v := ⟨v, h⟩
  unfold celV
  rw [dif_pos ex]
  obtain ⟨i, y, e1, e2, e3⟩ := ex.choose_spec
  obtain ⟨j, z, g1, g2, g3⟩ := h
  have := inj y z b e2 g2
  subst this
  have hi := (List.getElem?_eq_some_iff.mp e1).1
  have : i = j := (List.getElem?_inj hi nd).mp (e1.trans g1.symm)
  subst this
  exact Option.some.inj (e3.symm.trans g3)
open Classical in
noncomputable def leaveH (cl : List (Str × Addr)) (fr : List Str) (ws : List V) (H : Hp) : Hp := fun b => if b ∈ cl.map (·.2) then some (CellX b (celV cl fr ws b)) else H b
theorem clo_leave (J : Inv X [] σ H s) (hex : X.ex = []) (hfn : ∀ x, X.fn x = true) (cp : Caps X cl fr js) (nd : fr.Nodup) (hws : js.map (NdefX.slotAt σ) = ws.map some) (hall : ∀ p ∈ cl, p.1 ∈ fr ∧ X.env.cells.lookup p.1 = some p.2) :
    Un X.fs [] X.H_0 (leaveH cl fr ws H) X.s_0.heap s.heap ∧ HOk X.prog X.w (leaveH cl fr ws H) s.heap ∧ (∀ b o, H b = some o → leaveH cl fr ws H b = some o) ∧ CloAt (leaveH cl fr ws H) cl fr ws ∧ (∀ b ∈ cl.map (·.2), H b = none) := by
  have C := cells_of J cp
  rw [hws] at C
  have inj := C.inj
  have clen : ws.length = fr.length := by have := C.len; rwa [List.length_map] at this
  have none' : ∀ b ∈ cl.map (·.2), H b = none := fun b hb => by
    obtain ⟨p, hp, rfl⟩ := List.mem_map.mp hb
    exact J.freeC p.1 p.2 (hall p hp).2
  have big : ∀ b ∈ cl.map (·.2), X.s_0.heap.get? b = none := fun b hb => by
    obtain ⟨p, hp, rfl⟩ := List.mem_map.mp hb
    have h := J.ok.cab p.1 p.2 (hfn _) (hall p hp).2
    cases e : X.s_0.heap.get? p.2 with
    | none => rfl
    | some o => exact absurd (Heap.lt_size e) (Nat.not_lt.mpr h)
  have inn : ∀ {b : Addr}, b ∈ cl.map (·.2) → leaveH cl fr ws H b = some (CellX b (celV cl fr ws b)) := fun {b} hb => by unfold leaveH; rw [if_pos hb]
  have out : ∀ {b : Addr}, b ∉ cl.map (·.2) → leaveH cl fr ws H b = H b := fun {b} hb => by unfold leaveH; rw [if_neg hb]
  have outs : ∀ {b : Addr} {o : HO}, H b = some o → b ∉ cl.map (·.2) := fun {b o} e hb => by rw [none' b hb] at e; cases e
  have keep : ∀ b o, H b = some o → leaveH cl fr ws H b = some o := fun b o e => by rw [out (outs e)]; exact e
  have look : ∀ p ∈ cl, cl.lookup p.1 = some p.2 := fun p hp => cp.sup p.1 (hall p hp).1 p.2 (hall p hp).2
  have val : ∀ b ∈ cl.map (·.2), ∃ v, CelV cl fr ws b v ∧ ∃ u, RelV v u ∧ s.heap.IsCell b (some u) := fun b hb => by
    obtain ⟨p, hp, rfl⟩ := List.mem_map.mp hb
    obtain ⟨i, hi⟩ := List.mem_iff_getElem?.mp (hall p hp).1
    have hil : i < fr.length := (List.getElem?_eq_some_iff.mp hi).1
    have hwi : ws[i]? = some (ws[i]'(by omega)) := List.getElem?_eq_getElem (by omega)
    obtain ⟨c, hc, hv⟩ := C.has i p.1 hi
    have ec : c = p.2 := Option.some.inj (hc.symm.trans (look p hp))
    subst ec
    obtain ⟨u, r, z⟩ := hv (ws[i]'(by omega)) (by rw [List.getElem?_map, hwi]; rfl)
    exact ⟨_, ⟨i, p.1, hi, look p hp, hwi⟩, u, r, z⟩
  have un := J.base
  rw [hex] at un
  refine ⟨?_, fun b o eb => ?_, keep, ⟨clen, fun c hc => ⟨_, inn hc⟩, inj, fun i y e => ?_⟩, none'⟩
  · refine { keep := un.keep, slot := un.slot, free := fun b o eo hb hx => ?_, there := un.there, tups := fun b xs eb => keep _ _ (un.tups b xs eb), frzs := fun b o u eb => keep _ _ (un.frzs b o u eb), tbls := fun b ps eb => ?_ }
    · have : b ∉ cl.map (·.2) := fun m => by rw [big b m] at eo; cases eo
      rw [out this]
      exact un.free b o eo hb hx
    · obtain ⟨more, e⟩ := un.tbls b ps eb
      exact ⟨more, keep _ _ e⟩
  · by_cases hb : b ∈ cl.map (·.2)
    · rw [inn hb] at eb
      cases eb
      obtain ⟨v, cv, u, r, z⟩ := val b hb
      rw [celV_is nd inj cv]
      obtain ⟨ob, ho, hd⟩ := id z
      exact ⟨⟨u, r, z⟩, ⟨ob, ho⟩, fun h1 h2 ⟨u', r', ob', ho', hd'⟩ st => ⟨u', r', ob', st _ ho', hd'⟩⟩
    · rw [out hb] at eb
      exact (J.hok b o eb).stay (fun _ _ _ q => q) (fun c q => keep _ _ q) fun c xs q => keep _ _ q
  · obtain ⟨c, hc, _⟩ := C.has i y e
    refine ⟨c, hc, fun v ev => ?_⟩
    rw [inn (lookup_in hc), celV_is nd inj ⟨i, y, e, hc, ev⟩]
end
end L2
set_option pp.maxSteps 1500
namespace L2
open PySem PySem.Spec PyProof.Rows PySem.GX NdefX LamX
/-! a def that returns a lambda over its own names -/
abbrev RetP := Value → L2.St → Hp → Prop
structure PSr (X : Cx) (sts : List Stmt) (t : RetP → L2.St → Hp → Prop) : Prop where
  run : ∀ (s : Shared) (σ : L2.St) (H : Hp) (R : RetP), Inv X [] σ H s → t R σ H → wpAny (model X.prog X.w) X.A (execs sts X.env) (fun fl s' => ∃ u σ' H', fl = .ret u ∧ Inv X [] σ' H' s' ∧ R u σ' H') X.xe s
section
variable {X : Cx}
theorem psr_cons {st : Stmt} {rest : List Stmt} {t : TS} {u : RetP → L2.St → Hp → Prop} (h1 : PS X st t) (h2 : PSr X rest u) : PSr X (st :: rest) (fun R σ H => t { nx := fun σ' H' => u R σ' H', rt := fun _ _ => False } σ H) := by
  refine ⟨fun s σ H R I h => ?_⟩
  refine wpAny_execs_cons (thn (h1.run [] s σ H { nx := fun σ' H' => u R σ' H', rt := fun _ _ => False } I h) fun f s1 q => ?_)
  cases f with
  | next =>
    obtain ⟨σ', H', I', q⟩ := q
    exact h2.run s1 σ' H' R I' q
  | ret v => obtain ⟨_, _, _, _, _, z⟩ := q; exact z.elim
  | brk => obtain ⟨_, _, _, z⟩ := q; exact z.elim
  | cont => obtain ⟨_, _, _, z⟩ := q; exact z.elim
/-- return lambda ..: .. -/
def tRetLam (T : List (Addr × Str)) (mk : Addr → NF) (body : Expr) : RetP → L2.St → Hp → Prop := fun R σ H => Tabs T H ∧ ∀ (f c' : Addr) (H1 : Hp), ExtN H H1 → Tabs T H1 → H f = none → H1 f = some (LamO f (mk c') body) → H1 c' = some (CodeO c' (mk c').qual) → R (.ref f) σ H1
theorem psr_lam {T : List (Addr × Str)} {c P : Addr} {params : Arguments} {body : Expr} {scope : Scope} {pos rpos : Pos} (TB : TabB X.base X.mg c P) (hcode : X.env.code = .ref c)
    (hm : (P, X.env.qual ++ "<lambda>") ∈ T) (hu : ∀ p ∈ T, p.1 = P → p.2 = X.env.qual ++ "<lambda>") (hdef : defaultsOf params X.env = ([], []))
    (hfree : ∀ y ∈ scope.names, y.2 = .free → X.env.scope.names.lookup y.1 = some .cell ∨ X.env.scope.names.lookup y.1 = some .free) :
    PSr X [.Return (some (.Lambda params body scope pos)) rpos] (tRetLam T (fun c' => ⟨"<lambda>", X.env.qual ++ "<lambda>", params, [], scope, cloFrom X.env.cells scope.names [], c'⟩) body) := by
  refine ⟨fun s σ H R I h => ?_⟩
  obtain ⟨hT, h⟩ := h
  have hfr : ∀ y ∈ scope.names, y.2 = .free → ∃ c, X.env.cells.lookup y.1 = some c := fun y hy e => (hfree y hy e).elim (fun z => I.ok.has _ (.inl z)) fun z => I.ok.has _ (.inr z)
  refine wpAny_execs_cons (thn (Q := fun fl s' => ∃ u σ' H', fl = .ret u ∧ Inv X [] σ' H' s' ∧ R u σ' H') (wpAny_Return_some (lamO_make I TB hcode hm hu hT hdef hfr fun f c' H1 s' I1 eN T1 f0 f1 c1 => ⟨_, σ, H1, rfl, I1, h f c' H1 eN T1 f0 f1 c1⟩)) fun f s1 q => ?_)
  obtain ⟨u, σ', H', rfl, J, r⟩ := q
  exact ⟨u, σ', H', rfl, J, r⟩
end
/-- none of these was known, tables aside -/
def NewC (H : Hp) (cs : List Addr) : Prop := ∀ c ∈ cs, ∀ o, H c = some o → ∃ ps, o = .tbl ps
theorem NewC.back {H H1 : Hp} {cs : List Addr} (n : NewC H1 cs) (s : ExtN H H1) : NewC H cs := fun c hc o e => Classical.byContradiction fun z => z (n c hc o (s c o e fun ps q => z ⟨ps, q⟩))
theorem NewC.hide {H H1 : Hp} {cs : List Addr} (n : NewC H cs) (s : ExtN H H1) : ExtN H (hide H1 cs) := fun b o e ne => by
  rw [hide_out fun m => let ⟨ps, q⟩ := n b m o e; ne ps q]
  exact s b o e ne
/-- the promise of a def that returns a lambda: the cells stand in the heap behind it -/
theorem fnL_of {P : Program} {w : World} {K : PySem.W.Frag} {mg : Str → Option Value} {base : Heap} {k : Nat} {f : Addr} {name qual : Str} {params : Arguments} {body : List Stmt} {scope lsc : Scope} {dV kV doc pm cdv ct oc : Value} {an od : Option Addr}
    {osl : Array (Option Value)} {N ps fr : List Str} {js : List Nat} {sp : Sp} (lk : K.lookup f = some ⟨oc, od, .func (PySem.W.fnOf name qual params body scope dV kV doc pm an cdv ct), osl⟩) (hcd : PySem.W.codeIn K cdv qual = true) (S : FnScope N ps scope)
    (len : ∀ vs H Q E, sp vs H Q E → vs.length = ps.length)
    (hfree : ∀ y ∈ lsc.names, y.2 = .free → scope.names.lookup y.1 = some .cell ∨ scope.names.lookup y.1 = some .free) (hfr : ∀ y ∈ fr, (y, NameKind.free) ∈ lsc.names) (hin : ∀ y ∈ lsc.names, y.2 = .free → y.1 ∈ fr) (nd : fr.Nodup) (hjs : js.map (fun j => N[j]?) = fr.map some)
    (hbody : ∀ (A : Around) (outer : List Env) (s : Shared) (H : Hp) (vs : List V) (Q : VK) (E : XK), Room k (A.deeper (envOfC qual scope s.heap.objs.size f cdv)) → sp vs H Q E →
      ∃ t, PSr (cxOf (fun _ _ _ _ _ _ => False) P w K mg base N qual scope f cdv A outer s H E) body t ∧
        t (fun u σ' H' => ∃ (g : Addr) (ws : List V), u = .ref g ∧ js.map (NdefX.slotAt σ') = ws.map some ∧ ∀ H2, (∀ b o, H' b = some o → H2 b = some o) → CloAt H2 (cloFrom (envOfC qual scope s.heap.objs.size f cdv).cells lsc.names []) fr ws → NewC H' ((cloFrom (envOfC qual scope s.heap.objs.size f cdv).cells lsc.names []).map (·.2)) → Q (.ref g) H2) (start N vs) H) :
    FnOk P w K mg base (fun _ _ _ _ _ _ => False) (k + 1) f (PySem.W.fnOf name qual params body scope dV kV doc pm an cdv ct) ps sp := by
  refine ⟨len, fun A outer s H args us vs Q E hr e0 hb r hsp => ?_⟩
  have hl := len _ _ _ _ hsp
  have KX : K.In s.heap := e0.mod.kin.keeps fun b o e => (e0.bs b o e).1
  have lim : s.heap.NoLimit := e0.mod.nolimit.keeps fun b o e => (e0.bs b o e).1
  have hkind : ∀ y ∈ ps.zip us, scope.names.lookup y.1 = some .local ∨ (scope.names.lookup y.1 = some .cell ∧ ((cellsFrom (s.heap.objs.size + 1) scope.names []).lookup y.1).isSome = true) := fun ⟨n, v⟩ hy => by
    rcases S.par n (List.of_mem_zip hy).1 with q | q
    · exact .inl q
    · exact .inr ⟨q, PySem.W.cellsFrom_some _ _ _ (.inl q)⟩
  refine codeAny_call_function hr.depth (KX _ _ lk) rfl S.co S.gen rfl (PySem.W.codeRec_of KX hcd) (hb _ _ _ _ ?_)
  refine wpAny_newFunctionEnv_cells S.kind hkind fun env he s1 x => ?_
  subst he
  refine ⟨lim.keeps x.toInCall.keep, codeAny_func ?_⟩
  obtain ⟨t, ht, hq⟩ := hbody A outer s H vs Q E (hr.deeper _) hsp
  have I : Inv (cxOf (fun _ _ _ _ _ _ => False) P w K mg base N qual scope f cdv A outer s H E) [] (start N vs) H s1 := inv_start S hr.hd e0 hl r x
  refine wpAny_mono (ht.run s1 (start N vs) H _ I hq) (fun fl s' hs => ?_) fun e s' hs => hs
  obtain ⟨u, σ', H', rfl, J, g, ws, rfl, hws, hk⟩ := hs
  have hf2 : ∀ y ∈ lsc.names, y.2 = .free → ∃ c, (envOfC qual scope s.heap.objs.size f cdv).cells.lookup y.1 = some c := fun y hy e => (hfree y hy e).elim (fun z => J.ok.has _ (.inl z)) fun z => J.ok.has _ (.inr z)
  have cp : Caps (cxOf (fun _ _ _ _ _ _ => False) P w K mg base N qual scope f cdv A outer s H E) (cloFrom (envOfC qual scope s.heap.objs.size f cdv).cells lsc.names []) fr js := Caps.made (scope := lsc) J.ok hfree hfr hjs
  have hall : ∀ p ∈ cloFrom (envOfC qual scope s.heap.objs.size f cdv).cells lsc.names [], p.1 ∈ fr ∧ (envOfC qual scope s.heap.objs.size f cdv).cells.lookup p.1 = some p.2 := fun p hp => by
    rcases cloFrom_mem hp with hm | ⟨h1, h2⟩
    · cases hm
    · obtain ⟨c1, hc⟩ := hf2 _ h1 rfl
      have hc : (envOfC qual scope s.heap.objs.size f cdv).cells.lookup p.1 = some c1 := hc
      have e2 : p.2 = c1 := by
        rw [h2, hc] <;> rfl
      exact ⟨hin _ h1 rfl, by rw [e2]; exact hc⟩
  obtain ⟨un, hok, keep, clo, nn⟩ := clo_leave J rfl (fun _ => rfl) cp nd hws hall
  exact ⟨.ref g, _, J.os, J.bare, un, hok, rfl, hk _ keep clo fun c hc o e => by rw [nn c hc] at e; cases e⟩
end L2
set_option pp.maxSteps 1500
namespace My
open PySem PySem.Spec PyProof.Rows L2 PySem.GX L2H NdefX LamX
/-! pair_step: a step of two rules at once -/
def lamOf : List Stmt → Arguments × Expr × Scope
  | [.Return (some (.Lambda a e s _)) _] => (a, e, s)
  | _ => (default, .Constant .none 0 ⟨0, 0, 0, 0⟩, default)
abbrev lamStep := lamOf (defBody sPairStep)
abbrev qStep : Str := ("pair_step.<locals>.<lambda>" : Str)
def mkStep (cl : List (Str × Addr)) (c' : Addr) : NF := ⟨"<lambda>", qStep, lamStep.1, [], lamStep.2.2, cl, c'⟩
abbrev nStep : List Str := ["pair", "sign", "one", "other"]
theorem scStep : NScope nStep ["pair", "sign"] ["one", "other"] lamStep.2.2 := nscope_by (by decide +kernel)
/-- one step of both -/
def spStep (C : Addr) : List (Option V) → Sp := fun ws vs H Q _ => ∃ (a b : Addr) (t1 t2 : Str) (p1 p2 : Parts) (q : Addr) (m1 m2 : Str) (x : Nat), ws = [some (.ref a), some (.ref b)] ∧ vs = [.ref q, .str (sg x)] ∧ RuleAt H C a t1 p1 ∧ PartsOk p1 ∧ RuleAt H C b t2 p2 ∧ PartsOk p2 ∧ H q = some (.tup [.str m1, .str m2]) ∧ m1 ∈ p1.ms ∧ m2 ∈ p2.ms ∧ x ∈ p1.sg.cps.toList ∧ x ∈ p2.sg.cps.toList ∧
  ∀ (r : Addr) (H' : Hp), Same H H' → H' r = some (.tup [.str (ledL p1 m1 x), .str (ledL p2 m2 x)]) → Q (.ref r) H'
def spPairStep (K : PySem.W.Frag) (P : Program) (w : World) (mg : Str → Option Value) (base : Heap) (T : List (Addr × Str)) (C : Addr) : Sp := fun vs H Q _ => ∃ a b : Addr, vs = [.ref a, .ref b] ∧ Tabs T H ∧
  ∀ (g : Addr) (O : HO) (F : NF) (H' : Hp), ExtN H H' → Tabs T H' → NewC H (F.cl.map (·.2)) → Clo P w K mg base 1 H' g O F ["pair", "sign"] ["one", "other"] [.ref a, .ref b] (spStep C) → Q (.ref g) H'
section
variable {P : Program} {w : World} {K : PySem.W.Frag} {mg : Str → Option Value} {base : Heap}
theorem run_step {f C : Addr} {F : NF} (hF : ∃ cl c', F = mkStep cl c') (T : RuC K C) : COk P w K mg base 1 f (LamO f F lamStep.2.1) F ["pair", "sign"] ["one", "other"] (spStep C) := by
  obtain ⟨cl, c', rfl⟩ := hF
  refine cok_lam (k := 0) (N := nStep) scStep (fun pm ctv us hl => ?_) (fun ws vs H Q E h => ?_) (fun A outer s H vs ws Q E hr hf hc hl h => ?_)
  · match us, hl with
    | [_, _], _ => rfl
  · obtain ⟨a, b, t1, t2, p1, p2, q, m1, m2, x, _, rfl, _⟩ := h
    rfl
  · obtain ⟨a, b, t1, t2, p1, p2, q, m1, m2, x, rfl, rfl, hA, ok1, hB, ok2, eq, i1, i2, x1, x2, k⟩ := h
    have hu : (A.deeper (envF (mkStep cl c') f s.heap.objs.size)).units + 1 < cLine := hu_of hr
    refine ⟨_, pe_tup (pa_cons (pe_dget hu (pe_fldK (K := K) rfl (pv 2) rfl) (pe_tup (pa_cons (pe_ix (ix_tupK (K := K) rfl) (pv 0) pe_int (fun _ _ => rfl)) (pa_cons (pv 1) pa_nil))) (fun _ _ => rfl)) (pa_cons (pe_dget hu (pe_fldK (K := K) rfl (pv 3) rfl) (pe_tup (pa_cons (pe_ix (ix_tupK (K := K) rfl) (pv 0) pe_int (fun _ _ => rfl)) (pa_cons (pv 1) pa_nil))) (fun _ _ => rfl)) pa_nil)), ?_⟩
    obtain ⟨dx, M, G, D, e1, e2, e3, e4⟩ := id hA
    obtain ⟨dx', M', G', D', g1, g2, g3, g4⟩ := id hB
    have z1 := ok1.goal i1 x1
    have z2 := ok2.goal i2 x2
    refine ⟨_, rfl, a, C, dx, _, .ref D, rfl, e1, T.cl, T.f5, rfl, _, rfl, q, _, _, V.str m1, rfl, rfl, SqT.of eq, atI_nat (j := 0) rfl, _, rfl, by show 2 ≤ sizeLine; decide, fun t ht => ⟨D, V.str (ledL p1 m1 x), rfl, ?_, ?_⟩⟩
    · have := DGet.t (k := kT m1 x) (keep1 e4 ht) (upd_same (o := .tup ((kT m1 x).map kV)))
      rw [z1.2] at this
      exact this
    have s1 := same_new (o := .tup ((kT m1 x).map kV)) ht
    refine ⟨_, rfl, b, C, dx', _, .ref D', rfl, s1 _ _ g1, T.cl, T.f5, rfl, _, rfl, q, _, _, V.str m2, rfl, rfl, SqT.of (s1 _ _ eq), atI_nat (j := 1) rfl, _, rfl, by show 2 ≤ sizeLine; decide, fun t' ht' => ⟨D', V.str (ledL p2 m2 x), rfl, ?_, ?_⟩⟩
    · have := DGet.t (k := kT m2 x) (keep1 (s1 _ _ g4) ht') (upd_same (o := .tup ((kT m2 x).map kV)))
      rw [z2.2] at this
      exact this
    refine ⟨by show 2 ≤ sizeLine; decide, fun r hr' => k r _ ((s1.trans (same_new (o := .tup ((kT m2 x).map kV)) ht')).trans (same_new hr')) upd_same⟩
theorem freeStep : ∀ y ∈ lamStep.2.2.names, y.2 = .free → (defScope sPairStep).names.lookup y.1 = some .cell ∨ (defScope sPairStep).names.lookup y.1 = some .free := by decide +kernel
theorem scPairStep : FnScope ["one", "other"] ["one", "other"] (defScope sPairStep) := ⟨rfl, rfl, rfl, by decide +kernel, rfl, by decide +kernel, by decide +kernel⟩
theorem ok_pairStep {g C cR PT : Addr} {od an : Option Addr} {oc kV dc pm ct : Value} {osl : Array (Option Value)} {T : List (Addr × Str)} (lk : K.lookup g = some ⟨oc, od, .func (PySem.W.fnOf "pair_step" "pair_step" (defArgs sPairStep) (defBody sPairStep) (defScope sPairStep) .none kV dc pm an (.ref cR) ct), osl⟩) (hcd : PySem.W.codeIn K (.ref cR) "pair_step" = true)
    (TB : TabB base mg cR PT) (hm : (PT, qStep) ∈ T) (hu : ∀ p ∈ T, p.1 = PT → p.2 = qStep) (R : RuC K C) :
    FnOk P w K mg base CX0 1 g (PySem.W.fnOf "pair_step" "pair_step" (defArgs sPairStep) (defBody sPairStep) (defScope sPairStep) .none kV dc pm an (.ref cR) ct) ["one", "other"] (spPairStep K P w mg base T C) := by
  refine fnL_of (k := 0) (N := ["one", "other"]) (lsc := lamStep.2.2) (fr := ["one", "other"]) (js := [0, 1]) lk hcd scPairStep (fun vs H Q E h => ?_) freeStep (by decide +kernel) (by decide +kernel) (by decide) rfl (fun A outer s H vs Q E hr h => ?_)
  · obtain ⟨a, b, rfl, _⟩ := h
    rfl
  · obtain ⟨a, b, rfl, hT, k⟩ := h
    refine ⟨_, psr_lam (T := T) (c := cR) (P := PT) TB rfl hm hu rfl freeStep, hT, fun f c' H1 eN T1 f0 f1 c1 => ?_⟩
    refine ⟨f, [.ref a, .ref b], rfl, rfl, fun H2 s2 clo nn => ?_⟩
    exact k f _ _ H2 (fun b o e n => s2 _ _ (eN b o e n)) (T1.ext s2) (nn.back eN) ⟨run_step ⟨_, c', rfl⟩ R, lamO_ne, s2 _ _ f1, s2 _ _ c1, clo⟩
end
end My
namespace My
open PySem PySem.Spec PyProof.Rows L2
def spCell (K : PySem.W.Frag) : Sp := fun vs H Q _ => ∃ (a : Addr) (ns : List Int) (t : Int), vs = [.ref a, .int t] ∧ SqL K H a (ns.map V.int) ∧ 0 ≤ t ∧ t ≤ 1000 ∧ ∀ (n : Int) (H' : Hp), Same H H' → Q (.int n) H'
/-- a drawn number -/
def spPk : Sp := fun vs H Q _ => ∃ (p : Addr) (n : Int), vs = [.ref p, .int n] ∧ Wl H p ∧ 0 < n ∧ n < 1073741824 ∧ ∀ (d : Int) (H' : Hp), 0 ≤ d → d < n → Sb p H H' → Wl H' p → Q (.int d) H'
def spPurse : Sp := fun vs H Q _ => ∃ n : Int, vs = [.int n] ∧ ∀ (p : Addr) (H' : Hp), Same H H' → H p = none → Wl H' p → Q (.ref p) H'
section
variable {P : Program} {w : World} {K : PySem.W.Frag} {mg : Str → Option Value} {base : Heap}
abbrev nCell : List Str := ["_law_cells", "_law_k", "_law_seed", "_law_cell_here"]
theorem scCell : FnScope nCell ["_law_cells", "_law_k"] (defScope sCell) := ⟨rfl, rfl, rfl, by decide +kernel, rfl, by decide +kernel, by decide +kernel⟩
theorem ok_cell {f : Addr} {fd : FuncData} (F : Fun K "_law_cell" "_law_cell" sCell f fd) (hI : mg "int" = none) (hL : mg "len" = none) : FnOk P w K mg base CX0 1 f fd ["_law_cells", "_law_k"] (spCell K) := by
  refine F.ok scCell (fun vs H Q E h => ?_) (fun cdv A outer s H vs Q E hr h => ?_)
  · obtain ⟨a, ns, t, rfl, _⟩ := h
    rfl
  · obtain ⟨a, ns, t, rfl, hS, t0, t1, k⟩ := h
    refine ⟨_, pss_cons (ps_if (pt_cmpR op_lt (pv 1) (pe_callB call_len_seq (by rfl) hL PySem.boot_len (pa_cons (pv 0) pa_nil)) (nomark _)) (pss_one (ps_ret (pe_ix ix_list (pv 0) (pv 1) (fun _ _ => rfl)))) pss_nil)
      (pss_cons (ps_set (i := 2) scCell.nd rfl (Or.inl rfl) (pe_op op_add (pe_op op_add pe_int (pe_op op_mul (pe_op op_mul pe_int (pv 1)) (pv 1))) (pe_op op_mul pe_int (pv 1))))
      (pss_cons (ps_for PassesOwn.never rfl (pi_list (pe_slice sl_list (pv 0) po_none (po_some pe_int))) (pg_name (i := 3) scCell.nd rfl (Or.inl rfl))
        (pss_one (ps_set (i := 2) scCell.nd rfl (Or.inl rfl) (pe_op op_mod (pe_callTy call_int1 (by rfl) hI (by decide +kernel) (pa_cons (pe_op op_add (pe_op op_mul (pv 2) pe_int) (pv 3)) pa_nil)) pe_int))))
      (pss_one (ps_ret (pv 2))))), ?_⟩
    refine ⟨_, rfl, _, rfl, a, _, rfl, .inl hS, _, _, rfl, rfl, _, rfl, ite2 (fun c => ?_) (fun c => ?_)⟩
    · have c1 : t < ((ns.map V.int).length : Int) := of_decide_eq_true c
      rw [List.length_map] at c1
      obtain ⟨z, hz⟩ : ∃ z, ns[t.toNat]? = some z := ⟨_, List.getElem?_eq_getElem (by omega : t.toNat < ns.length)⟩
      have et : t = ((t.toNat : Nat) : Int) := by omega
      refine ⟨_, rfl, _, rfl, a, _, _, V.int z, rfl, rfl, hS, ?_, k z _ (Same.refl _)⟩
      rw [et]
      exact atI_nat (by rw [List.getElem?_map, hz]; rfl)
    · refine ⟨_, rfl, _, _, rfl, rfl, .inl ⟨by decide, by decide⟩, _, rfl, _, _, rfl, rfl, .inr ⟨by show -(2 ^ 64 : Int) < t; omega, by show t < 2 ^ 64; omega⟩, _, _, rfl, rfl, _, rfl, _, _, rfl, rfl, .inl ⟨by decide, by decide⟩, _, _, rfl, rfl, ?_⟩
      refine ⟨_, rfl, 4, rfl, a, _, rfl, hS, fun q hq => ⟨q, rfl, ⟨_, SqL.of upd_same⟩, ?_⟩⟩
      obtain ⟨ms, hms⟩ := cut_ints ns none (some 4)
      refine for_list (K := K) (a := q) (xs := cutV (ns.map V.int) none (some 4)) (fun i σ H' => ∃ (st : Int) (v : Option V), σ = [some (.ref a), some (.int t), some (.int st), v] ∧ H' = upd H q (.lst (cutV (ns.map V.int) none (some 4))))
        ⟨_, none, rfl, rfl⟩ (fun i σ H' _ ⟨_, _, _, e⟩ => by rw [e]; exact SqL.of upd_same) ?_ ?_
      · rintro i y σ H' hi ⟨st, v, rfl, rfl⟩
        rw [hms] at hi
        obtain ⟨z, _, rfl⟩ := map_int_get hi
        exact ⟨_, rfl, _, _, rfl, rfl, .inr ⟨by decide, by decide⟩, _, rfl, _, _, rfl, rfl, .inl ⟨_, rfl, _, _, rfl, rfl, (by show (0 : Int) < 2147483399; decide), _, _, rfl, rfl⟩⟩
      · rintro σ H' ⟨st, v, rfl, rfl⟩
        exact ⟨_, rfl, k _ _ (same_new hq)⟩
abbrev nPurse : List Str := ["_law_cell_here", "_law_digits"]
theorem scPurse : FnScope nPurse ["_law_cell_here"] (defScope sPurse) := ⟨rfl, rfl, rfl, by decide +kernel, rfl, by decide +kernel, by decide +kernel⟩
def tDig : TE := fun σ H Q => ∃ (n : Int) (v : Option V), σ = [some (.int n), v] ∧ ∀ d : Int, 0 ≤ d → Q (.int d) H
theorem PE_imp0 {X : Cx} {e : Expr} {t t' : TE} (h : PE X e t) (m : ∀ σ H Q, t' σ H Q → t σ H Q) : PE X e t' := ⟨fun pins s σ H Q I q => h.run pins s σ H Q I (m σ H Q q)⟩
theorem ok_purse {f : Addr} {fd : FuncData} (F : Fun K "_law_purse" "_law_purse" sPurse f fd) (hI : mg "int" = none) (hA : mg "abs" = none) : FnOk P w K mg base CX0 1 f fd ["_law_cell_here"] spPurse := by
  refine F.ok scPurse (fun vs H Q E h => ?_) (fun cdv A outer s H vs Q E hr h => ?_)
  · obtain ⟨n, rfl, _⟩ := h
    rfl
  · obtain ⟨n, rfl, k⟩ := h
    refine ⟨_, pss_cons (ps_set (i := 1) scPurse.nd rfl (Or.inl rfl) (PE_imp0 (t' := tDig) (pe_ifExp (PW.pt (pw_or (pt_cmpR op_lt (pv 0) pe_int (nomark _)) (pw_or1 (pt_cmpR op_ge (pv 0) (pe_op op_pow pe_int pe_int) (nomark _))))) (pe_callB call_abs (by rfl) hA (by decide +kernel) (pa_cons (pv 0) pa_nil)) pe_int) ?iD))
      (pss_one (ps_ret (pe_lst (pa_cons (pe_op op_mod (pe_callTy call_int1 (by rfl) hI (by decide +kernel) (pa_cons (pe_op op_add (pe_op op_mul (pv 0) pe_int) pe_int) pa_nil)) pe_int) (pa_cons (pv 1) (pa_cons pe_int pa_nil)))))), ?_⟩
    case iD =>
      rintro σ H Q ⟨n, v, rfl, q⟩
      refine ⟨_, rfl, _, _, rfl, rfl, _, rfl, ite2 (fun c => ?_) (fun c => ?_)⟩
      · exact ⟨_, rfl, _, rfl, q _ (by split <;> omega)⟩
      · refine ⟨_, rfl, _, _, rfl, rfl, ⟨by decide, by decide, by decide⟩, _, _, rfl, rfl, _, rfl, ite2 (fun c => ?_) (fun c => ?_)⟩
        · exact ⟨_, rfl, _, rfl, q _ (by split <;> omega)⟩
        · exact q 0 (Int.le_refl _)
    refine ⟨n, none, rfl, fun d hd => ?_⟩
    refine ⟨_, rfl, _, _, rfl, rfl, .inr ⟨by decide, by decide⟩, _, _, rfl, rfl, .inl ⟨_, rfl, _, _, rfl, rfl, (by show (0 : Int) < 2147483563; decide), _, rfl, by show 3 ≤ sizeLine; decide, fun p hp => ?_⟩⟩
    exact k p _ (same_new hp) hp ⟨_, _, _, Int.emod_nonneg _ (by decide), hd, upd_same⟩
abbrev nPk : List Str := ["_law_purse_here", "_law_size", "_law_state", "_law_step", "_law_digit"]
theorem scPk : FnScope nPk ["_law_purse_here", "_law_size"] (defScope sPick) := ⟨rfl, rfl, rfl, by decide +kernel, rfl, by decide +kernel, by decide +kernel⟩
theorem ok_pk {f : Addr} {fd : FuncData} (F : Fun K "_law_pick" "_law_pick" sPick f fd) (hI : mg "int" = none) (hD : mg "divmod" = none) : FnOk P w K mg base CX0 1 f fd ["_law_purse_here", "_law_size"] spPk := by
  refine F.ok scPk (fun vs H Q E h => ?_) (fun cdv A outer s H vs Q E hr h => ?_)
  · obtain ⟨p, n, rfl, _⟩ := h
    rfl
  · obtain ⟨p, n, rfl, ⟨w0, w1, w2, h0, h1, hp⟩, n0, n1, k⟩ := h
    refine ⟨_, pss_cons (ps_asg (pe_op op_add (pe_ix ix_list (pv 0) pe_int (fun _ _ => rfl)) pe_int) (pg_sub (pv 0) pe_int set_list))
      (pss_cons (ps_set (i := 2) scPk.nd rfl (Or.inl rfl) (pe_callTy call_int1 (by rfl) hI (by decide +kernel) (pa_cons (pe_ix ix_list (pv 0) pe_int (fun _ _ => rfl)) pa_nil)))
      (pss_cons (ps_set (i := 3) scPk.nd rfl (Or.inl rfl) (pe_op op_add (pe_op op_mod (pe_callTy call_int1 (by rfl) hI (by decide +kernel) (pa_cons (pv 2) pa_nil)) pe_int) pe_int))
      (pss_cons (ps_asg (pe_op op_mod (pe_callTy call_int1 (by rfl) hI (by decide +kernel) (pa_cons (pe_op op_add (pe_op op_add (pe_op op_mul (pv 2) (pv 3)) (pe_op op_mul pe_int (pe_ix ix_list (pv 0) pe_int (fun _ _ => rfl)))) pe_int) pa_nil)) pe_int) (pg_sub (pv 0) pe_int set_list))
      (pss_cons (ps_if (pt_cmpR op_gt (pe_ix ix_list (pv 0) pe_int (fun _ _ => rfl)) pe_int (nomark _))
        (pss_cons (ps_asg (pe_callB call_divmod (by rfl) hD (by decide +kernel) (pa_cons (pe_ix ix_list (pv 0) pe_int (fun _ _ => rfl)) (pa_cons (pv 1) pa_nil))) (pg_tup rfl (pgs_cons (pg_sub (pv 0) pe_int set_list) (pgs_cons (pg_name (i := 4) scPk.nd rfl (Or.inl rfl)) pgs_nil))))
        (pss_one (ps_ret (pv 4)))) pss_nil)
      (pss_one (ps_ret (pe_op op_modN (pe_op op_fdiv (pe_callTy call_int1 (by rfl) hI (by decide +kernel) (pa_cons (pe_ix ix_list (pv 0) pe_int (fun _ _ => rfl)) pa_nil)) pe_int) (pv 1)))))))), ?_⟩
    have hp1 : ∀ o, upd H p o p = some o := fun o => upd_same
    refine ⟨_, rfl, p, _, _, _, rfl, rfl, SqL.of hp, atI_nat (j := 2) rfl, _, _, rfl, rfl, _, rfl, p, _, _, 2, rfl, rfl, hp, rfl, ?_⟩
    refine ⟨_, rfl, p, _, _, _, rfl, rfl, SqL.of (hp1 _), atI_nat (j := 0) rfl, .inl ⟨_, rfl, ?_⟩⟩
    refine ⟨_, rfl, .inl ⟨_, rfl, _, _, rfl, rfl, (by show (0 : Int) < 40013; decide), _, _, rfl, rfl, ?_⟩⟩
    have m0 := Int.emod_nonneg w0 (show (40013 : Int) ≠ 0 by decide)
    have m1 := Int.emod_lt_of_pos w0 (show (0 : Int) < 40013 by decide)
    refine ⟨_, rfl, _, rfl, _, _, rfl, rfl, .inr ⟨by show -(2 ^ 64 : Int) < w0 % 40013 + 20021; omega, by show w0 % 40013 + 20021 < 2 ^ 64; omega⟩, _, rfl, p, _, _, _, rfl, rfl, SqL.of (hp1 _), atI_nat (j := 2) rfl, _, _, rfl, rfl, .inl ⟨by decide, by decide⟩, _, _, rfl, rfl, _, _, rfl, rfl, .inl ⟨_, rfl, _, _, rfl, rfl, (by show (0 : Int) < 2147483399; decide), _, rfl, p, _, _, 0, rfl, rfl, hp1 _, rfl, ?_⟩⟩
    rw [upd_upd]
    have e0 : ∀ z : Int, 0 ≤ z % 2147483399 := fun z => Int.emod_nonneg _ (by decide)
    refine ⟨_, rfl, p, _, _, _, rfl, rfl, SqL.of (hp1 _), atI_nat (j := 1) rfl, _, _, rfl, rfl, _, rfl, ite2 (fun c => ?_) (fun c => ?_)⟩
    · have c' : (0 : Int) < w1 := of_decide_eq_true c
      refine ⟨_, rfl, p, _, _, _, rfl, rfl, SqL.of (hp1 _), atI_nat (j := 1) rfl, _, rfl, _, _, rfl, ⟨by omega, by omega⟩, fun t ht => ?_⟩
      have nt : t ≠ p := (ne_of_none (hp1 _) ht).symm
      refine ⟨t, _, rfl, SqT.of upd_same, rfl, _, _, rfl, _, rfl, p, _, _, 1, rfl, rfl, by rw [upd_ne nt.symm]; exact hp1 _, rfl, _, _, rfl, rfl, _, rfl, ?_⟩
      have ed : w1 % n = w1 % n := rfl
      refine k _ _ (Int.emod_nonneg _ (by omega)) (Int.emod_lt_of_pos _ n0) (fun b u nb e => ?_) ⟨_, _, _, e0 _, Int.ediv_nonneg h1 (by omega), upd_same⟩
      have nbt : b ≠ t := ne_of_none (show upd H p _ b = some u by rw [upd_ne nb]; exact e) ht
      rw [upd_ne nb, upd_ne nbt, upd_ne nb]
      exact e
    · refine ⟨_, rfl, p, _, _, _, rfl, rfl, SqL.of (hp1 _), atI_nat (j := 0) rfl, .inl ⟨_, rfl, _, _, rfl, rfl, ⟨by decide, by decide⟩, _, rfl, _, _, rfl, rfl, (by show n ≠ 0; omega), ?_⟩⟩
      exact k _ _ (Int.fmod_nonneg_of_pos _ n0) (Int.fmod_lt_of_pos _ n0) Sb.upd_ ⟨_, _, _, e0 _, h1, upd_same⟩
end
end My
namespace My
open PySem PySem.Spec PyProof.Rows L2
theorem ShAll.get {K : PySem.W.Frag} {H : Hp} : ∀ {xs : List V} {ds : List PyData} {i : Nat} {v : V}, ShAll K H xs ds → xs[i]? = some v → ∃ d, d ∈ ds ∧ Sh K H v d
  | _, _, _, _, .nil, e => by simp at e
  | _, _, 0, _, .cons r _, e => by simp at e; subst e; exact ⟨_, List.mem_cons_self .., r⟩
  | _, _, i + 1, v, .cons _ t, e => by
    obtain ⟨d, h1, h2⟩ := ShAll.get (i := i) (v := v) t (by simpa using e)
    exact ⟨d, List.mem_cons_of_mem _ h1, h2⟩
theorem delk {H : Hp} {p t : Addr} {o u : HO} (e : H t = some u) (h : t ≠ p) : del (upd H p o) p t = some u := by
  rw [del_ne h, upd_ne h]
  exact e
theorem same_del_upd {H : Hp} {p : Addr} {o : HO} : Same (del H p) (del (upd H p o) p) := fun b u e => by
  by_cases hb : b = p
  · rw [hb, del_same] at e; cases e
  · rw [del_ne hb] at e ⊢
    rw [upd_ne hb]; exact e
end My
namespace My
open PySem PySem.Spec PyProof.Rows L2 PySem.GX L2H LamX
open Builtin.Str (reprChar)
theorem reps_list (c : Nat) : ∀ (n : Nat) (acc : Array Nat), ((List.replicate n #[c]).foldl (· ++ ·) acc).toList = acc.toList ++ List.replicate n c
  | 0, acc => by simp
  | n + 1, acc => by
    rw [List.replicate_succ, List.foldl_cons, reps_list c n, List.replicate_succ]
    simp
/-- one sign, so often -/
def manyS (c : Nat) : Str := ⟨(List.replicate 1001 c).toArray⟩
theorem op_mulS {X : Cx} : OpR X (binaryOp .Mult) (fun x y H Q => ∃ c : Nat, x = .str (sg c) ∧ y = .int 1001 ∧ Q (.str (manyS c)) H) := by
  intro pins s σ H x y v u Q I rx ry ⟨c, ex, ey, q⟩
  subst ex ey
  obtain ⟨t, rfl⟩ := rx
  obtain ⟨t', rfl⟩ := ry
  have e : Txt.mul (sg c) 1001 = manyS c := by
    unfold Txt.mul
    rw [if_neg (by decide), if_neg (by show ¬ ((1001 : Int) == 1 || (1 : Nat) == 0) = true; decide)]
    exact str_ext (by
      show ((List.replicate 1001 #[c]).foldl (· ++ ·) #[]).toList = _
      rw [reps_list]
      simp [manyS])
  refine SB.mul ⟨by decide, fun _ _ => ?_, fun _ _ => ?_⟩ fun t' k => ⟨.str (manyS c), H, I.tok _, ⟨t', by rw [e]⟩, q⟩
  · show ¬ ((1 : Int) > (2 ^ 63 - 1) / 1001)
    decide
  · show Builtin.Str.tooLong (1 * 1001) = false
    decide +kernel
/-- all but the tables and what is at p stays -/
def Kp (p : Addr) (H H' : Hp) : Prop := ∀ b o, b ≠ p → (∀ ps, o ≠ .tbl ps) → H b = some o → H' b = some o
theorem Kp.refl (p : Addr) (H : Hp) : Kp p H H := fun _ _ _ _ h => h
theorem Kp.trans {p : Addr} {H H1 H2 : Hp} (a : Kp p H H1) (b : Kp p H1 H2) : Kp p H H2 := fun c o n t h => b c o n t (a c o n t h)
theorem Kp.sb {p : Addr} {H H' : Hp} (s : Sb p H H') : Kp p H H' := fun b o n _ h => s b o n h
theorem Kp.of {p : Addr} {H H' : Hp} (s : Same H H') : Kp p H H' := fun b o _ _ h => s b o h
theorem Kp.ext {p : Addr} {H H' : Hp} (s : ExtN H H') : Kp p H H' := fun b o _ t h => s b o h t
theorem Tabs.sb_ {T : List (Addr × Str)} {p : Addr} {H H' : Hp} (t : Tabs T H) (w : Wl H p) (s : Sb p H H') : Tabs T H' := fun q hq => by
  obtain ⟨ps, h1, h2, h3⟩ := t q hq
  refine ⟨ps, s _ _ (w.ne h1 fun a b c z => by cases z) h1, h2, fun pos cv hc => ?_⟩
  obtain ⟨c, e1, e2⟩ := h3 pos cv hc
  exact ⟨c, e1, s _ _ (w.ne e2 fun a b c z => by cases z) e2⟩
theorem Wl.ext_ {H H' : Hp} {p : Addr} (w : Wl H p) (s : ExtN H H') : Wl H' p := by
  obtain ⟨w0, w1, w2, a0, a1, e⟩ := w
  exact ⟨w0, w1, w2, a0, a1, s _ _ e fun _ z => by cases z⟩
theorem call_reprLK {X : Cx} {K : PySem.W.Frag} (h : X.K = K) (hg : X.A.guards = some []) (hu : X.A.units + 64 < cLine) : CallR X (.builtin "repr") (rRepr K) := by subst h; exact call_reprL hg hu
def Low (y : Str) : Prop := ∀ c ∈ y.cps.toList, c < 256
theorem Low.app {a b : Str} (h1 : Low a) (h2 : Low b) : Low (a ++ b) := fun c hc => by
  rw [cps_app] at hc
  rcases List.mem_append.mp hc with m | m
  · exact h1 c m
  · exact h2 c m
theorem reprChar_low : ∀ c, c < 256 → ∀ q ∈ [39, 34], (reprChar q c).all (fun e => decide (e < 256)) = true := by decide +kernel
theorem fold_low (q : Nat) (hq : q ∈ [39, 34]) : ∀ (l : List Nat) (acc : Array Nat), (∀ c ∈ l, c < 256) → (∀ c ∈ acc.toList, c < 256) → ∀ c ∈ (l.foldl (fun out c => out ++ (reprChar q c).toArray) acc).toList, c < 256
  | [], acc, _, h => h
  | d :: r, acc, h1, h2 => by
    refine fold_low q hq r _ (fun c hc => h1 c (by simp [hc])) fun c hc => ?_
    simp only [Array.toList_append, List.mem_append] at hc
    rcases hc with m | m
    · exact h2 c m
    · exact of_decide_eq_true (List.all_eq_true.mp (reprChar_low d (h1 d (by simp)) q hq) c m)
theorem repr_low {x : Str} (h : Low x) : Low (reprText x) := fun c hc => by
  have hq : reprQuote x ∈ [39, 34] := by
    unfold reprQuote
    split <;> simp
  unfold reprText at hc
  simp only [Array.toList_push, List.mem_append, List.mem_singleton] at hc
  have q0 : reprQuote x < 256 := by
    simp only [List.mem_cons, List.not_mem_nil, or_false] at hq
    omega
  rcases hc with m | m
  · rw [← Array.foldl_toList] at m
    exact fold_low _ hq _ _ h (fun d hd => by
      have : d = reprQuote x := by simpa using hd
      rw [this]; exact q0) c m
  · rw [m]; exact q0
theorem repr_short {x : Str} (h : Low x) : (reprText x).length ≤ 10 * x.length + 2 := StrLaws.reprText_len x fun c hc => Nat.lt_trans (h c hc) (by decide)
/-- what repr(["row", d]) is asked for -/
structure Gd (d : PyData) : Prop where
  sh : PyData.showableAll [.str "row", d] = true
  ln : (PyData.list [.str "row", d]).shown.length ≤ sizeLine
  dp : (PyData.list [.str "row", d]).depth ≤ 60
  ok : PyData.strOk (PyData.list [.str "row", d]).shown = true
theorem row_text (t : Str) : listText [reprText "row", t] = ("['row', " : Str) ++ t ++ "]" := by
  have e : textFrom 0 "[" [reprText "row", t] = ("['row', " : Str) ++ t := by
    show (("[" : Str) ++ ("" : Str) ++ reprText "row") ++ (", " : Str) ++ t = _
    have : (("[" : Str) ++ ("" : Str) ++ reprText "row") ++ (", " : Str) = "['row', " := by decide +kernel
    rw [this]
  unfold listText
  rw [e]
theorem gd_of {d : PyData} (h1 : d.showable = true) (h2 : d.shown.length ≤ 20000) (h3 : d.depth ≤ 50) (h4 : Low d.shown) : Gd d := by
  have e : (PyData.list [.str "row", d]).shown = ("['row', " : Str) ++ d.shown ++ "]" := by
    rw [← row_text]
    simp only [PyData.shown, PyData.shownAll]
  refine ⟨?_, ?_, ?_, ?_⟩
  · simp only [PyData.showableAll, PyData.showable, h1, Bool.and_self]
  · rw [e, len_app, len_app]
    have a : ("['row', " : Str).length = 8 := by decide +kernel
    have b : ("]" : Str).length = 1 := by decide +kernel
    rw [a, b, sizeLine_eq]
    omega
  · simp only [PyData.depth, PyData.depthAll]
    omega
  · rw [e]
    exact ok_low (Low.app (Low.app (by unfold Low; decide +kernel) h4) (by unfold Low; decide +kernel))
theorem gd_str {r : Str} (h : Low r) (hl : r.length ≤ 1100) : Gd (.str r) := by
  have := repr_short h
  refine gd_of (by simp only [PyData.showable]) ?_ (by simp only [PyData.depth]; omega) ?_
  · simp only [PyData.shown]
    omega
  · simp only [PyData.shown]
    exact repr_low h
theorem gd_list {r : Str} (h : Low r) (hl : r.length ≤ 1100) : Gd (.list [.str r]) := by
  have := repr_short h
  have e : (PyData.list [.str r]).shown = ("[" : Str) ++ reprText r ++ "]" := by
    simp only [PyData.shown, PyData.shownAll]
    unfold listText
    show (("[" : Str) ++ ("" : Str) ++ reprText r) ++ "]" = _
    have : ("[" : Str) ++ ("" : Str) = "[" := by decide +kernel
    rw [this]
  refine gd_of (by simp only [PyData.showable, PyData.showableAll, Bool.and_self]) ?_ (by simp only [PyData.depth, PyData.depthAll]; omega) ?_
  · rw [e, len_app, len_app]
    have a : ("[" : Str).length = 1 := by decide +kernel
    have b : ("]" : Str).length = 1 := by decide +kernel
    omega
  · rw [e]
    exact Low.app (Low.app (by unfold Low; decide +kernel) (repr_low h)) (by unfold Low; decide +kernel)
theorem gd_tup {r : Str} (h : Low r) (hl : r.length ≤ 1100) : Gd (.tuple [.str r]) := by
  have := repr_short h
  have e : (PyData.tuple [.str r]).shown = ("(" : Str) ++ reprText r ++ ",)" := by
    simp only [PyData.shown, PyData.shownAll]
    rfl
  refine gd_of (by simp only [PyData.showable, PyData.showableAll, Bool.and_self]) ?_ (by simp only [PyData.depth, PyData.depthAll]; omega) ?_
  · rw [e, len_app, len_app]
    have a : ("(" : Str).length = 1 := by decide +kernel
    have b : (",)" : Str).length = 2 := by decide +kernel
    omega
  · rw [e]
    exact Low.app (Low.app (by unfold Low; decide +kernel) (repr_low h)) (by unfold Low; decide +kernel)
mutual
theorem Sh.ext {K : PySem.W.Frag} {H H' : Hp} (s : ExtN H H') : ∀ {v : V} {d : PyData}, Sh K H v d → Sh K H' v d
  | _, _, .fl f => .fl f
  | _, _, .lst h t => .lst (by
      rcases h with (h | ⟨o, h⟩) | h
      · exact .inl (.inl (s _ _ h fun _ z => by cases z))
      · exact .inl (.inr ⟨o, s _ _ h fun _ z => by cases z⟩)
      · exact .inr h) (ShAll.ext s t)
  | _, _, .tup h t => .tup (by
      rcases h with (h | ⟨o, h⟩) | h
      · exact .inl (.inl (s _ _ h fun _ z => by cases z))
      · exact .inl (.inr ⟨o, s _ _ h fun _ z => by cases z⟩)
      · exact .inr h) (ShAll.ext s t)
  | _, _, .dic h a b => .dic (s _ _ h fun _ z => by cases z) a b
theorem ShAll.ext {K : PySem.W.Frag} {H H' : Hp} (s : ExtN H H') : ∀ {vs : List V} {ds : List PyData}, ShAll K H vs ds → ShAll K H' vs ds
  | _, _, .nil => .nil
  | _, _, .cons a b => .cons (Sh.ext s a) (ShAll.ext s b)
end
theorem Kp.cut {p : Addr} {H H' : Hp} (s : Kp p H H') : ExtN (del H p) (del H' p) := fun b o e t => by
  by_cases hb : b = p
  · rw [hb, del_same] at e; cases e
  · rw [del_ne hb] at e ⊢
    exact s b o hb t e
theorem ext_of_del {H : Hp} {p : Addr} : ExtN (del H p) H := fun b o e _ => by
  by_cases hb : b = p
  · rw [hb, del_same] at e; cases e
  · rw [del_ne hb] at e; exact e
theorem sb_of_del {p : Addr} {H H' : Hp} (s : Same (del H p) (del H' p)) : Sb p H H' := fun b o n e => by
  have := s b o (by rw [del_ne n]; exact e)
  rw [del_ne n] at this
  exact this
/-- a text, or of another type -/
theorem sh_ty {K : PySem.W.Frag} {H : Hp} {v : V} {d : PyData} (h : Sh K H v d) : (∃ r, v = .str r ∧ d = .str r) ∨ ∃ ty, TyX K H v ty ∧ PySem.W.kitOne K ty (.type "str") = some false := by
  cases h with
  | fl f =>
    cases f with
    | non => exact .inr ⟨_, .base .non, kit_ty (by decide +kernel)⟩
    | bl b => exact .inr ⟨_, .base (.bl b), kit_ty (by decide +kernel)⟩
    | int i => exact .inr ⟨_, .base (.int i), kit_ty (by decide +kernel)⟩
    | str x => exact .inl ⟨x, rfl, rfl⟩
  | lst h t =>
    rcases h with (h | ⟨o, h⟩) | ⟨o, its, n, hk, hc, _⟩
    · exact .inr ⟨_, .base (.lst h), kit_ty (by decide +kernel)⟩
    · exact .inr ⟨_, .base (.frz h), kit_ty (by decide +kernel)⟩
    · exact .inr ⟨_, .kList hk hc, kit_ty (by decide +kernel)⟩
  | tup h t =>
    rcases h with (h | ⟨o, h⟩) | ⟨o, its, n, hk, hc, _⟩
    · exact .inr ⟨_, .base (.tup h), kit_ty (by decide +kernel)⟩
    · exact .inr ⟨_, .fTuple h, kit_ty (by decide +kernel)⟩
    · exact .inr ⟨_, .kTuple hk hc, kit_ty (by decide +kernel)⟩
  | dic h a b => exact .inr ⟨_, .base (.dK h), kit_ty (by decide +kernel)⟩
theorem row_is {x r : Str} (h1 : r.length ≤ 1000) (h2 : ∀ c ∈ r.cps.toList, c ∈ x.cps.toList) : isRowL x r = true := by
  unfold isRowL
  rw [decide_eq_true h1, Bool.true_and]
  exact List.all_eq_true.mpr fun c hc => decide_eq_true (h2 c hc)
theorem cut_sub (r : Str) (lo hi : Option Int) : ∀ c ∈ (cutS r lo hi).cps.toList, c ∈ r.cps.toList := fun c hc => by
  unfold cutS at hc
  exact List.mem_of_mem_drop (List.mem_of_mem_take (by simpa using hc))
theorem many_low {c : Nat} (h : c < 256) : Low (manyS c) := fun d hd => by
  unfold manyS at hd
  have : d = c := by simpa using hd
  rw [this]; exact h
theorem many_len (c : Nat) : (manyS c).length = 1001 := by
  show ((List.replicate 1001 c).toArray).size = 1001
  rw [List.size_toArray, List.length_replicate]
theorem sg_low {c : Nat} (h : c < 256) : Low (sg c) := fun d hd => by
  have : d = c := by simpa using hd
  rw [this]; exact h
theorem Tabs.off {T : List (Addr × Str)} {l : Addr} {H : Hp} {xs : List V} {o : HO} (t : Tabs T H) (e : H l = some (.lst xs)) : Tabs T (upd H l o) := fun q hq => by
  obtain ⟨ps, h1, h2, h3⟩ := t q hq
  refine ⟨ps, by rw [upd_ne (ne_of h1 e (by intro z; cases z))]; exact h1, h2, fun pos cv hc => ?_⟩
  obtain ⟨c, e1, e2⟩ := h3 pos cv hc
  exact ⟨c, e1, by rw [upd_ne (ne_of e2 e (by intro z; cases z))]; exact e2⟩
end My
namespace L2
open PySem PySem.Spec PyProof.Rows PySem.GX
/-! a set comprehension whose members are texts -/
theorem addT {P : Program} {w : World} {A : Around} {E : Value → Shared → Prop} {s : Shared} {a : Addr} {ys : List Str} {k : Str} {tk : Tok} {Q : Value → Shared → Prop} (R : SetT w s.heap a ys) (room : ys.length + 1 < scanBound)
    (done : ∀ h', Heap.SameBut a s.heap h' → SetT w h' a (ins ys k) → Q .none { s with heap := h', toks := s.toks + 1 }) : wpAny (model P w) A (call (.builtin "set.add") [.ref a, .str k tk]) Q E s := by
  have ty : s.TypeIs (.ref a) "set" := by
    obtain ⟨o, _, _, _, ho, hex, _⟩ := R
    exact ⟨o, ho, hex.1⟩
  refine wpAny_call_entry PySem.F.slot_set_add ty PySem.F.entry_set_add ?_ (PySem.F.args_set_add_2 (.ref a) (.str k tk))
  unfold Builtin.«set.add» Builtin.Frozenset.oneOther Builtin.Frozenset.addrOf setAdd
  simp only [bind_assoc, List.isEmpty_nil]
  refine wpAny_bind (wpAny_pure ?_)
  try dsimp only
  refine wpAny_bind (wpAny_pure ?_)
  try dsimp only
  refine wpAny_bind (wpAny_holding ?_)
  refine wpAny_bind ((PySem.strKind P w).pyHash (k := k) (strKind_is P w k tk) ?_)
  refine setT_add (s := { s with toks := s.toks + 1 }) R room fun b h' sb r => ?_
  show wpAny _ _ (ret Value.none) _ _ _
  exact wpAny_pure ⟨_, rfl, done h' sb r⟩
/-- D is the new set -/
def tScT (w : World) (wi : TI) (g : TG) (tt : TT) (te : TE) (vs : List Nat) : TE := fun σ H Q => wi σ H fun J H1 => ∀ D, H1 D = none → ∃ W : Nat → Nat → Hp → Prop, (∃ m, W 0 m (upd H1 D (SetTx w D []))) ∧ ∀ i m H, W i m H →
  (J.stop i H ∧ Q (.ref D) H) ∨ (J.go i H ∧ ∃ On : Hp → Prop, (∀ H', On H' → ∃ m', m' < m ∧ W (i + 1) m' H') ∧ ∀ x H', J.yld i H x H' → g x (wipe σ vs) H' fun σ2 H2 => wipe σ2 vs = wipe σ vs ∧ tt σ2 H2 fun b H3 =>
    if b = true then te σ2 H3 fun y H4 => ∃ ys k, y = .str k ∧ H4 D = some (SetTx w D ys) ∧ ys.length + 1 < scanBound ∧ On (upd H4 D (SetTx w D (ins ys k))) else On H3)
section
variable {X : Cx} {ex tg iter : Expr} {ifs : List Expr} {scope : Scope} {own : List (Str × Nat)} {pos : Pos} {wi : TI} {g : TG} {tt : TT} {te : TE}
theorem pe_scT (calm : X.calm = true) (hN : X.N.Nodup) (hi : PI X tg iter wi) (ok : BlkOk X.N X.env.scope scope own)
    (hg : ∀ (s : Shared) (H : Hp) (C : Addr) (cl : List (Str × Addr)) (fp : List Addr), PG (X.blk s H scope (compEnvC scope cl C X.env) fp) tg g)
    (ht : ∀ (s : Shared) (H : Hp) (C : Addr) (cl : List (Str × Addr)) (fp : List Addr), PTs (X.blk s H scope (compEnvC scope cl C X.env) fp) ifs tt)
    (hk : ∀ (s : Shared) (H : Hp) (C : Addr) (cl : List (Str × Addr)) (fp : List Addr), PE (X.blk s H scope (compEnvC scope cl C X.env) fp) ex te)
    (hs : ∀ x, foldedSetIterable iter X.env x = pure x := by intro _; rfl) :
    PE X (.SetComp ex [⟨tg, iter, ifs, 0⟩] scope pos) (tScT X.w wi g tt te (own.map (·.2))) := by
  refine ⟨fun pl s σ H Q I h => ?_⟩
  rw [PpSet.eval_SetComp]
  have frees : ∀ y ∈ scope.names, y.2 = .free → ∃ c, X.env.cells.lookup y.1 = some c := fun y hy e => by
    rcases ok.free y hy e with k | k
    · exact I.ok.has _ (.inl k)
    · exact I.ok.has _ (.inr k)
  refine wpAny_comprehension_free rfl hs (closure_ok frees) ok.kind (fun y hy e => by rw [ok.uniq y hy, e]) (thn (hi.run pl s σ H _ I h) fun _ sa ha => thn ha fun _ sb hb => ?_)
  obtain ⟨it, fp, tn, J, Hb, rfl, Ib, T, tb, okb, want⟩ := hb
  refine PpSet.newSet_ok (newEnv_comp ?_)
  -- the new set
  generalize eD : sb.heap.objs.size = D
  have freeD : Hb D = none := Ib.hok.fresh (Nat.le_of_eq eD)
  obtain ⟨W, ⟨m0, begins⟩, turn⟩ := want D freeD
  generalize esc : ({ sb with heap := sb.heap.push (L2.newSet X.w) } : Shared) = sc
  have hsc : sc.heap = sb.heap.push (L2.newSet X.w) := by rw [← esc]
  have Ic : Inv X pl σ (upd Hb D (SetTx X.w D [])) sc := by
    rw [← esc]
    refine Ib.laid (t' := sb.toks) (fun b o e => Heap.get?_push_of_some _ e) (Nat.le_of_eq eD) ?_
    rw [← eD]
    exact setTx_new (setT_fresh X.w)
  have old : ∀ b ∈ fp, b < sb.heap.objs.size := fun b hb => by
    obtain ⟨o, e, _⟩ := T.obj _ _ tb b hb
    exact Heap.lt_size e
  have okc : ∀ b ∈ fp, FpOk X pl (upd Hb D (SetTx X.w D [])) b ∧ b < sc.heap.objs.size := fun b hb => by
    have lt := old b hb
    refine ⟨⟨?_, (okb b hb).2⟩, ?_⟩
    · rw [upd_ne (by rw [← eD]; exact Nat.ne_of_lt lt)]
      exact (okb b hb).1
    · rw [hsc, Heap.size_push]
      exact Nat.lt_succ_of_lt lt
  have tc : tn 0 sc.heap := T.keep _ _ _ tb fun b _ o e => by
    rw [hsc]
    exact Heap.get?_push_of_some _ e
  -- the block
  have Id := block_start Ic ok hN okc
  have g1 := hg sc (upd Hb D (SetTx X.w D [])) sc.heap.objs.size (cellsFrom (sc.heap.objs.size + 1) scope.names (cloFrom X.env.cells scope.names [])) fp
  have g2 := ht sc (upd Hb D (SetTx X.w D [])) sc.heap.objs.size (cellsFrom (sc.heap.objs.size + 1) scope.names (cloFrom X.env.cells scope.names [])) fp
  have g3 := hk sc (upd Hb D (SetTx X.w D [])) sc.heap.objs.size (cellsFrom (sc.heap.objs.size + 1) scope.names (cloFrom X.env.cells scope.names [])) fp
  show codeAny _ _ (.compStart (.SetComp ex [⟨tg, iter, ifs, 0⟩] scope pos) 0 (.ref it) (.ref D) (compEnvC scope (cellsFrom (sc.heap.objs.size + 1) scope.names (cloFrom X.env.cells scope.names [])) sc.heap.objs.size X.env)) _
    { sc with heap := pushCells (sc.heap.push { cls := .type "dict", data := .dict #[] }) scope.names }
  have hid : ∀ b ∈ fp, (upd Hb D (SetTx X.w D [])) b = none := fun b hb => (okc b hb).1.1
  generalize eenv : compEnvC scope (cellsFrom (sc.heap.objs.size + 1) scope.names (cloFrom X.env.cells scope.names [])) sc.heap.objs.size X.env = env at Id g1 g2 g3 ⊢
  have eloc : env.locals = sc.heap.objs.size := by subst eenv; rfl
  generalize eHc : upd Hb D (SetTx X.w D []) = Hc at Ic Id g1 g2 g3 begins hid okc
  generalize esd : ({ sc with heap := pushCells (sc.heap.push { cls := .type "dict", data := .dict #[] }) scope.names } : Shared) = sd at Id ⊢
  have td : tn 0 sd.heap := T.keep _ _ _ tc fun b _ o e => by
    rw [← esd]
    exact pushCells_keeps _ _ _ _ (Heap.get?_push_of_some _ e)
  have fpOk : ∀ {σ' : St} {H' : Hp} {s' : Shared}, Inv (X.blk sc Hc scope env fp) [] σ' H' s' → (∀ b ∈ fp, H' b = none) → ∀ b ∈ fp, FpOk (X.blk sc Hc scope env fp) [] H' b := fun {σ' H' s'} I' free b hb => by
    refine ⟨free b hb, (I'.ok.exf b hb).1, I'.ok.exfs b hb, .inl hb, fun x c e => (I'.ok.exf b hb).2 x c e, fun p hp => ?_⟩
    exact absurd (show p ∈ ([] : List (Addr × Obj)) ++ [] from hp) (by simp)
  refine PpSet.codeAny_compStart_set ?lp (T.self X.A 0 _ _ _ td ?lp)
  refine PpSet.compLoopS_any (fun n s' => ∃ i H', Inv (X.blk sc Hc scope env fp) [] (wipe σ (own.map (·.2))) H' s' ∧ tn i s'.heap ∧ (∀ b ∈ fp, H' b = none) ∧ W i n H') ?_ m0 ⟨0, Hc, Id, td, hid, begins⟩
  rintro n se ⟨i, He, Ie, te, free, at_⟩
  rcases turn i n He at_ with ⟨stop, wish⟩ | ⟨goes, On, next, step⟩
  · refine thnF (T.done (X.blk sc Hc scope env fp) rfl rfl rfl calm i [] se _ He (fun _ _ => False) Ie (fpOk Ie free) te stop) fun r sf ⟨hr, If⟩ => ?_
    subst hr
    have back : Inv X pl σ He sf := Ic.call' (ch := fp) If.os If.base If.hok If.bare fun b hb => ⟨(okc b hb).1.2.2.2.1, (okc b hb).1.2.1, (okc b hb).1.2.2.2.2.1, (okc b hb).1.2.2.2.2.2⟩
    have noC : He sc.heap.objs.size = none := by
      have z : He env.locals = none := If.free
      rw [eloc] at z
      exact z
    obtain ⟨m, hn, _⟩ := If.loc
    have hn' : sf.heap.Ns env.locals m := hn
    rw [eloc] at hn'
    obtain ⟨f0, f1, f2, f3, f4, f5⟩ := Ic.fpOk (Nat.le_refl _) noC
    exact ⟨m, hn', fun h'' sb' => ⟨.ref D, He, back.turned (t' := sf.toks) (fun b o hb e => (sb'.2 b hb).trans e) f0 f1 f3 f4 f5, rfl, wish⟩⟩
  · refine thnF (T.item (X.blk sc Hc scope env fp) rfl rfl rfl calm i [] se _ He (fun _ _ => False) Ie (fpOk Ie free) te goes) fun r sf ⟨u, hr, hf⟩ => ?_
    subst hr
    refine thnF hf fun _ sg ⟨x, Hg, Ig, rg, yg, tg', freeg⟩ => ?_
    have pinned := Ig.pinned (fpOk Ig freeg) (T.obj _ _ tg')
    refine thnF (g1.run _ sg _ Hg x u _ pinned rg (step x Hg yg)) fun _ sh ⟨σh, Hh, Ih, wh, qh⟩ => ?_
    refine thnF (g2.run _ sh σh Hh _ Ih qh) fun b si ⟨Hi, Ii, qi⟩ => ?_
    have ends : ∀ {s' : Shared} {H' : Hp}, Inv (X.blk sc Hc scope env fp) ([] ++ pinsAt fp sg.heap) σh H' s' → On H' →
        ∃ m, m < n ∧ ∃ i H', Inv (X.blk sc Hc scope env fp) [] (wipe σ (own.map (·.2))) H' s' ∧ tn i s'.heap ∧ (∀ b ∈ fp, H' b = none) ∧ W i m H' := fun {s' H'} I' on => by
      obtain ⟨m', lt, at'⟩ := next H' on
      have kept : ∀ b ∈ fp, ∀ o, sg.heap.get? b = some o → s'.heap.get? b = some o ∧ H' b = none := fun b hb o e => by
        have z := I'.pin (b, o) (List.mem_append_right _ (List.mem_append_right _ (mem_pinsAt hb e)))
        exact ⟨z.1, z.2.1⟩
      have len : (wipe σ (own.map (·.2))).length = σh.length := by
        rw [← wh, wipe_length]
      refine ⟨m', lt, i + 1, H', (I'.unpinned (pins := [])).weak len (fun j y e => ?_), T.keep _ _ _ tg' fun b hb o e => (kept b hb o e).1, fun b hb => ?_, at'⟩
      · rw [← wh] at e
        exact (wipe_some e).1
      · obtain ⟨o, e, _⟩ := T.obj _ _ tg' b hb
        exact (kept b hb o e).2
    cases b with
    | false =>
      simp only [Bool.false_eq_true, if_false] at qi ⊢
      exact ends Ii qi
    | true =>
      simp only [if_true] at qi ⊢
      refine thnF (g3.run _ si σh Hi _ Ii qi) fun z sj ⟨yk, Hj, Ij, rj, ys, k, ek, eDk, few, on⟩ => ?_
      subst ek
      obtain ⟨tk, rfl⟩ := rj
      have R : SetT X.w sj.heap D ys := (Ij.hok D _ eDk).1
      refine addT R few fun h' sb' new => ends (Ij.write (e := D) (t' := sj.toks + 1) (by rw [eDk]; trivial) (.inl rfl) (fun b u hb hu => (sb'.2 b hb).trans hu) ?_ (setTx_new new)) on
      obtain ⟨o, _, _, _, ho, _⟩ := new
      exact ⟨o, ho⟩
end
section
variable {w : World} {J : It} {G : Hp → Prop} {Y : Nat → Hp → V → Hp → Prop} {g : TG} {tt : TT} {te : TE} {vs : List Nat} {σ : St} {H1 : Hp} {D : Addr} {Qd : Hp → Prop}
/-- {e for x in ..}, xs the texts that e is, one after another -/
theorem scG (xs : List Str) (wk : Walk J xs.length G Y) (hz : xs.length < 4000) (hD : H1 D = none) (hY : ∀ i H x H', Y i H x H' → Same H H') (hG : ∀ H', Same H1 H' → G H')
    (turn : ∀ (i : Nat) (a : Str) (x : V) (H' H'' : Hp) (k : V → Hp → Prop) (k0 : Hp → Prop), xs[i]? = some a → Same H1 H' → Y i H' x H'' → (∀ H4, Same H'' H4 → k (.str a) H4) →
      g x (wipe σ vs) H'' fun σ2 H2 => wipe σ2 vs = wipe σ vs ∧ tt σ2 H2 fun b H3 => if b = true then te σ2 H3 fun y H4 => k y H4 else k0 H3)
    (hd : ∀ H', Same H1 H' → H' D = some (SetTx w D (setFold xs)) → Qd H') :
    ∃ W : Nat → Nat → Hp → Prop, (∃ m, W 0 m (upd H1 D (SetTx w D []))) ∧ ∀ i m H, W i m H →
      (J.stop i H ∧ Qd H) ∨ (J.go i H ∧ ∃ On : Hp → Prop, (∀ H', On H' → ∃ m', m' < m ∧ W (i + 1) m' H') ∧ ∀ x H', J.yld i H x H' → g x (wipe σ vs) H' fun σ2 H2 => wipe σ2 vs = wipe σ vs ∧ tt σ2 H2 fun b H3 =>
        if b = true then te σ2 H3 fun y H4 => ∃ ys k, y = .str k ∧ H4 D = some (SetTx w D ys) ∧ ys.length + 1 < scanBound ∧ On (upd H4 D (SetTx w D (ins ys k))) else On H3) := by
  refine dc_it wk (nx := fun i H' => Same H1 H' ∧ H' D = some (SetTx w D (setFold (xs.take i)))) (body := fun i x H' On => g x (wipe σ vs) H' fun σ2 H2 => wipe σ2 vs = wipe σ vs ∧ tt σ2 H2 fun b H3 =>
        if b = true then te σ2 H3 fun y H4 => ∃ ys k, y = .str k ∧ H4 D = some (SetTx w D ys) ∧ ys.length + 1 < scanBound ∧ On (upd H4 D (SetTx w D (ins ys k))) else On H3)
    ⟨same_new hD, upd_same⟩ (fun i H _ h => hG H h.1) (fun i x H H' hi h hy => ?_) (fun H h => hd H h.1 (by rw [h.2, List.take_length]))
  have ei : xs[i]? = some xs[i] := List.getElem?_eq_getElem hi
  have sy := hY _ _ _ _ hy
  refine turn i xs[i] x H H' (fun y H5 => ∃ ys k, y = .str k ∧ H5 D = some (SetTx w D ys) ∧ ys.length + 1 < scanBound ∧ _) _ ei h.1 hy fun H4 s4 => ⟨_, _, rfl, s4 _ _ (sy _ _ h.2), ?_, fun b o z => ?_, ?_⟩
  · have := setFold_len i (xs.take i) (by rw [List.length_take]; omega)
    unfold scanBound
    omega
  · rw [upd_ne (ne_of_none z hD)]
    exact s4 _ _ (sy _ _ (h.1 b o z))
  · rw [upd_same, List.take_add_one, ei]
    show some (SetTx w D _) = some (SetTx w D (setFold (xs.take i ++ [xs[i]])))
    rw [setFold_snoc]
end
end L2
namespace PySem.SeqAt
open AutoSeq1 (wpAny_loadPart')
open MeetsSeq
theorem str_declines_dict (x : Str) (u : Tok) (a : Addr) (es : Array DictEntry) (n : Nat) (dd : Option Addr) (sl : Array (Option Value)) :
    Meets (Builtin.«str.__eq__» ⟨[.str x u, .ref a], []⟩) (fun _ R s => s.heap.get? a = some { cls := .type "dict", dict := dd, data := .dict es n, slots := sl } ∧ R (.ok (.ret .notImplemented)) s) :=
  .of_wp fun prog w A R s h => by
    obtain ⟨hp, g, d, tk, os⟩ := s
    obtain ⟨ha, h⟩ := h
    wp_walk using wpAny_loadPart' ha, wpAny_load ha
    exact ⟨_, rfl, h⟩
theorem dict_declines_str (x : Str) (u : Tok) (a : Addr) (es : Array DictEntry) (n : Nat) (dd : Option Addr) (sl : Array (Option Value)) :
    Meets (Builtin.«dict.__eq__» ⟨[.ref a, .str x u], []⟩) (fun _ R s => s.heap.get? a = some { cls := .type "dict", dict := dd, data := .dict es n, slots := sl } ∧ R (.ok (.ret .notImplemented)) s) :=
  .of_wp fun prog w A R s h => by
    obtain ⟨hp, g, d, tk, os⟩ := s
    obtain ⟨ha, h⟩ := h
    have f1 := F.sub_str_dict
    wp_walk using wpAny_loadPart' ha, wpAny_load ha
    exact ⟨_, rfl, h⟩
section
variable {A : Around} {s : Shared} {a : Addr} {o : Obj} {es : Array DictEntry} {n : Nat}
theorem rc_str_dict (x : Str) (u : Tok) (ho : s.heap.get? a = some o) (hc : o.cls = .type "dict") (hd : o.data = .dict es n) (hu : A.units < cLine) : RcAt A s (.str x u) (.ref a) false := fun prog w E Q h => by
  obtain ⟨cls, dd, data, sl⟩ := o
  dsimp only at hc hd
  subst hc hd
  refine rc_eq_decline_or (k := false) (typeIs_str s x u) ⟨_, ho, rfl⟩ (by decide) F.sub_dict_str F.slot_str_eq F.slot_dict_eq_refl (fun _ hq => ?_) (fun _ hq => ?_) (fun _ hq => wpAny_of_eq (rfl : isSame (.str x u) (.ref a) = pure false) hq) (.inr hu) h
  · exact call_meets F.slot_str_eq (typeIs_str s x u) F.entry_str_eq (F.args_str_eq_2 _ _) (str_declines_dict x u a es n dd sl) ⟨ho, hq⟩
  · exact call_meets F.slot_dict_eq_refl ⟨_, ho, rfl⟩ F.entry_dict_eq (F.args_dict_eq_2 _ _) (dict_declines_str x u a es n dd sl) ⟨ho, hq⟩
theorem rc_dict_str (x : Str) (u : Tok) (ho : s.heap.get? a = some o) (hc : o.cls = .type "dict") (hd : o.data = .dict es n) (hu : A.units < cLine) : RcAt A s (.ref a) (.str x u) false := fun prog w E Q h => by
  obtain ⟨cls, dd, data, sl⟩ := o
  dsimp only at hc hd
  subst hc hd
  refine rc_eq_decline_or (k := false) ⟨_, ho, rfl⟩ (typeIs_str s x u) (by decide) F.sub_str_dict F.slot_dict_eq F.slot_str_eq_refl (fun _ hq => ?_) (fun _ hq => ?_) (fun _ hq => wpAny_of_eq (rfl : isSame (.ref a) (.str x u) = pure false) hq) (.inr hu) h
  · exact call_meets F.slot_dict_eq ⟨_, ho, rfl⟩ F.entry_dict_eq (F.args_dict_eq_2 _ _) (dict_declines_str x u a es n dd sl) ⟨ho, hq⟩
  · exact call_meets F.slot_str_eq_refl (typeIs_str s x u) F.entry_str_eq (F.args_str_eq_2 _ _) (str_declines_dict x u a es n dd sl) ⟨ho, hq⟩
theorem eq_str_dict (x : Str) (u : Tok) (ho : s.heap.get? a = some o) (hc : o.cls = .type "dict") (hd : o.data = .dict es n) (hu : A.units < cLine) : EqAt A s (.str x u) (.ref a) false := fun prog w E Q h => by
  unfold eqBool
  refine wpAny_holding (wpAny_ite_split (fun z => absurd (eq_of_beq z) nofun) fun _ => ?_)
  exact wpAny_bind (rc_str_dict x u ho hc hd hu prog w E _ (wpAny_truthy_bool h))
end
end PySem.SeqAt
namespace L2
open PySem PySem.Spec PyProof.Rows PySem.GX
/-- the data is this text -/
def isTx (z : Str) : PyData → Bool
  | .str y => decide (y = z)
  | _ => false
section
variable {X : Cx} {pins : List (Addr × Obj)} {σ : St} {H : Hp} {s : Shared}
/-- a text beside any thing -/
theorem sh_eqAt (I : Inv X pins σ H s) {x : V} {d : PyData} {v : Value} (h : Sh X.K H x d) (r : RelV x v) {A : Around} (hu : A.units < cLine) (z : Str) (t : Tok) : SeqAt.EqAt A s (.str z t) v (isTx z d) := by
  cases h with
  | fl f =>
    cases f with
    | non => cases r; exact SeqAt.EqAt.str_none z t
    | bl b => cases r; exact SeqAt.EqAt.str_bool z t b
    | int i => obtain ⟨u, rfl⟩ := r; exact SeqAt.EqAt.str_int z t i u
    | str y =>
      obtain ⟨u, rfl⟩ := r
      have e : isTx z (.str y) = (z == y) := by
        show decide (y = z) = _
        by_cases q : y = z
        · subst q; simp
        · rw [decide_eq_false q]
          exact (beq_eq_false_iff_ne.mpr (Ne.symm q)).symm
      rw [e]
      exact SeqAt.EqAt.str_str z t y u
  | lst hq _ =>
    cases r
    obtain ⟨its, rv, ⟨o, n, ho, hc, _, hd⟩, _⟩ := I.list hq
    exact SeqAt.EqAt.str_list z t ⟨o, ho, hc, n, hd⟩ hu
  | tup hq _ =>
    cases r
    obtain ⟨its, rv, ⟨o, ho, hc, n, hd⟩, _⟩ := I.tuple hq
    exact SeqAt.EqAt.str_tuple z t ⟨o, ho, hc, n, hd⟩ hu
  | dic hq _ _ =>
    cases r
    obtain ⟨_, hsys, vs, rkv, o, es, ep, ho, ⟨hc, _⟩, hd, _⟩ := I.hok _ _ hq
    exact SeqAt.eq_str_dict z t ho hc hd hu
theorem sh_rcAt (I : Inv X pins σ H s) {x : V} {d : PyData} {v : Value} (h : Sh X.K H x d) (r : RelV x v) {A : Around} (hu : A.units < cLine) (z : Str) (t : Tok) : SeqAt.RcAt A s v (.str z t) (isTx z d) := by
  cases h with
  | fl f =>
    cases f with
    | non => cases r; exact SeqAt.RcAt.none_str z t
    | bl b => cases r; exact SeqAt.RcAt.bool_str b z t
    | int i => obtain ⟨u, rfl⟩ := r; exact SeqAt.RcAt.int_str i u z t
    | str y =>
      obtain ⟨u, rfl⟩ := r
      have e : isTx z (.str y) = (y == z) := by
        show decide (y = z) = _
        by_cases q : y = z
        · subst q; simp
        · rw [decide_eq_false q]
          exact (beq_eq_false_iff_ne.mpr q).symm
      rw [e]
      exact SeqAt.RcAt.str_str y u z t
  | lst hq _ =>
    cases r
    obtain ⟨its, rv, ⟨o, n, ho, hc, _, hd⟩, _⟩ := I.list hq
    exact SeqAt.RcAt.list_str z t ⟨o, ho, hc, n, hd⟩ hu
  | tup hq _ =>
    cases r
    obtain ⟨its, rv, ⟨o, ho, hc, n, hd⟩, _⟩ := I.tuple hq
    exact SeqAt.RcAt.tuple_str z t ⟨o, ho, hc, n, hd⟩ hu
  | dic hq _ _ =>
    cases r
    obtain ⟨_, hsys, vs, rkv, o, es, ep, ho, ⟨hc, _⟩, hd, _⟩ := I.hok _ _ hq
    exact SeqAt.rc_dict_str z t ho hc hd hu
end
/-- x not in a list of texts, x anything -/
def rNotInTx (K : PySem.W.Frag) : R2 := fun x y H Q => ∃ (d : PyData) (p : Addr) (ws : List Str), Sh K H x d ∧ y = .ref p ∧ SqL K H p (ws.map V.str) ∧ Q (.bl (!ws.any fun z => isTx z d)) H
theorem op_notInTx {X : Cx} (hu : X.A.units + 1 < cLine) : OpR X (compareOp .NotIn) (rNotInTx X.K) := by
  intro pins s σ H x y v u Q I rx ry ⟨d, p, ws, hd, ey, hp, q⟩
  subst ey
  cases ry
  obtain ⟨its, rv, ⟨o, n, ho, hc, hnn, hdd⟩, hlen⟩ := I.list hp
  have at_ : ∀ y, y ∈ its.toArray → ∃ z t, y = Value.str z t ∧ z ∈ ws := by
    intro y hy
    have hy' : y ∈ its := by simpa using hy
    clear hdd ho hc hp hy q hlen hnn
    generalize hvs : ws.map V.str = vs at rv
    induction rv generalizing ws with
    | nil => cases hy'
    | cons r _ ih =>
      match ws, hvs with
      | w1 :: wt, hvs =>
        injection hvs with e1 e2
        subst e1
        rcases List.mem_cons.mp hy' with m | m
        · obtain ⟨t, e⟩ := r
          exact ⟨w1, t, by rw [m, e], List.mem_cons_self ..⟩
        · obtain ⟨z, t, a1, a2⟩ := ih wt m e2
          exact ⟨z, t, a1, List.mem_cons_of_mem _ a2⟩
  have any_ : (its.toArray.any fun y => match y with | .str z _ => isTx z d | _ => false) = ws.any fun z => isTx z d := by
    rw [List.any_toArray]
    clear at_ hdd ho hc hp q hlen hnn
    generalize hvs : ws.map V.str = vs at rv
    induction rv generalizing ws with
    | nil =>
      match ws, hvs with
      | [], _ => rfl
    | cons r _ ih =>
      match ws, hvs with
      | w1 :: wt, hvs =>
        injection hvs with e1 e2
        subst e1
        obtain ⟨t, e⟩ := r
        subst e
        rw [List.any_cons, List.any_cons, ih wt e2]
  refine SeqAt.notIn_listAt (fun y => match y with | .str z _ => isTx z d | _ => false) ⟨o, ho, hc, n, hdd⟩ (fun y hy => ?_) ?_
  · obtain ⟨z, t, rfl, _⟩ := at_ y hy
    exact sh_eqAt I hd rx (by show X.A.units + 1 < cLine; exact hu) z t
  · rw [any_]
    exact ⟨.bl _, H, I, rfl, q⟩
/-- x == text, x anything -/
def rEqTx (K : PySem.W.Frag) : R2 := fun x y H Q => ∃ (d : PyData) (z : Str), Sh K H x d ∧ y = .str z ∧ Q (.bl (isTx z d)) H
theorem op_eqTx {X : Cx} (hu : X.A.units < cLine) : OpR X (compareOp .Eq) (rEqTx X.K) := by
  intro pins s σ H x y v u Q I rx ry ⟨d, z, hd, ey, q⟩
  subst ey
  obtain ⟨t, rfl⟩ := ry
  exact sh_rcAt I hd rx hu z t _ _ _ _ ⟨.bl _, H, I, rfl, q⟩
/-- repr(x), x a tuple -/
def rReprT (K : PySem.W.Frag) : List V → Hp → VK → Prop := fun xs H Q => ∃ (a : Addr) (ds : List PyData), xs = [.ref a] ∧ Sh K H (.ref a) (.tuple ds) ∧ PyData.showableAll ds = true ∧ (PyData.tuple ds).shown.length ≤ sizeLine ∧ (PyData.tuple ds).depth ≤ 60 ∧
  Q (.str (PyData.tuple ds).shown) H
theorem call_reprT {X : Cx} {K : PySem.W.Frag} (eK : X.K = K) (hg : X.A.guards = some []) (hu : X.A.units + 64 < cLine) : CallR X (.builtin "repr") (rReprT K) := by
  subst eK
  intro pins s σ H xs us Q I r h
  obtain ⟨a, ds, rfl, hsh, hs, hz, hdp, q⟩ := h
  cases r with
  | cons r1 r2 =>
    cases r2
    cases r1
    cases hsh with
    | fl f => cases f
    | @tup _ xs _ hq ha =>
      obtain ⟨its, rv, ⟨o, ho, hc, n, hd⟩, _⟩ := I.tuple hq
      have hz' : (tupleText (PyData.shownAll ds)).length ≤ sizeLine := by simpa only [PyData.shown] using hz
      obtain ⟨⟨as, hr⟩, bs, hb, hk⟩ := Sh.bothAll I ds xs its ha rv hs (fun t ht => Nat.le_trans (tupleText_mem_le ht) hz')
      have rr : Reads s.heap (.ref a) (.tuple ds) _ := Reads.tuple ho hc hd hr
      have hna : a ∉ bs := not_mem_of_deeper rr (by simp only [PyData.depth]; omega) hb
      simp only [PyData.depth] at hdp
      simp only [PyData.shown] at q
      refine call_repr_slot (by omega) ⟨o, ho, hc⟩ F.slot_tuple_repr ?_
      exact call_tuple_reprK ho hc hd hna hk hg (fun b _ => Clear.nil b) (by show X.A.units + 1 + _ < cLine; omega) (fun _ _ e => e) (fun h' u tk k => ⟨_, _, rfl, .str (tupleText (PyData.shownAll ds)), H, I.kept k, ⟨u, rfl⟩, q⟩) hz'
/-- what is compared can be shown -/
theorem Dp.sh {K : PySem.W.Frag} {H : Hp} : ∀ {d : PyData} {v : V}, Dp K H v d → Sh K H v d := by
  intro d v h
  exact Dp.rec (motive_1 := fun v d _ => Sh K H v d) (motive_2 := fun vs ds _ => ShAll K H vs ds) (.fl .non) (fun b => .fl (.bl b)) (fun i => .fl (.int i)) (fun x => .fl (.str x)) (fun h _ i => .lst h i) (fun h _ i => .tup h i) .nil (fun _ _ i j => .cons i j) h
end L2
namespace My
open PySem PySem.Spec PyProof.Rows L2 PySem.GX L2H LamX
abbrev kinds : List Str := ["last", "ends", "windows", "sets"]
def isK (d : PyData) : Bool := kinds.any fun z => isTx z d
/-- an integer in bounds -/
def inb (d : PyData) (lo hi : Int) : Bool := match d with
  | .int i => decide (lo ≤ i) && decide (i ≤ hi)
  | _ => false
def leastN (k : Str) : Int := if k = "last" then 0 else 1
def isI : PyData → Bool
  | .int _ => true
  | .bool _ => true
  | _ => false
def isB : PyData → Bool
  | .bool _ => true
  | _ => false
def isS : PyData → Bool
  | .str _ => true
  | _ => false
theorem sh_kit {K : PySem.W.Frag} {H : Hp} {v : V} {d : PyData} (h : Sh K H v d) : ∃ ty, TyX K H v ty ∧ PySem.W.kitOne K ty (.type "int") = some (isI d) ∧ PySem.W.kitOne K ty (.type "bool") = some (isB d) ∧ PySem.W.kitOne K ty (.type "str") = some (isS d) := by
  cases h with
  | fl f =>
    cases f with
    | non => exact ⟨_, .base .non, kit_ty (show _ = some false by decide +kernel), kit_ty (show _ = some false by decide +kernel), kit_ty (show _ = some false by decide +kernel)⟩
    | bl b => exact ⟨_, .base (.bl b), kit_ty (show _ = some true by decide +kernel), kit_ty (show _ = some true by decide +kernel), kit_ty (show _ = some false by decide +kernel)⟩
    | int i => exact ⟨_, .base (.int i), kit_ty (show _ = some true by decide +kernel), kit_ty (show _ = some false by decide +kernel), kit_ty (show _ = some false by decide +kernel)⟩
    | str x => exact ⟨_, .base (.str x), kit_ty (show _ = some false by decide +kernel), kit_ty (show _ = some false by decide +kernel), kit_ty (show _ = some true by decide +kernel)⟩
  | lst h t =>
    rcases h with (h | ⟨o, h⟩) | ⟨o, its, n, hk, hc, _⟩
    · exact ⟨_, .base (.lst h), kit_ty (show _ = some false by decide +kernel), kit_ty (show _ = some false by decide +kernel), kit_ty (show _ = some false by decide +kernel)⟩
    · exact ⟨_, .base (.frz h), kit_ty (show _ = some false by decide +kernel), kit_ty (show _ = some false by decide +kernel), kit_ty (show _ = some false by decide +kernel)⟩
    · exact ⟨_, .kList hk hc, kit_ty (show _ = some false by decide +kernel), kit_ty (show _ = some false by decide +kernel), kit_ty (show _ = some false by decide +kernel)⟩
  | tup h t =>
    rcases h with (h | ⟨o, h⟩) | ⟨o, its, n, hk, hc, _⟩
    · exact ⟨_, .base (.tup h), kit_ty (show _ = some false by decide +kernel), kit_ty (show _ = some false by decide +kernel), kit_ty (show _ = some false by decide +kernel)⟩
    · exact ⟨_, .fTuple h, kit_ty (show _ = some false by decide +kernel), kit_ty (show _ = some false by decide +kernel), kit_ty (show _ = some false by decide +kernel)⟩
    · exact ⟨_, .kTuple hk hc, kit_ty (show _ = some false by decide +kernel), kit_ty (show _ = some false by decide +kernel), kit_ty (show _ = some false by decide +kernel)⟩
  | dic h a b => exact ⟨_, .base (.dK h), kit_ty (show _ = some false by decide +kernel), kit_ty (show _ = some false by decide +kernel), kit_ty (show _ = some false by decide +kernel)⟩
theorem sh_int {K : PySem.W.Frag} {H : Hp} {v : V} {i : Int} (h : Sh K H v (.int i)) : v = .int i := by
  cases h with
  | fl f => cases f; rfl
theorem sh_str {K : PySem.W.Frag} {H : Hp} {v : V} {x : Str} (h : Sh K H v (.str x)) : v = .str x := by
  cases h with
  | fl f => cases f; rfl
/-- the promise where nothing is raised -/
theorem FnOk.calm_ {P : Program} {w : World} {K : PySem.W.Frag} {mg : Str → Option Value} {base : Heap} {k : Nat} {f : Addr} {fd : FuncData} {ps : List Str} {sp sp0 : Sp} (F : FnOk P w K mg base (L2N.CX P w) k f fd ps sp) (m : ∀ vs H Q E, sp0 vs H Q E → sp vs H Q E0) : FnOk P w K mg base CX0 k f fd ps sp0 :=
  ⟨fun vs H Q E h => F.len vs H Q E0 (m _ _ _ _ h), fun A outer s H args us vs Q E hr e0 hb r h => codeAny_mono (F.run A outer s H args us vs Q E0 hr e0 hb r (m _ _ _ _ h)) fun r s' hq => by
    cases r with
    | error e =>
      obtain ⟨a, B, H', cls, d, _, _, _, _, _, _, _, hE⟩ := hq
      exact hE.elim
    | ok fl => cases fl <;> exact hq⟩
/-- raises C with v as what is given -/
def Rz (C : Addr) (v : V) (H : Hp) (E : XK) : Prop := ∀ da H', Same H H' → H' da = some (exd da [("given", v)]) → E (.ref C) (some da) H'
theorem Rz.same {C : Addr} {v : V} {H H1 : Hp} {E : XK} (h : Rz C v H E) (s : Same H H1) : Rz C v H1 E := fun da H' s' e => h da H' (s.trans s') e
/-- what is known of a class that is raised -/
structure RzC (P : Program) (w : World) (K : PySem.W.Frag) (mg : Str → Option Value) (base : Heap) (x : Str) (C : Addr) : Prop where
  mk1 : Mk1 P w K mg base x C "given"
  b1 : PySem.W.subIn K (.ref C) (.type "BaseException") = some true
  b2 : PySem.W.typeIn K (.ref C) = some (.type "type")
theorem PE_imp {X : Cx} {e : Expr} {t t' : TE} (h : PE X e t) (m : ∀ σ H Q, t' σ H Q → t σ H Q) : PE X e t' := ⟨fun pins s σ H Q I q => h.run pins s σ H Q I (m σ H Q q)⟩
def isKs (ws : List Str) (d : PyData) : Bool := ws.any fun z => isTx z d
theorem isK_is (d : PyData) : isK d = isKs kinds d := rfl
/-- the def x is there, and keeps the promise; it may raise -/
structure HvX (P : Program) (w : World) (K : PySem.W.Frag) (mg : Str → Option Value) (base : Heap) (k : Nat) (x : Str) (ps : List Str) (sp : Sp) : Prop where
  ex : ∃ (f : Addr) (fd : FuncData), FnOk P w K mg base (L2N.CX P w) k f fd ps sp ∧ Binds K fd ps [] ∧ mg x = some (.ref f) ∧ PySem.W.keepIn K (.ref f) = true
theorem pe_clX {X : Cx} {k : Nat} {x : Str} {ps : List Str} {sp : Sp} {p pos : Pos} {e : Expr} {es : List Expr} {t : TA} {E : XK} (h : HvX X.prog X.w X.K X.mg X.base k x ps sp) (hr : Room k X.A) (hg : Gl X x) (hx : Passes (L2N.CX X.prog X.w) X E) (ha : PA X (e :: es) t)
    (hdb : (x == ("__debug__" : Str)) = false := by decide) (he : starEach (e :: es) X.env = (false, eval e X.env) :: starEach es X.env := by rfl) (hpl : (backTo pos (starEach es X.env)).any (·.1) = false := by rfl) :
    PE X (.Call (.Name x p) (e :: es) [] pos) (tCall sp [] E t) := by
  obtain ⟨f, fd, F, b, g, kp⟩ := h.ex
  exact pe_call F hr hg g kp b .nil hx ha hdb he hpl
/-- the same, called without its last parameters, whose values are dvs -/
structure HvD (P : Program) (w : World) (K : PySem.W.Frag) (mg : Str → Option Value) (base : Heap) (k : Nat) (x : Str) (ps : List Str) (dvs : List V) (sp : Sp) : Prop where
  ex : ∃ (f : Addr) (fd : FuncData) (ds : List Value), FnOk P w K mg base (L2N.CX P w) k f fd ps sp ∧ Vals dvs ds ∧ Binds K fd ps ds ∧ mg x = some (.ref f) ∧ PySem.W.keepIn K (.ref f) = true
theorem pe_clD {X : Cx} {k : Nat} {x : Str} {ps : List Str} {dvs : List V} {sp : Sp} {p pos : Pos} {e : Expr} {es : List Expr} {t : TA} {E : XK} (h : HvD X.prog X.w X.K X.mg X.base k x ps dvs sp) (hr : Room k X.A) (hg : Gl X x) (hx : Passes (L2N.CX X.prog X.w) X E) (ha : PA X (e :: es) t)
    (hdb : (x == ("__debug__" : Str)) = false := by decide) (he : starEach (e :: es) X.env = (false, eval e X.env) :: starEach es X.env := by rfl) (hpl : (backTo pos (starEach es X.env)).any (·.1) = false := by rfl) :
    PE X (.Call (.Name x p) (e :: es) [] pos) (tCall sp dvs E t) := by
  obtain ⟨f, fd, ds, F, v, b, g, kp⟩ := h.ex
  exact pe_call F hr hg g kp b v hx ha hdb he hpl
def spIsK (K : PySem.W.Frag) : Sp := fun vs H Q _ => ∃ (v : V) (d : PyData) (t : Addr) (ws : List Str), vs = [v, .ref t] ∧ Sh K H v d ∧ SqT K H t (ws.map V.str) ∧ Q (.bl (isKs ws d)) H
def spCKs (K : PySem.W.Frag) (C2 : Addr) : Sp := fun vs H Q E => ∃ (v : V) (d : PyData) (t : Addr) (ws : List Str), vs = [v, .ref t] ∧ Sh K H v d ∧ SqT K H t (ws.map V.str) ∧ (isKs ws d = true → Q .non H) ∧ (isKs ws d = false → Rz C2 v H E)
theorem isKs_str (ws : List Str) (x : Str) : inV (.str x) (ws.map V.str) = isKs ws (.str x) := by
  rw [in_strs]
  unfold isKs
  rw [Bool.eq_iff_iff, decide_eq_true_eq, List.any_eq_true]
  exact ⟨fun h => ⟨x, h, decide_eq_true rfl⟩, fun ⟨z, h1, h2⟩ => by rw [show x = z from of_decide_eq_true h2]; exact h1⟩
theorem isKs_no {ws : List Str} {d : PyData} (h : ¬ isS d = true) : isKs ws d = false := by
  have : ∀ z, isTx z d = false := fun z => by
    match d, h with
    | .str _, h => exact absurd rfl h
    | .int i, _ => rfl
    | .bool b, _ => rfl
    | .none, _ => rfl
    | .list _, _ => rfl
    | .tuple _, _ => rfl
    | .dict _, _ => rfl
  unfold isKs
  rw [Bool.eq_false_iff]
  intro z
  obtain ⟨y, _, e⟩ := List.any_eq_true.mp z
  rw [this y] at e
  cases e
end My
namespace My
open PySem PySem.Spec PyProof.Rows L2 PySem.GX L2H LamX
/-- a list beside an empty one -/
def rEqNil (K : PySem.W.Frag) (neg : Bool) : R2 := fun x y H Q => ∃ (a b : Addr) (xs : List V), x = .ref a ∧ y = .ref b ∧ SqL K H a xs ∧ SqL K H b [] ∧ Q (.bl (if neg then !xs.isEmpty else xs.isEmpty)) H
theorem op_eqNil {X : Cx} (hu : X.A.units < cLine) : OpR X (compareOp .Eq) (rEqNil X.K false) := by
  intro pins s σ H x y v u Q I rx ry ⟨a, b, xs, ex, ey, ha, hb, q⟩
  subst ex ey
  cases rx
  cases ry
  obtain ⟨its, rv, ⟨o, n, ho, hc, _, hd⟩, _⟩ := I.list ha
  obtain ⟨its2, rv2, ⟨o2, n2, ho2, hc2, _, hd2⟩, _⟩ := I.list hb
  cases rv2
  cases rv with
  | nil => exact SeqAt.RcAt.lists (e := fun _ => true) ⟨o, ho, hc, n, hd⟩ ⟨o2, ho2, hc2, n2, hd2⟩ rfl hu (fun j h1 _ => absurd h1 (Nat.not_lt_zero j)) _ _ _ _ ⟨.bl _, H, I, rfl, q⟩
  | cons r1 r2 => exact SeqAt.RcAt.lists_lengths ⟨o, ho, hc, n, hd⟩ ⟨o2, ho2, hc2, n2, hd2⟩ (by simp) hu _ _ _ _ ⟨.bl _, H, I, rfl, q⟩
theorem op_neNil {X : Cx} (hu : X.A.units < cLine) : OpR X (compareOp .NotEq) (rEqNil X.K true) := by
  intro pins s σ H x y v u Q I rx ry ⟨a, b, xs, ex, ey, ha, hb, q⟩
  subst ex ey
  cases rx
  cases ry
  obtain ⟨its, rv, ⟨o, n, ho, hc, _, hd⟩, _⟩ := I.list ha
  obtain ⟨its2, rv2, ⟨o2, n2, ho2, hc2, _, hd2⟩, _⟩ := I.list hb
  cases rv2
  cases rv with
  | nil => exact SeqAt.RcNeAt.lists (e := fun _ => true) ⟨o, ho, hc, n, hd⟩ ⟨o2, ho2, hc2, n2, hd2⟩ rfl hu (fun j h1 _ => absurd h1 (Nat.not_lt_zero j)) _ _ _ _ ⟨.bl _, H, I, rfl, q⟩
  | cons r1 r2 => exact SeqAt.RcNeAt.lists_lengths ⟨o, ho, hc, n, hd⟩ ⟨o2, ho2, hc2, n2, hd2⟩ (by simp) hu _ _ _ _ ⟨.bl _, H, I, rfl, q⟩
/-- f(k = e, ..), keywords alone -/
def tCallKw (sp : Sp) (gV : List V → List V → List V) (n : Nat) (E : XK) (tk : TA) : TE := fun σ H Q => tk σ H fun zs H2 => zs.length = n ∧ sp (gV [] zs) H2 Q E
theorem pe_callKw {X : Cx} {CX : CXT} {k : Nat} {f : Addr} {fd : FuncData} {x : Str} {ps ks : List Str} {sp : Sp} {p pos : Pos} {kws : List Keyword} {tk : TA} {E : XK} {g : List Value → List Value → List Value} {gV : List V → List V → List V}
    (F : FnOk X.prog X.w X.K X.mg X.base CX k f fd ps sp) (hr : Room k X.A) (hg : Gl X x) (hm : X.mg x = some (.ref f)) (hk : PySem.W.keepIn X.K (.ref f) = true) (hb : KBn X.K fd ps 0 ks g gV) (hx : Passes CX X E) (hkw : PK X kws tk)
    (hdb : (x == ("__debug__" : Str)) = false := by decide) (hall : (backToKw pos (keywordEach kws X.env)).all (·.1.isSome) = true := by rfl) (hks : (backToKw pos (keywordEach kws X.env)).filterMap (·.1) = ks := by rfl)
    (hpl : ((backTo pos (starEach [] X.env)).any (·.1) || (backToKw pos (keywordEach kws X.env)).any (·.1.isNone)) = false := by rfl) :
    PE X (.Call (.Name x p) [] kws pos) (tCallKw sp gV ks.length E tk) := by
  refine ⟨fun pins s σ H Q I want => wpAny_Call_Name_kw (ld_glob I hg hm ?_ hdb)⟩
  refine PySem.W.callWith_KW0 (first := []) (h₀ := X.base) I.ok.mod.kin hk hall (thn (hkw.run pos pins s σ H _ I want) fun ws s2 ⟨zs, H2, I2, rz, lz, q2⟩ => ⟨I2.kIn, ?_⟩) hpl
  rw [hks]
  exact run_fnN (us := []) (vs := []) (n := 0) (ks := ks) F hr hb hx I2 .nil rz rfl lz q2
theorem if_false_of {c : Bool} {A B : Prop} (hc : c = false) (h : B) : if c = true then A else B := by
  rw [hc, if_neg Bool.false_ne_true]
  exact h
theorem PT_imp {X : Cx} {e : Expr} {t t' : L2.St → Hp → (Bool → Hp → Prop) → Prop} (h : PT X e t) (m : ∀ σ H Q, t' σ H Q → t σ H Q) : PT X e t' := ⟨fun pins s σ H Q I q => h.run pins s σ H Q I (m σ H Q q)⟩
theorem Dp.ext {K : PySem.W.Frag} {H H' : Hp} (s : Same H H') {v : V} {d : PyData} (h : Dp K H v d) : Dp K H' v d := by
  have sl : ∀ {a : Addr} {xs : List V}, SqL K H a xs → SqL K H' a xs := fun h => by
    rcases h with (h | ⟨o, h⟩) | h
    · exact .inl (.inl (s _ _ h))
    · exact .inl (.inr ⟨o, s _ _ h⟩)
    · exact .inr h
  have st : ∀ {a : Addr} {xs : List V}, SqT K H a xs → SqT K H' a xs := fun h => by
    rcases h with (h | ⟨o, h⟩) | h
    · exact .inl (.inl (s _ _ h))
    · exact .inl (.inr ⟨o, s _ _ h⟩)
    · exact .inr h
  exact Dp.rec (motive_1 := fun v d _ => Dp K H' v d) (motive_2 := fun vs ds _ => DpAll K H' vs ds) .non .bl .int .str (fun h _ i => .lst (sl h) i) (fun h _ i => .tup (st h) i) .nil (fun _ _ i j => .cons i j) h
theorem pick_strs {ws : List Str} {j : Nat} {y : V} (h : (ws.map V.str)[j]? = some y) : ∃ z ∈ ws, y = .str z := by
  rw [List.getElem?_map] at h
  cases e : ws[j]? with
  | none => rw [e] at h; cases h
  | some z => rw [e] at h; cases h; exact ⟨z, List.mem_of_getElem? e, rfl⟩
theorem op_notInTxK {X : Cx} {K : PySem.W.Frag} (h : X.K = K) (hu : X.A.units + 1 < cLine) : OpR X (compareOp .NotIn) (rNotInTx K) := by subst h; exact op_notInTx hu
theorem others_nil {x z : Str} : (z.cps.toList.filter fun c => !decide (c ∈ x.cps.toList)) = [] ↔ ∀ c ∈ z.cps.toList, c ∈ x.cps.toList := by
  rw [List.filter_eq_nil_iff]
  exact ⟨fun h c hc => by simpa using h c hc, fun h c hc => by simpa using h c hc⟩
theorem fm_sg (p : Nat → Bool) : ∀ cs : List Nat, (cs.filterMap fun c => if p c = true then some (V.str (sg c)) else none) = ((cs.filter p).map sg).map V.str
  | [] => rfl
  | c :: t => by
    by_cases h : p c = true
    · rw [List.filterMap_cons, if_pos h, List.filter_cons_of_pos h, fm_sg p t]
      rfl
    · rw [List.filterMap_cons, if_neg h, List.filter_cons_of_neg h, fm_sg p t]
theorem PS_imp {X : Cx} {st : Stmt} {t t' : TS} (h : PS X st t) (m : ∀ D σ H, t' D σ H → t D σ H) : PS X st t' := ⟨fun pins s σ H D I q => h.run pins s σ H D I (m D σ H q)⟩
end My
namespace My
open PySem PySem.Spec PyProof.Rows L2
abbrev menuX : List (List Str) := [["a", "b", "z"], ["ab", "by", "az"], ["abc", "bxz", "cde"]]
/-- the goals of these pairs are told, and are words of ws -/
def Cv (kvs : List (List Key × V)) (ws : List Str) (done : List (Str × Nat)) : Prop := kvs.length ≤ done.length ∧ ∀ d ∈ done, ∃ y ∈ ws, valV kvs (kT d.1 d.2) = some (.str y)
theorem Cv.put {kvs : List (List Key × V)} {ws : List Str} {done : List (Str × Nat)} (h : Cv kvs ws done) {t y : Str} {c : Nat} (hy : y ∈ ws) : Cv (putK kvs (kT t c) (.str y)) ws (done ++ [(t, c)]) := by
  refine ⟨?_, fun d hd => ?_⟩
  · have := length_putK kvs (kT t c) (V.str y)
    have := h.1
    rw [List.length_append]
    simp
    omega
  · rw [valV_put]
    by_cases e : kT d.1 d.2 = kT t c
    · rw [if_pos e]
      exact ⟨y, hy, rfl⟩
    · rw [if_neg e]
      rcases List.mem_append.mp hd with m | m
      · exact h.2 d m
      · simp at m
        subst m
        exact absurd rfl e
def doneL (ws : List Str) (x : Str) : List (Str × Nat) := ws.flatMap fun t => x.cps.toList.map fun c => (t, c)
theorem done_take {x : Str} {ws : List Str} {i : Nat} {m : Str} (h : ws[i]? = some m) : doneL (ws.take (i + 1)) x = doneL (ws.take i) x ++ x.cps.toList.map fun c => (m, c) := by
  unfold doneL
  rw [List.take_add_one, h, List.flatMap_append]
  simp
theorem done_len (ws : List Str) (x : Str) : (doneL ws x).length = ws.length * x.length := by
  unfold doneL
  induction ws with
  | nil => simp
  | cons m t ih =>
    rw [List.flatMap_cons, List.length_append, ih, List.length_map, Array.length_toList, List.length_cons, Nat.succ_mul]
    show x.length + _ = _
    omega
def SkAt (H : Hp) (q : Addr) (x : Str) (ws fs : List Str) (kvs : List (List Key × V)) : Prop := ∃ lw lf g, H q = some (.lst [.str x, .ref lw, .ref lf, .ref g]) ∧ H lw = some (.lst (ws.map V.str)) ∧ H lf = some (.lst (fs.map V.str)) ∧ H g = some (.dT kvs)
end My
namespace My
open PySem PySem.Spec PyProof.Rows L2
/-- the goal that the dict tells -/
def lineL (kvs : List (List Key × V)) (t : Str) (c : Nat) : Str := t ++ sp ++ sg c ++ sp ++ gf kvs t c
def headL (x : Str) (ws fs : List Str) : List Str := [("signs " : Str) ++ x, Txt.join sp (("moods" : Str) :: ws), Txt.join sp (("good" : Str) :: fs)]
def bodyL (x : Str) (ws : List Str) (kvs : List (List Key × V)) : List Str := ws.flatMap fun t => x.cps.toList.map fun c => lineL kvs t c
def linesL (x : Str) (ws fs : List Str) (kvs : List (List Key × V)) : List Str := headL x ws fs ++ bodyL x ws kvs
def textL (x : Str) (ws fs : List Str) (kvs : List (List Key × V)) : Str := Txt.join nl (linesL x ws fs kvs)
/-- all words are short -/
structure Short (x : Str) (ws fs : List Str) (kvs : List (List Key × V)) : Prop where
  hx : x.length ≤ 3
  nw : ws.length ≤ 20
  nf : fs.length ≤ 20
  lw : ∀ y ∈ ws, y.length ≤ 8
  lf : ∀ y ∈ fs, y.length ≤ 8
  gl : ∀ t ∈ ws, ∀ c ∈ x.cps.toList, ∃ y : Str, y.length ≤ 8 ∧ valV kvs (kT t c) = some (.str y)
def spText : Sp := fun vs H Q _ => ∃ (q : Addr) (x : Str) (ws fs : List Str) (kvs : List (List Key × V)), vs = [.ref q] ∧ SkAt H q x ws fs kvs ∧ Short x ws fs kvs ∧ ∀ H', Same H H' → Q (.str (textL x ws fs kvs)) H'
theorem sum_le {M : Nat} : ∀ {l : List Str}, (∀ y ∈ l, y.length ≤ M) → (l.map (·.length)).sum ≤ l.length * M
  | [], _ => Nat.zero_le _
  | y :: t, h => by
    have h1 := h y (by simp)
    have h2 := sum_le (l := t) fun z hz => h z (by simp [hz])
    rw [List.map_cons, List.sum_cons, List.length_cons, Nat.succ_mul]
    omega
theorem body_take {x : Str} {ws : List Str} {kvs : List (List Key × V)} {i : Nat} {m : Str} (h : ws[i]? = some m) : bodyL x (ws.take (i + 1)) kvs = bodyL x (ws.take i) kvs ++ x.cps.toList.map fun c => lineL kvs m c := by
  unfold bodyL
  rw [List.take_add_one, h, List.flatMap_append]
  simp
theorem body_len (x : Str) (ws : List Str) (kvs : List (List Key × V)) : (bodyL x ws kvs).length = ws.length * x.length := by
  unfold bodyL
  induction ws with
  | nil => simp
  | cons m t ih =>
    rw [List.flatMap_cons, List.length_append, ih, List.length_map, Array.length_toList, List.length_cons, Nat.succ_mul]
    show x.length + _ = _
    omega
theorem join_len (ps : List Str) : (Txt.join sp ps).length ≤ (ps.map (·.length)).sum + ps.length := by
  rw [TL.join_eq]
  cases ps with
  | nil => exact Nat.zero_le _
  | cons a l =>
    rw [len_join_cons, List.length_cons]
    have : (sp : Str).length = 1 := rfl
    rw [this]
    omega
theorem lines_short {x : Str} {ws fs : List Str} {kvs : List (List Key × V)} (h : Short x ws fs kvs) : (linesL x ws fs kvs).length ≤ 63 ∧ ∀ y ∈ linesL x ws fs kvs, y.length ≤ 200 := by
  have z := h.hx
  have z1 := h.nw
  have z2 := h.nf
  refine ⟨?_, fun y hy => ?_⟩
  · unfold linesL
    rw [List.length_append, body_len]
    have : ws.length * x.length ≤ 20 * 3 := Nat.mul_le_mul z1 z
    show 3 + _ ≤ 63
    omega
  · unfold linesL at hy
    rcases List.mem_append.mp hy with m | m
    · unfold headL at m
      simp only [List.mem_cons, List.not_mem_nil, or_false] at m
      rcases m with rfl | rfl | rfl
      · rw [len_app]
        have : ("signs " : Str).length = 6 := by decide +kernel
        omega
      · have a := join_len (("moods" : Str) :: ws)
        have b := sum_le h.lw
        have c : ("moods" : Str).length = 5 := by decide +kernel
        rw [List.map_cons, List.sum_cons, List.length_cons, c] at a
        omega
      · have a := join_len (("good" : Str) :: fs)
        have b := sum_le h.lf
        have c : ("good" : Str).length = 4 := by decide +kernel
        rw [List.map_cons, List.sum_cons, List.length_cons, c] at a
        omega
    · unfold bodyL at m
      obtain ⟨t, ht, m⟩ := List.mem_flatMap.mp m
      obtain ⟨c, hc, rfl⟩ := List.mem_map.mp m
      obtain ⟨g, lg, eg⟩ := h.gl t ht c hc
      unfold lineL
      rw [gf_is eg, len_app, len_app, len_app, len_app]
      have := h.lw t ht
      have e1 : (sp : Str).length = 1 := rfl
      have e2 : (sg c).length = 1 := rfl
      omega
end My
namespace My
open PySem PySem.Spec PyProof.Rows L2
/-- letters alone -/
def Ltr (y : Str) : Prop := ∀ c ∈ y.cps.toList, 97 ≤ c
theorem ltr_only {y : Str} (h : madeL y abc = true) : Ltr y := fun c hc => by
  unfold madeL at h
  rw [List.all_map, List.all_eq_true] at h
  have := h c hc
  have m : c ∈ abc.cps.toList := by simpa using this
  have all : ∀ d ∈ abc.cps.toList, 97 ≤ d := by decide +kernel
  exact all c m
theorem ltr_word {y : Str} (h : isWordL y = true) : Ltr y := ltr_only (Bool.and_eq_true_iff.mp h).2
theorem ltr_signs {x : Str} (h : areSignsL [x] = true) : Ltr x := by
  rw [areS1] at h
  simp only [Bool.and_eq_true] at h
  exact ltr_only h.1.2
theorem ltr_sg {x : Str} (h : Ltr x) {c : Nat} (hc : c ∈ x.cps.toList) : Ltr (sg c) := fun d hd => by
  have : d = c := by simpa using hd
  rw [this]
  exact h c hc
theorem join_from (y : Str) : ∀ (ps : List Str) (c : Nat), c ∈ (Str.join y ps).cps.toList → c ∈ y.cps.toList ∨ ∃ p ∈ ps, c ∈ p.cps.toList
  | [], _, h => by cases h
  | [x], _, h => .inr ⟨x, by simp, h⟩
  | x :: z :: r, c, h => by
    have h' : c ∈ (x ++ y ++ Str.join y (z :: r)).cps.toList := h
    rw [cps_app, cps_app] at h'
    simp only [List.mem_append] at h'
    rcases h' with (h' | h') | h'
    · exact .inr ⟨x, by simp, h'⟩
    · exact .inl h'
    · rcases join_from y (z :: r) c h' with h' | ⟨p, hp, h'⟩
      · exact .inl h'
      · exact .inr ⟨p, by simp [hp], h'⟩
/-- a line of words, split -/
theorem split_line {ps : List Str} (hne : ps ≠ []) (h : ∀ p ∈ ps, Ltr p) : Txt.split (Txt.join sp ps) sp = ps := by
  refine TL.split_join (s := 32) (S := []) rfl (by decide +kernel) hne fun p hp => ?_
  intro m
  have := h p hp 32 m
  omega
theorem line_no {ps : List Str} (h : ∀ p ∈ ps, Ltr p) : (10 : Nat) ∉ (Txt.join sp ps).cps.toList := fun m => by
  rw [TL.join_eq] at m
  rcases join_from sp ps 10 m with m | ⟨p, hp, m⟩
  · simp at m
  · have := h p hp 10 m
    omega
theorem join2 (a b : Str) : Txt.join sp [a, b] = a ++ sp ++ b := by rw [TL.join_eq]; rfl
theorem str_app_assoc (a b c : Str) : a ++ b ++ c = a ++ (b ++ c) := str_ext (by rw [cps_app, cps_app, cps_app, cps_app, List.append_assoc])
theorem join3 (a b c : Str) : Txt.join sp [a, b, c] = a ++ sp ++ b ++ sp ++ c := by
  rw [TL.join_eq]
  show a ++ sp ++ (b ++ sp ++ c) = _
  rw [str_app_assoc b sp c, str_app_assoc (a ++ sp ++ b) sp c, str_app_assoc (a ++ sp) b (sp ++ c)]
/-- the rows of goals of a drawn rule -/
def rsL (x : Str) (ws : List Str) (kvs : List (List Key × V)) : List (List Str) := ws.flatMap fun t => x.cps.toList.map fun c => [t, sg c, gf kvs t c]
structure Fine (x : Str) (ws fs : List Str) (kvs : List (List Key × V)) : Prop where
  sgs : areSignsL [x] = true
  mds : areMoodsL ws = true
  sub : fs.Sublist ws
  gl : ∀ t ∈ ws, ∀ c ∈ x.cps.toList, ∃ y ∈ ws, valV kvs (kT t c) = some (.str y)
theorem moods_word {ws : List Str} (h : areMoodsL ws = true) : ∀ y ∈ ws, isWordL y = true := by
  unfold areMoodsL at h
  simp only [Bool.and_eq_true] at h
  exact List.all_eq_true.mp h.1.2
theorem moods_nd {ws : List Str} (h : areMoodsL ws = true) : ws.Nodup := by
  unfold areMoodsL at h
  simp only [Bool.and_eq_true] at h
  exact of_decide_eq_true h.2
theorem sub_filter : ∀ {ws fs : List Str}, ws.Nodup → fs.Sublist ws → ws.filter (fun m => decide (m ∈ fs)) = fs
  | [], fs, _, h => by
    have := List.sublist_nil.mp h
    subst this
    rfl
  | y :: t, fs, nd, h => by
    have nd' := List.nodup_cons.mp nd
    cases h with
    | cons _ h =>
      have hy : y ∉ fs := fun m => nd'.1 (h.subset m)
      rw [List.filter_cons, if_neg (by simpa using hy)]
      exact sub_filter nd'.2 h
    | cons_cons _ h =>
      rename_i gs
      rw [List.filter_cons, if_pos (by simp)]
      congr 1
      have e : t.filter (fun m => decide (m ∈ y :: gs)) = t.filter (fun m => decide (m ∈ gs)) := by
        apply List.filter_congr
        intro z hz
        have : z ≠ y := fun e => nd'.1 (e ▸ hz)
        simp [this]
      rw [e]
      exact sub_filter nd'.2 h
theorem fine_rows {x : Str} {ws fs : List Str} {kvs : List (List Key × V)} (h : Fine x ws fs kvs) : rowsL (textL x ws fs kvs) = [(("signs" : Str)), x] :: (("moods" : Str) :: ws) :: (("good" : Str) :: fs) :: rsL x ws kvs := by
  have lx := ltr_signs h.sgs
  have lw : ∀ y ∈ ws, Ltr y := fun y hy => ltr_word (moods_word h.mds y hy)
  have lf : ∀ y ∈ fs, Ltr y := fun y hy => lw y (h.sub.subset hy)
  have lg : ∀ t ∈ ws, ∀ c ∈ x.cps.toList, Ltr (gf kvs t c) := fun t ht c hc => by
    obtain ⟨y, hy, e⟩ := h.gl t ht c hc
    rw [gf_is e]
    exact lw y hy
  have l1 : Ltr ("signs" : Str) := ltr_only (by decide +kernel)
  have l2 : Ltr ("moods" : Str) := ltr_only (by decide +kernel)
  have l3 : Ltr ("good" : Str) := ltr_only (by decide +kernel)
  let pss : List (List Str) := [("signs" : Str), x] :: (("moods" : Str) :: ws) :: (("good" : Str) :: fs) :: rsL x ws kvs
  have e : linesL x ws fs kvs = pss.map (Txt.join sp) := by
    show headL x ws fs ++ bodyL x ws kvs = Txt.join sp [("signs" : Str), x] :: Txt.join sp (("moods" : Str) :: ws) :: Txt.join sp (("good" : Str) :: fs) :: (rsL x ws kvs).map (Txt.join sp)
    have e1 : Txt.join sp [("signs" : Str), x] = ("signs " : Str) ++ x := by
      rw [join2]
      rfl
    have e2 : (rsL x ws kvs).map (Txt.join sp) = bodyL x ws kvs := by
      unfold rsL bodyL
      rw [List.map_flatMap]
      congr 1
      funext t
      rw [List.map_map]
      exact List.map_congr_left fun c _ => join3 t (sg c) (gf kvs t c)
    rw [e1, e2]
    rfl
  have all : ∀ ps ∈ pss, ps ≠ [] ∧ ∀ p ∈ ps, Ltr p := by
    intro ps hps
    have hps' : ps = [("signs" : Str), x] ∨ ps = ("moods" : Str) :: ws ∨ ps = ("good" : Str) :: fs ∨ ps ∈ rsL x ws kvs := by simpa [pss] using hps
    rcases hps' with rfl | rfl | rfl | hm
    · exact ⟨by simp, fun p hp => by
        rcases List.mem_cons.mp hp with rfl | hp
        · exact l1
        · have : p = x := by simpa using hp
          rw [this]; exact lx⟩
    · exact ⟨by simp, fun p hp => by
        rcases List.mem_cons.mp hp with rfl | hp
        · exact l2
        · exact lw p hp⟩
    · exact ⟨by simp, fun p hp => by
        rcases List.mem_cons.mp hp with rfl | hp
        · exact l3
        · exact lf p hp⟩
    · unfold rsL at hm
      obtain ⟨t, ht, hm⟩ := List.mem_flatMap.mp hm
      obtain ⟨c, hc, rfl⟩ := List.mem_map.mp hm
      refine ⟨by simp, fun p hp => ?_⟩
      have : p = t ∨ p = sg c ∨ p = gf kvs t c := by simpa using hp
      rcases this with rfl | rfl | rfl
      · exact lw _ ht
      · exact ltr_sg lx hc
      · exact lg t ht c hc
  unfold rowsL textL
  rw [TL.split_join (s := 10) (S := []) rfl (by decide +kernel) (by rw [e]; simp [pss]) (fun p hp m => by
    rw [e] at hp
    obtain ⟨ps, hps, rfl⟩ := List.mem_map.mp hp
    exact line_no (all ps hps).2 m), e, List.map_map]
  have : pss.map ((fun y => Txt.split y sp) ∘ Txt.join sp) = pss.map id := by
    apply List.map_congr_left
    intro ps hps
    exact split_line (all ps hps).1 (all ps hps).2
  rw [this, List.map_id]
theorem fine_goals {x : Str} {ws fs : List Str} {kvs : List (List Key × V)} (h : Fine x ws fs kvs) : goalsOkL x ws (rsL x ws kvs) = true := by
  unfold goalsOkL
  rw [Bool.and_eq_true_iff]
  refine ⟨decide_eq_true ?_, List.all_eq_true.mpr fun r hr => ?_⟩
  · unfold rsL pairsL
    rw [List.map_flatMap]
    congr 1
    funext t
    rw [List.map_map]
    rfl
  · unfold rsL at hr
    obtain ⟨t, ht, hr⟩ := List.mem_flatMap.mp hr
    obtain ⟨c, hc, rfl⟩ := List.mem_map.mp hr
    obtain ⟨y, hy, e⟩ := h.gl t ht c hc
    unfold rowOkL
    rw [Bool.and_eq_true_iff]
    refine ⟨rfl, decide_eq_true ?_⟩
    show gf kvs t c ∈ ws
    rw [gf_is e]
    exact hy
/-- the text of a drawn rule is read as what it was drawn -/
theorem fine_parse {x : Str} {ws fs : List Str} {kvs : List (List Key × V)} (h : Fine x ws fs kvs) : parseL (textL x ws fs kvs) = some ⟨x, ws, fs, rsL x ws kvs⟩ := by
  unfold parseL
  rw [fine_rows h, parts_is, if_pos]
  · rfl
  · refine ⟨h.sgs, h.mds, ?_, fine_goals h⟩
    unfold areGoodL
    exact decide_eq_true (sub_filter (moods_nd h.mds) h.sub).symm
theorem dOf_const {α κ : Type} [DecidableEq κ] {key : α → κ} {val : α → V} {k : κ} {v : V} : ∀ (xs : List α), (∀ a ∈ xs, key a = k → val a = v) → (∃ a ∈ xs, key a = k) → valV (dOf key val xs) k = some v := by
  suffices h : ∀ (n : Nat) (xs : List α), xs.length = n → (∀ a ∈ xs, key a = k → val a = v) → (∃ a ∈ xs, key a = k) → valV (dOf key val xs) k = some v from fun xs => h _ xs rfl
  intro n
  induction n with
  | zero =>
    intro xs h _ ⟨a, ha, _⟩
    have : xs = [] := List.eq_nil_of_length_eq_zero h
    subst this
    cases ha
  | succ n ih =>
    intro xs h h1 h2
    have hne : xs ≠ [] := by intro z; subst z; cases h
    obtain ⟨ys, a, rfl⟩ : ∃ ys a, xs = ys ++ [a] := ⟨xs.dropLast, xs.getLast hne, (List.dropLast_concat_getLast hne).symm⟩
    have hl : ys.length = n := by rw [List.length_append] at h; simpa using h
    rw [dOf_snoc, valV_put]
    by_cases e : k = key a
    · rw [if_pos e, h1 a (by simp) e.symm]
    · rw [if_neg e]
      refine ih ys hl (fun b hb => h1 b (by simp [hb])) ?_
      obtain ⟨b, hb, eb⟩ := h2
      rcases List.mem_append.mp hb with m | m
      · exact ⟨b, m, eb⟩
      · have : b = a := by simpa using m
        exact absurd (this ▸ eb.symm) e
/-- the goals that are read are those that were drawn -/
theorem fine_val {x : Str} {ws fs : List Str} {kvs : List (List Key × V)} (h : Fine x ws fs kvs) {t : Str} (ht : t ∈ ws) {c : Nat} (hc : c ∈ x.cps.toList) : valV (goalsD (rsL x ws kvs)) (kT t c) = some (.str (gf kvs t c)) := by
  unfold goalsD
  refine dOf_const _ (fun r hr e => ?_) ⟨[t, sg c, gf kvs t c], ?_, rfl⟩
  · unfold rsL at hr
    obtain ⟨t', ht', hr⟩ := List.mem_flatMap.mp hr
    obtain ⟨c', hc', rfl⟩ := List.mem_map.mp hr
    have e' : [(Sum.inr t' : Key), Sum.inr (sg c')] = [Sum.inr t, Sum.inr (sg c)] := e
    injection e' with e1 e2
    injection e2 with e2 _
    have e1' : t' = t := Sum.inr.inj e1
    have e2' : c' = c := sg_inj (Sum.inr.inj e2)
    subst e1' e2'
    rfl
  · unfold rsL
    exact List.mem_flatMap.mpr ⟨t, ht, List.mem_map.mpr ⟨c, hc, rfl⟩⟩
/-- a sketch is fine -/
theorem Fine.short {x : Str} {ws fs : List Str} {kvs : List (List Key × V)} (h : Fine x ws fs kvs) (hn : ws.length ≤ 20) : Short x ws fs kvs := by
  have w8 : ∀ y ∈ ws, y.length ≤ 8 := fun y hy => by
    have := moods_word h.mds y hy
    unfold isWordL at this
    simp only [Bool.and_eq_true] at this
    exact of_decide_eq_true this.1.2
  refine ⟨?_, hn, Nat.le_trans h.sub.length_le hn, w8, fun y hy => w8 y (h.sub.subset hy), fun t ht c hc => ?_⟩
  · have := h.sgs
    rw [areS1] at this
    simp only [Bool.and_eq_true] at this
    exact of_decide_eq_true this.1.1.2
  · obtain ⟨y, hy, e⟩ := h.gl t ht c hc
    exact ⟨y, w8 y hy, e⟩
theorem text_small {x : Str} {ws fs : List Str} {kvs : List (List Key × V)} (h : Short x ws fs kvs) : (textL x ws fs kvs).length ≤ 1000000 := by
  unfold textL
  rw [TL.join_eq]
  have hs := lines_short h
  have b := sum_le hs.2
  have e : (linesL x ws fs kvs).length * 200 ≤ 63 * 200 := Nat.mul_le_mul_right _ hs.1
  cases hl : linesL x ws fs kvs with
  | nil => exact Nat.zero_le _
  | cons a l =>
    rw [hl] at b e hs
    rw [len_join_cons]
    have : (nl : Str).length = 1 := rfl
    rw [this]
    have := hs.1
    rw [List.length_cons] at this
    omega
theorem low_only {y : Str} (h : madeL y abc = true) : ∀ c ∈ y.cps.toList, c < 256 := fun c hc => by
  unfold madeL at h
  rw [List.all_map, List.all_eq_true] at h
  have := h c hc
  have m : c ∈ abc.cps.toList := by simpa using this
  have all : ∀ d ∈ abc.cps.toList, d < 256 := by decide +kernel
  exact all c m
theorem text_low {x : Str} {ws fs : List Str} {kvs : List (List Key × V)} (h : Fine x ws fs kvs) : ∀ c ∈ (textL x ws fs kvs).cps.toList, c < 256 := by
  have wl : ∀ y ∈ ws, ∀ c ∈ y.cps.toList, c < 256 := fun y hy => low_only (Bool.and_eq_true_iff.mp (moods_word h.mds y hy)).2
  have xl : ∀ c ∈ x.cps.toList, c < 256 := by
    have := h.sgs
    rw [areS1] at this
    simp only [Bool.and_eq_true] at this
    exact low_only this.1.2
  intro c hc
  unfold textL at hc
  rw [TL.join_eq] at hc
  rcases join_from nl _ c hc with m | ⟨p, hp, m⟩
  · have : c = 10 := by simpa using m
    omega
  · unfold linesL at hp
    rcases List.mem_append.mp hp with hp | hp
    · unfold headL at hp
      simp only [List.mem_cons, List.not_mem_nil, or_false] at hp
      rcases hp with rfl | rfl | rfl
      · rw [cps_app, List.mem_append] at m
        rcases m with m | m
        · have : ∀ d ∈ ("signs " : Str).cps.toList, d < 256 := by decide +kernel
          exact this c m
        · exact xl c m
      · rw [TL.join_eq] at m
        rcases join_from sp _ c m with m | ⟨p, hp, m⟩
        · have : c = 32 := by simpa using m
          omega
        · rcases List.mem_cons.mp hp with rfl | hp
          · have : ∀ d ∈ ("moods" : Str).cps.toList, d < 256 := by decide +kernel
            exact this c m
          · exact wl p hp c m
      · rw [TL.join_eq] at m
        rcases join_from sp _ c m with m | ⟨p, hp, m⟩
        · have : c = 32 := by simpa using m
          omega
        · rcases List.mem_cons.mp hp with rfl | hp
          · have : ∀ d ∈ ("good" : Str).cps.toList, d < 256 := by decide +kernel
            exact this c m
          · exact wl p (h.sub.subset hp) c m
    · unfold bodyL at hp
      obtain ⟨t, ht, hp⟩ := List.mem_flatMap.mp hp
      obtain ⟨d, hd, rfl⟩ := List.mem_map.mp hp
      obtain ⟨y, hy, e⟩ := h.gl t ht d hd
      unfold lineL at m
      rw [gf_is e, cps_app, cps_app, cps_app, cps_app] at m
      simp only [List.mem_append] at m
      rcases m with (((m | m) | m) | m) | m
      · exact wl t ht c m
      · have : c = 32 := by simpa using m
        omega
      · have : c = d := by simpa using m
        rw [this]; exact xl d hd
      · have : c = 32 := by simpa using m
        omega
      · exact wl y hy c m
theorem text_ok {x : Str} {ws fs : List Str} {kvs : List (List Key × V)} (h : Fine x ws fs kvs) : PyData.strOk (textL x ws fs kvs) = true := ok_low (text_low h)
end My
namespace My
open PySem PySem.Spec PyProof.Rows L2 PySem.GX L2H LamX
def spLetters : Sp := fun vs H Q _ => ∃ (p : Addr) (n : Nat), vs = [.ref p, .int (n : Int)] ∧ Wl H p ∧ 1 ≤ n ∧ n ≤ 3 ∧ ∀ (x : Str) (H' : Hp), areSignsL [x] = true → x.length = n → Sb p H H' → Wl H' p → Q (.str x) H'
/-- places in the alphabet, ascending -/
def Asc (m : Nat) (ns : List Nat) : Prop := ns.Pairwise (· < ·) ∧ ∀ n ∈ ns, n < m
theorem Asc.snoc {m k : Nat} {ns : List Nat} (h : Asc m ns) (h1 : m ≤ k + 1) (h2 : ∀ n ∈ ns, n < k) : Asc (k + 1) (ns ++ [k]) := by
  refine ⟨?_, fun n hn => ?_⟩
  · rw [List.pairwise_append]
    exact ⟨h.1, by simp, fun a ha b hb => by rw [List.mem_singleton.mp hb]; exact h2 a ha⟩
  · rcases List.mem_append.mp hn with m | m
    · have := h2 n m; omega
    · rw [List.mem_singleton.mp m]; omega
theorem abc_at : ∀ n, n < 26 → abc.cps.toList[n]? = some (97 + n) := by decide +kernel
theorem letters_ok {ns : List Nat} (h : Asc 26 ns) (l1 : 1 ≤ ns.length) (l3 : ns.length ≤ 3) : areSignsL [Txt.join Str.empty (ns.map fun n => sg (97 + n))] = true ∧ (Txt.join Str.empty (ns.map fun n => sg (97 + n))).length = ns.length := by
  have e : (Txt.join Str.empty (ns.map fun n => sg (97 + n))).cps.toList = ns.map (97 + ·) := by
    rw [TL.join_eq]
    have := join_signs (ns.map (97 + ·))
    rw [List.map_map] at this
    exact this
  have el : (Txt.join Str.empty (ns.map fun n => sg (97 + n))).length = ns.length := by
    show (Txt.join Str.empty (ns.map fun n => sg (97 + n))).cps.size = _
    rw [← Array.length_toList, e, List.length_map]
  refine ⟨?_, el⟩
  rw [areS1, el, decide_eq_true l1, decide_eq_true l3, Bool.true_and, Bool.true_and, Bool.and_eq_true_iff]
  constructor
  · unfold madeL
    rw [e, List.all_map, List.all_eq_true]
    intro c hc
    obtain ⟨n, hn, rfl⟩ := List.mem_map.mp hc
    exact decide_eq_true (List.mem_of_getElem? (abc_at n (h.2 n hn)))
  · rw [e]
    refine decide_eq_true (List.pairwise_map.mpr (h.1.imp fun hab => ?_))
    omega
section
variable {P : Program} {w : World} {K : PySem.W.Frag} {mg : Str → Option Value} {base : Heap}
abbrev nLet : List Str := ["_law_purse_here", "_law_size", "_law_abc", "_law_found", "_law_k", "_law_low", "_law_at"]
theorem scLet : FnScope nLet ["_law_purse_here", "_law_size"] (defScope sLetters) := ⟨rfl, rfl, rfl, by decide +kernel, rfl, by decide +kernel, by decide +kernel⟩
def natsI (ns : List Nat) : List V := ns.map fun n : Nat => V.int (n : Int)
def tLow : TE := fun σ H Q => ∃ (l : Addr) (ns : List Nat), σ[3]? = some (some (.ref l)) ∧ H l = some (.lst (natsI ns)) ∧ ∀ (n : Nat) (H' : Hp), Same H H' → (ns = [] → n = 0) → (∀ ms a, ns = ms ++ [a] → n = a + 1) → Q (.int (n : Int)) H'
theorem ok_letters {f : Addr} {fd : FuncData} (F : Fun K "_law_letters" "_law_letters" sLetters f fd) (hP : Hv P w K mg base 1 "_law_pick" ["_law_purse_here", "_law_size"] spPk) (hR : mg "range" = none) : FnOk P w K mg base CX0 2 f fd ["_law_purse_here", "_law_size"] spLetters := by
  refine F.ok scLet (fun vs H Q E h => ?_) (fun cdv A outer s H vs Q E hr h => ?_)
  · obtain ⟨p, n, rfl, _⟩ := h
    rfl
  · obtain ⟨p, n, rfl, hW, n1, n3, k⟩ := h
    have hu := hu_of hr
    have hu0 : (A.deeper (envOfC "_law_letters" (defScope sLetters) s.heap.objs.size f cdv)).units < cLine := by omega
    refine ⟨_, pss_cons (ps_asg (pe_tup (pa_cons pe_str (pa_cons (pe_lst pa_nil) pa_nil))) (pg_tup rfl (pgs_cons (pg_name (i := 2) scLet.nd rfl (Or.inr rfl)) (pgs_cons (pg_name (i := 3) scLet.nd rfl (Or.inl rfl)) pgs_nil))))
      (pss_cons (ps_for PassesOwn.never rfl (pi_range1 rfl hR (pa_cons (pv 1) pa_nil)) (pg_name (i := 4) scLet.nd rfl (Or.inl rfl))
        (pss_cons (ps_set (i := 5) scLet.nd rfl (Or.inl rfl) (PE_imp (t' := tLow) (pe_ifExp (pt_cmpR (op_eqNil hu0) (pv 3) (pe_lst pa_nil) (nomark _)) pe_int (pe_op op_add (pe_ix ix_list (pv 3) (pe_un un_neg pe_int) (fun _ _ => rfl)) pe_int)) ?iLow))
        (pss_one (ps_expr (pe_bm PySem.F.plainAttrs_list PySem.F.slot_list_append PySem.F.type_list_append mt_append (pv 3) (pa_cons (pe_op op_add (pv 5) (pe_cl hP hr rfl pass0 (pa_cons (pv 0) (pa_cons (pe_op op_sub (pe_op op_add (pe_op op_sub pe_int (pv 1)) (pv 4)) (pv 5)) pa_nil)))) pa_nil))))))
      (pss_one (ps_ret (pe_join pe_str (pe_lc (own := [("_law_at", 6)]) (g := gName 6) (tt := tYes) rfl scLet.nd (pi_list (pv 3)) (blkOk_by (N := nLet) (sc := defScope sLetters) (by decide +kernel))
        (fun _ _ _ _ _ => pg_name (i := 6) scLet.nd rfl (Or.inl rfl)) (fun _ _ _ _ _ => pts_nil) (fun _ _ _ _ _ => pe_ix ix_str (pv 2) (pv 6) (fun _ _ => rfl))))))), ?_⟩
    case iLow =>
      rintro σ H Q ⟨l, ns, e3, el, q⟩
      refine ⟨_, e3, by show 0 ≤ sizeLine; decide, fun l0 h0 => ⟨l, l0, _, rfl, rfl, SqL.of (keep1 el h0), SqL.of upd_same, _, rfl, ?_⟩⟩
      rcases List.eq_nil_or_concat ns with rfl | ⟨ms, a, rfl⟩
      · exact iteT (q 0 _ (same_new h0) (fun _ => rfl) (fun ms a e => by simp at e))
      · have e1 : natsI (ms ++ [a]) = natsI ms ++ [V.int (a : Int)] := by unfold natsI; rw [List.map_append]; rfl
        have e2 : (natsI (ms.concat a)).isEmpty = false := by
          rw [List.concat_eq_append, e1]
          simp
        show if (natsI (ms.concat a)).isEmpty = true then _ else _
        rw [e2]
        refine iteF ⟨_, e3, 1, rfl, l, _, _, V.int (a : Int), rfl, rfl, SqL.of (keep1 el h0), ?_, _, _, rfl, rfl, ?_⟩
        · rw [List.concat_eq_append, e1]
          exact atI_last _ _
        · have := q (a + 1) _ (same_new (o := .lst []) h0) (fun e => by simp at e) (fun ms' a' e => by
            rw [List.concat_eq_append] at e
            have := List.append_inj_right' e rfl
            simp at this
            omega)
          rw [show (((a + 1 : Nat)) : Int) = (a : Int) + 1 by omega] at this
          exact this
    refine ⟨by show 0 ≤ sizeLine; decide, fun l hl => ⟨by show 2 ≤ sizeLine; decide, fun t ht => ?_⟩⟩
    refine ⟨t, _, rfl, SqT.of upd_same, rfl, _, _, rfl, _, _, rfl, rfl, ?_⟩
    have nl : l ≠ p := hW.new hl
    have s1 : Same H (upd (upd H l (.lst [])) t (.tup [.str abc, .ref l])) := (same_new hl).trans (same_new ht)
    have el : upd (upd H l (.lst [])) t (.tup [.str abc, .ref l]) l = some (.lst (natsI [])) := keep1 upd_same ht
    have hW1 := hW.same s1
    generalize upd (upd H l (.lst [])) t (.tup [.str abc, .ref l]) = H1 at s1 el hW1 ⊢
    refine ⟨_, rfl, (n : Int), rfl, by omega, by omega, for_range (n := n) (fun i σ H' => (∃ v4 v5, σ = [some (.ref p), some (.int (n : Int)), some (.str abc), some (.ref l), v4, v5, none]) ∧ Wl H' p ∧ (∀ b o, b ≠ p → b ≠ l → H1 b = some o → H' b = some o) ∧ ∃ ns : List Nat, ns.length = i ∧ Asc (26 - n + i) ns ∧ H' l = some (.lst (natsI ns)))
      ⟨⟨_, _, rfl⟩, hW1, fun _ _ _ _ e => e, [], rfl, ⟨List.Pairwise.nil, fun m hm => by cases hm⟩, el⟩ (fun i σ H2 hi h => ?_) (fun σ H2 h => ?_)⟩
    · obtain ⟨⟨v4, v5, rfl⟩, hW2, st, ns, ln, asc, e2⟩ := h
      refine ⟨l, ns, rfl, e2, fun lo H3 s3 c1 c2 => ?_⟩
      have hlo : lo ≤ 26 - n + i ∧ ∀ m ∈ ns, m < lo := by
        rcases List.eq_nil_or_concat ns with rfl | ⟨ms, a, rfl⟩
        · rw [c1 rfl]
          exact ⟨Nat.zero_le _, fun m hm => by cases hm⟩
        · rw [List.concat_eq_append] at asc c2 ⊢
          rw [c2 ms a rfl]
          have := asc.2 a (by simp)
          refine ⟨by omega, fun m hm => ?_⟩
          rcases List.mem_append.mp hm with h | h
          · have := (List.pairwise_append.mp asc.1).2.2 m h a (by simp)
            omega
          · rw [List.mem_singleton.mp h]; omega
      refine ⟨_, rfl, .inl ⟨rfl, _, SqL.of (s3 _ _ e2)⟩, _, rfl, _, rfl, _, rfl, _, _, rfl, rfl, _, rfl, _, _, rfl, rfl, _, rfl, _, _, rfl, rfl, p, _, rfl, hW2.same s3, by omega, by omega, fun d H4 d0 d1 sb4 hW4 => ?_⟩
      obtain ⟨m, rfl⟩ := Int.eq_ofNat_of_zero_le d0
      have hm : lo + m < 26 - n + i + 1 := by omega
      refine ⟨_, _, rfl, rfl, l, _, _, rfl, rfl, sb4 _ _ nl (s3 _ _ e2), by unfold natsI; rw [List.length_map, ln, sizeLine_eq]; omega, ?_⟩
      refine ⟨⟨_, _, rfl⟩, hW4.upd_ nl, fun b o n1 n2 e => ?_, ns ++ [lo + m], by rw [List.length_append, ln]; rfl, ?_, ?_⟩
      · rw [upd_ne n2]
        exact sb4 _ _ n1 (s3 _ _ (st b o n1 n2 e))
      · refine ⟨?_, fun z hz => ?_⟩
        · rw [List.pairwise_append]
          exact ⟨asc.1, by simp, fun a ha b hb => by rw [List.mem_singleton.mp hb]; have := hlo.2 a ha; omega⟩
        · rcases List.mem_append.mp hz with h | h
          · have := asc.2 z h; omega
          · rw [List.mem_singleton.mp h]; omega
      · rw [upd_same]
        unfold natsI
        rw [List.map_append]
        show some (HO.lst (_ ++ [V.int ((lo : Int) + (m : Int))])) = some (HO.lst (_ ++ [V.int ((lo + m : Nat) : Int)]))
        rw [show (((lo + m : Nat)) : Int) = (lo : Int) + (m : Int) by omega]
    · obtain ⟨⟨v4, v5, rfl⟩, hW2, st, ns, ln, asc, e2⟩ := h
      have asc' : Asc 26 ns := ⟨asc.1, fun m hm => by have := asc.2 m hm; omega⟩
      refine ⟨⟨_, rfl⟩, _, rfl, l, rfl, ⟨_, SqL.of e2⟩, fun D hD => ?_⟩
      have zs : abc.length ≤ sizeLine := by decide +kernel
      refine lcG ns (fun n => some (V.str (sg (97 + n)))) (walk_listL (K := K) (a := l) ns fun n : Nat => V.int (n : Int)) (by omega) hD (yat_same _) (fun H' s' => SqL.of (s' _ _ e2)) (fun i m y H' H'' k1 hm sj hy k2 => ?_) (fun H6 s6 e6 => ?_)
      · obtain ⟨rfl, hy⟩ := hy
        have ey := map_get hm hy
        subst ey
        exact ⟨rfl, _, rfl, _, rfl, abc, _, 97 + m, rfl, rfl, zs, atI_nat (abc_at m (asc'.2 m (List.mem_of_getElem? hm))), k2 _ (Same.refl _)⟩
      · have e6' : H6 D = some (.lst ((ns.map fun n => sg (97 + n)).map V.str)) := by
          rw [e6, List.filterMap_eq_map', List.map_map]
          rfl
        obtain ⟨g1, g2⟩ := letters_ok asc' (by omega) (by omega)
        refine ⟨_, D, _, rfl, rfl, .inl (SqL.of e6'), ?_, ?_⟩
        · have : ((ns.map fun n => sg (97 + n)).map (·.length)).sum = ns.length := by
            clear e6' e6 g1 g2 asc asc' e2 ln
            induction ns with
            | nil => rfl
            | cons a t ih => rw [List.map_cons, List.map_cons, List.sum_cons, ih, List.length_cons]; show 1 + _ = _; omega
          rw [this, List.length_map]
          have e0 : (Str.ofString "").length = 0 := rfl
          rw [e0]
          omega
        · refine k _ _ g1 (by rw [show Str.ofString "" = Str.empty from rfl]; rw [g2, ln]) (fun b o n1 e => ?_) (hW2.same s6)
          have e1 := s1 _ _ e
          exact s6 _ _ (st b o n1 (ne_of_none e hl) e1)
end
end My
namespace My
open PySem PySem.Spec PyProof.Rows L2 PySem.GX L2H LamX
/-- how many moods a way has -/
def WayOk (way size count : Nat) : Prop := (way = 1 → size = count) ∧ (way = 2 → size = count + 2) ∧ (way = 3 → size = 4) ∧ (way = 4 → count = 2 ∧ size = 5) ∧ 1 ≤ size ∧ size ≤ 5 ∧ 1 ≤ count ∧ count ≤ 3
def spAim : Sp := fun vs H Q _ => ∃ (p : Addr) (way size count spot step : Nat), vs = [.ref p, .int (way : Int), .int (size : Int), .int (count : Int), .int (spot : Int), .int (step : Int)] ∧ Wl H p ∧ WayOk way size count ∧ spot < size ∧ step < count ∧
  ∀ (i : Nat) (H' : Hp), i < size → Sb p H H' → Wl H' p → Q (.int (i : Int)) H'
def tBad : TE := fun σ H Q => ∃ (p : Addr) (spot : Nat), σ[0]? = some (some (.ref p)) ∧ σ[4]? = some (some (.int (spot : Int))) ∧ Wl H p ∧ ∀ (b : Bool) (H' : Hp), Sb p H H' → Wl H' p → Q (.bl b) H'
section
variable {P : Program} {w : World} {K : PySem.W.Frag} {mg : Str → Option Value} {base : Heap}
abbrev nAim : List Str := ["_law_purse_here", "_law_way", "_law_size", "_law_count", "_law_spot", "_law_step", "_law_bad"]
theorem scAim : FnScope nAim ["_law_purse_here", "_law_way", "_law_size", "_law_count", "_law_spot", "_law_step"] (defScope sAim) := ⟨rfl, rfl, rfl, by decide +kernel, rfl, by decide +kernel, by decide +kernel⟩
theorem dec_int {a b : Nat} (h : decide (V.int (a : Int) = V.int (b : Int)) = true) : a = b := by
  have := of_decide_eq_true h
  injection this with e
  omega
theorem ok_aim {f : Addr} {fd : FuncData} (F : Fun K "_law_aim" "_law_aim" sAim f fd) (hP : Hv P w K mg base 1 "_law_pick" ["_law_purse_here", "_law_size"] spPk) (hI : mg "int" = none) : FnOk P w K mg base CX0 2 f fd ["_law_purse_here", "_law_way", "_law_size", "_law_count", "_law_spot", "_law_step"] spAim := by
  refine F.ok scAim (fun vs H Q E h => ?_) (fun cdv A outer s H vs Q E hr h => ?_)
  · obtain ⟨p, way, size, count, spot, step, rfl, _⟩ := h
    rfl
  · obtain ⟨p, way, size, count, spot, step, rfl, hW, ⟨w1, w2, w3, w4, z1, z5, c1, c3⟩, hs, ht, k⟩ := h
    refine ⟨_, pss_cons (ps_if (pt_cmpR op_eq (pv 1) pe_int (nomark _)) (pss_one (ps_ret (pv 5))) pss_nil)
      (pss_cons (ps_if (pt_cmpR op_eq (pv 1) pe_int (nomark _))
        (pss_cons (ps_if (pt_cmpR op_eq (pv 4) (pe_op op_sub (pv 2) pe_int) (nomark _)) (pss_one (ps_ret (pv 4))) pss_nil)
        (pss_cons (ps_set (i := 6) scAim.nd rfl (Or.inl rfl) (PE_imp (t' := tBad) (pe_and (pe_cmpR op_gt (pv 4) pe_int (nomark _)) (pe_one (pe_cmpR op_eq (pe_cl hP hr rfl pass0 (pa_cons (pv 0) (pa_cons pe_int pa_nil))) pe_int (nomark _)))) ?iBad))
        (pss_one (ps_ret (pe_ifExp (pt_val (pv 6)) (pe_op op_sub (pv 2) pe_int) (pe_op op_add pe_int (pv 5))))))) pss_nil)
      (pss_cons (ps_if (pt_cmpR op_eq (pv 1) pe_int (nomark _)) (pss_one (ps_ret (pe_op op_mod (pe_callTy call_int1 (by rfl) hI (by decide +kernel) (pa_cons (pe_op op_add (pe_op op_mul (pv 4) (pv 3)) (pv 5)) pa_nil)) (pv 2)))) pss_nil)
      (pss_cons (ps_if (pt_cmpR op_eq (pv 1) pe_int (nomark _)) (pss_one (ps_ret (pe_ifExp (pt_cmpR op_eq (pv 4) pe_int (nomark _)) (pe_op op_add pe_int (pe_op op_mul pe_int (pv 5))) (pe_op op_add (pe_op op_add pe_int (pe_op op_mul (pe_op op_fdiv (pe_op op_sub (pv 4) pe_int) pe_int) pe_int)) (pv 5))))) pss_nil)
      (pss_one (ps_ret (pe_cl hP hr rfl pass0 (pa_cons (pv 0) (pa_cons (pv 2) pa_nil)))))))), ?_⟩
    case iBad =>
      rintro σ H Q ⟨p, spot, e0, e4, hW, q⟩
      refine ⟨_, e4, _, _, rfl, rfl, _, rfl, ite2 (fun c => ?_) (fun c => ?_)⟩
      · exact ⟨_, e0, p, 3, rfl, hW, by decide, by decide, fun d H' d0 d1 sb hW' => ⟨rfl, q _ _ sb hW'⟩⟩
      · exact q false H (Sb.refl _ _) hW
    have kk : ∀ (z : Int) (i : Nat) (H' : Hp), z = (i : Int) → i < size → Sb p H H' → Wl H' p → Q (.int z) H' := fun z i H' e hi sb hw => by rw [e]; exact k i H' hi sb hw
    refine ⟨_, rfl, rfl, _, rfl, ite2 (fun c => ?_) (fun c => ?_)⟩
    · have e := w1 (dec_int (b := 1) c)
      exact ⟨_, rfl, k step H (by omega) (Sb.refl _ _) hW⟩
    refine ⟨_, rfl, rfl, _, rfl, ite2 (fun c => ?_) (fun c => ?_)⟩
    · have e := w2 (dec_int (b := 2) c)
      refine ⟨_, rfl, _, rfl, _, _, rfl, rfl, rfl, _, rfl, ite2 (fun c => ?_) (fun c => ?_)⟩
      · exact ⟨_, rfl, k spot H hs (Sb.refl _ _) hW⟩
      · refine ⟨p, spot, rfl, rfl, hW, fun b H1 sb1 hW1 => ⟨_, rfl, _, rfl, ite2 (fun _ => ?_) (fun _ => ?_)⟩⟩
        · exact ⟨_, rfl, _, _, rfl, rfl, kk _ (size - 1) H1 (by omega) (by omega) sb1 hW1⟩
        · exact ⟨_, rfl, _, _, rfl, rfl, kk _ (1 + step) H1 (by omega) (by omega) sb1 hW1⟩
    refine ⟨_, rfl, rfl, _, rfl, ite2 (fun c => ?_) (fun c => ?_)⟩
    · have e := w3 (dec_int (b := 3) c)
      refine ⟨_, rfl, _, rfl, _, _, rfl, rfl, .inl ⟨by show -(2 ^ 64 : Int) < (spot : Int); omega, by show (spot : Int) < 2 ^ 64; omega⟩, _, rfl, _, _, rfl, rfl, .inl ⟨_, rfl, _, rfl, _, _, rfl, rfl, (by show (0 : Int) < (size : Int); omega), ?_⟩⟩
      refine kk _ ((spot * count + step) % size) H ?_ (Nat.mod_lt _ (by omega)) (Sb.refl _ _) hW
      rw [Int.natCast_emod, Int.natCast_add, Int.natCast_mul]
    refine ⟨_, rfl, rfl, _, rfl, ite2 (fun c => ?_) (fun c => ?_)⟩
    · obtain ⟨e1, e2⟩ := w4 (dec_int (b := 4) c)
      refine ⟨_, rfl, rfl, _, rfl, ite2 (fun c => ?_) (fun c => ?_)⟩
      · exact ⟨_, rfl, _, _, rfl, rfl, .inl ⟨by decide, by decide⟩, _, _, rfl, rfl, kk _ (1 + 3 * step) H (by omega) (by omega) (Sb.refl _ _) hW⟩
      · have hs0 : spot ≠ 0 := fun z => c (decide_eq_true (by rw [z]; rfl))
        refine ⟨_, rfl, _, _, rfl, rfl, _, _, rfl, rfl, ⟨by decide, by decide⟩, _, _, rfl, rfl, .inr ⟨by decide, by decide⟩, _, _, rfl, rfl, _, rfl, _, _, rfl, rfl, ?_⟩
        refine kk _ (1 + (spot - 1) / 2 * 2 + step) H ?_ (by omega) (Sb.refl _ _) hW
        omega
    exact ⟨_, rfl, _, rfl, p, _, rfl, hW, by omega, by omega, fun d H1 d0 d1 sb hW1 => by
      obtain ⟨m, rfl⟩ := Int.eq_ofNat_of_zero_le d0
      exact k m H1 (by omega) sb hW1⟩
end
end My
namespace My
open PySem PySem.Spec PyProof.Rows L2 PySem.GX L2H LamX
abbrev stock : List Str := ["p", "pq", "q", "good", "maa", "signs", "ppq", "mab", "moods", "qqqqqqqq"]
def tagsL (f st n : Nat) : List Str := (List.range n).map fun k => stock.getD ((f + st * k) % 10) Str.empty
theorem tags_len (f st n : Nat) : (tagsL f st n).length = n := by unfold tagsL; rw [List.length_map, List.length_range]
theorem tags_ok : ∀ f, f < 10 → ∀ st ∈ [1, 3, 7, 9], ∀ n, n < 6 → 1 ≤ n → areMoodsL (tagsL f st n) = true := by decide +kernel
theorem filt_map (z : Str) : ∀ fs : List Str, (fs.filterMap fun t => if t = z then none else some (V.str t)) = (fs.filter fun t => !decide (t = z)).map V.str
  | [] => rfl
  | t :: r => by
    rw [List.filterMap_cons]
    by_cases htz : t = z
    · rw [if_pos htz, List.filter_cons_of_neg (by simp [htz])]
      exact filt_map z r
    · rw [if_neg htz, List.filter_cons_of_pos (by simp [htz]), List.map_cons, ← filt_map z r]
/-- a box stands at q -/
def BxAt (H : Hp) (q : Addr) (x : Str) (ws fs : List Str) (kvs : List (List Key × V)) : Prop := ∃ lw lf g, H q = some (.tup [.str x, .ref lw, .ref lf, .ref g]) ∧ H lw = some (.lst (ws.map V.str)) ∧ H lf = some (.lst (fs.map V.str)) ∧ H g = some (.dT kvs)
def spBox : Sp := fun vs H Q _ => ∃ (p : Addr) (x : Str), vs = [.ref p, .str x] ∧ Wl H p ∧ areSignsL [x] = true ∧ ∀ (q : Addr) (ws fs : List Str) (kvs : List (List Key × V)) (H' : Hp), Fine x ws fs kvs → ws.length ≤ 5 → kvs.length ≤ 15 → Sb p H H' → Wl H' p → BxAt H' q x ws fs kvs → Q (.ref q) H'
section
variable {P : Program} {w : World} {K : PySem.W.Frag} {mg : Str → Option Value} {base : Heap}
abbrev nBox : List Str := ["_law_purse_here", "_law_letters_here", "_law_count", "_law_way", "_law_size", "_law_stock", "_law_first_here", "_law_step", "_law_tags", "_law_goals", "_law_spot", "_law_at", "_law_fine", "_law_k", "_law_tag"]
theorem scBox : FnScope nBox ["_law_purse_here", "_law_letters_here"] (defScope sBox) := ⟨rfl, rfl, rfl, by decide +kernel, rfl, by decide +kernel, by decide +kernel⟩
def tWay : TS := fun D σ H => ∃ (a0 a1 : Option V) (count way : Nat), σ = [a0, a1, some (.int (count : Int)), some (.int (way : Int)), none, none, none, none, none, none, none, none, none, none, none] ∧ way < 6 ∧
  ∀ w' : Nat, w' < 6 → (w' = 4 → count = 2) → D.nx [a0, a1, some (.int (count : Int)), some (.int (w' : Int)), none, none, none, none, none, none, none, none, none, none, none] H
def tSub : TS := fun D σ H => ∃ (lf lt : Addr) (ws fs : List Str) (way : Nat) (v0 v1 v2 v4 v5 v6 v7 v9 v10 v11 : Option V), σ = [v0, v1, v2, some (.int (way : Int)), v4, v5, v6, v7, some (.ref lt), v9, v10, v11, some (.ref lf), none, none] ∧ H lf = some (.lst (fs.map V.str)) ∧ H lt = some (.lst (ws.map V.str)) ∧ ws ≠ [] ∧ fs.length ≤ 1000 ∧
  ∀ (lf' : Addr) (fs' : List Str) (H' : Hp), fs'.Sublist fs → Same H H' → H' lf' = some (.lst (fs'.map V.str)) → D.nx [v0, v1, v2, some (.int (way : Int)), v4, v5, v6, v7, some (.ref lt), v9, v10, v11, some (.ref lf'), none, none] H'
theorem ok_box {f : Addr} {fd : FuncData} (F : Fun K "_law_box" "_law_box" sBox f fd) (hP : Hv P w K mg base 1 "_law_pick" ["_law_purse_here", "_law_size"] spPk) (hA : Hv P w K mg base 2 "_law_aim" ["_law_purse_here", "_law_way", "_law_size", "_law_count", "_law_spot", "_law_step"] spAim) (hI : mg "int" = none) (hL : mg "len" = none) (hR : mg "range" = none) : FnOk P w K mg base CX0 3 f fd ["_law_purse_here", "_law_letters_here"] spBox := by
  refine F.ok scBox (fun vs H Q E h => ?_) (fun cdv A outer s H vs Q E hr h => ?_)
  · obtain ⟨p, x, rfl, _⟩ := h
    rfl
  · obtain ⟨p, x, rfl, hW, hx, k⟩ := h
    have hu := hu_of hr
    have hr1 : Room 1 (A.deeper (envOfC "_law_box" (defScope sBox) s.heap.objs.size f cdv)) := hr.mono (by decide)
    refine ⟨_, pss_cons (ps_par (i := 2) (j := 3) rfl scBox.nd rfl rfl (by decide) rfl rfl (pa_cons (pe_callB call_len_str (by rfl) hL PySem.boot_len (pa_cons (pv 1) pa_nil)) (pa_cons (pe_cl hP hr1 rfl pass0 (pa_cons (pv 0) (pa_cons pe_int pa_nil))) pa_nil)) rfl)
      (pss_cons (PS_imp (t' := tWay) (ps_if (PW.pt (pw_and (pt_cmpR op_eq (pv 3) pe_int (nomark _)) (pw_and1 (pt_cmpR op_ne (pv 2) pe_int (nomark _))))) (pss_one (ps_set (i := 3) scBox.nd rfl (Or.inl rfl) pe_int)) pss_nil) ?iWay)
      (pss_cons (ps_set (i := 4) scBox.nd rfl (Or.inl rfl) (pe_op op_add pe_int (pe_cl hP hr1 rfl pass0 (pa_cons (pv 0) (pa_cons pe_int pa_nil)))))
      (pss_cons (ps_set (i := 4) scBox.nd rfl (Or.inl rfl) (pe_ix ix_list (pe_lst (pa_cons (pv 4) (pa_cons (pv 2) (pa_cons (pe_op op_add (pv 2) pe_int) (pa_cons pe_int (pa_cons pe_int (pa_cons pe_int pa_nil))))))) (pv 3) (fun _ _ => rfl)))
      (pss_cons (ps_set (i := 5) scBox.nd rfl (Or.inr rfl) (pe_lst (pa_cons pe_str (pa_cons pe_str (pa_cons pe_str (pa_cons pe_str (pa_cons pe_str (pa_cons pe_str (pa_cons pe_str (pa_cons pe_str (pa_cons pe_str (pa_cons pe_str pa_nil))))))))))))
      (pss_cons (ps_asg (pe_tup (pa_cons (pe_cl hP hr1 rfl pass0 (pa_cons (pv 0) (pa_cons pe_int pa_nil))) (pa_cons (pe_ix ix_list (pe_lst (pa_cons pe_int (pa_cons pe_int (pa_cons pe_int (pa_cons pe_int pa_nil))))) (pe_cl hP hr1 rfl pass0 (pa_cons (pv 0) (pa_cons pe_int pa_nil))) (fun _ _ => rfl)) pa_nil)))
          (pg_tup rfl (pgs_cons (pg_name (i := 6) scBox.nd rfl (Or.inr rfl)) (pgs_cons (pg_name (i := 7) scBox.nd rfl (Or.inr rfl)) pgs_nil))))
      (pss_cons (ps_asg (pe_tup (pa_cons (pe_lc (own := [("_law_k", 13)]) (g := gName 13) (tt := tYes) rfl scBox.nd (pi_range1 rfl hR (pa_cons (pv 4) pa_nil)) (blkOk_by (N := nBox) (sc := defScope sBox) (by decide +kernel)) (fun _ _ _ _ _ => pg_name (i := 13) scBox.nd rfl (Or.inl rfl)) (fun _ _ _ _ _ => pts_nil)
            (fun _ _ _ _ _ => pe_ix (ix_listK (K := K) rfl) (pv 5) (pe_op op_mod (pe_callTy call_int1 (by rfl) hI (by decide +kernel) (pa_cons (pe_op op_add (pv 6) (pe_op op_mul (pv 7) (pv 13))) pa_nil)) pe_int) (fun _ _ => rfl))) (pa_cons pe_dnewT pa_nil)))
          (pg_tup rfl (pgs_cons (pg_name (i := 8) scBox.nd rfl (Or.inr rfl)) (pgs_cons (pg_name (i := 9) scBox.nd rfl (Or.inl rfl)) pgs_nil))))
      (pss_cons (ps_for PassesOwn.never rfl (pi_range1 rfl hR (pa_cons (pv 4) pa_nil)) (pg_name (i := 10) scBox.nd rfl (Or.inl rfl)) (pss_one (ps_for PassesOwn.never rfl (pi_range1 rfl hR (pa_cons (pv 2) pa_nil)) (pg_name (i := 11) scBox.nd rfl (Or.inl rfl))
          (pss_one (ps_dput hu (pv 9) (pe_tup (pa_cons (pe_ix ix_list (pv 8) (pv 10) (fun _ _ => rfl)) (pa_cons (pe_ix ix_str (pv 1) (pv 11) (fun _ _ => rfl)) pa_nil))) (pe_ix ix_list (pv 8) (pe_cl hA hr rfl pass0 (pa_cons (pv 0) (pa_cons (pv 3) (pa_cons (pv 4) (pa_cons (pv 2) (pa_cons (pv 10) (pa_cons (pv 11) pa_nil))))))) (fun _ _ => rfl)) rfl)))))
      (pss_cons (ps_setLc (i := 12) (own := [("_law_tag", 14)]) (g := gName 14) (by rfl) scBox.nd rfl rfl (sw_true rfl rfl rfl (by decide +kernel)) (pi_list (pv 8)) (blkOk_by (N := nBox) (sc := defScope sBox) (by decide +kernel)) (fun _ _ _ _ _ => pg_name (i := 14) scBox.nd rfl (Or.inl rfl))
            (fun _ _ _ _ _ => pts_one (pt_cmpR op_eq (pe_cl hP hr1 rfl pass0 (pa_cons (pv 0) (pa_cons pe_int pa_nil))) pe_int (nomark _))) (fun _ _ _ _ _ => pv 14))
      (pss_cons (PS_imp (t' := tSub) (ps_if (pt_cmpR op_eq (pv 3) pe_int (nomark _)) (pss_one (ps_setLc (i := 12) (own := [("_law_tag", 14)]) (g := gName 14) (by rfl) scBox.nd rfl rfl (sw_true rfl rfl rfl (by decide +kernel)) (pi_list (pv 12)) (blkOk_by (N := nBox) (sc := defScope sBox) (by decide +kernel)) (fun _ _ _ _ _ => pg_name (i := 14) scBox.nd rfl (Or.inl rfl))
            (fun _ _ _ _ _ => pts_one (pt_cmpR op_ne (pv 14) (pe_ix (ix_listK (K := K) rfl) (pv 8) (pe_un un_neg pe_int) (fun _ _ => rfl)) (nomark _))) (fun _ _ _ _ _ => pv 14))) pss_nil) ?iSub)
      (pss_one (ps_ret (pe_tup (pa_cons (pv 1) (pa_cons (pv 8) (pa_cons (pv 12) (pa_cons (pv 9) pa_nil)))))))))))))))), ?_⟩
    case iWay =>
      rintro D σ H ⟨a0, a1, count, way, rfl, hw, q⟩
      refine ⟨_, rfl, rfl, _, rfl, ite2 (fun c => ?_) (fun c => iteF (q way hw fun e => absurd (by rw [e]; exact decide_eq_true rfl) c))⟩
      refine ⟨_, rfl, rfl, _, rfl, ite2 (fun c2 => q 0 (by decide) (fun e => absurd e (by decide))) (fun c2 => q way hw fun _ => ?_)⟩
      apply Classical.byContradiction
      intro z
      apply c2
      simp
      omega
    case iSub =>
      rintro D σ H ⟨lf, lt, ws, fs, way, v0, v1, v2, v4, v5, v6, v7, v9, v10, v11, rfl, e1, e2, hne, hl, q⟩
      refine ⟨_, rfl, rfl, _, rfl, ite2 (fun c => ?_) (fun c => q lf fs H (List.Sublist.refl _) (Same.refl _) e1)⟩
      obtain ⟨ms, z, rfl⟩ : ∃ ms z, ws = ms ++ [z] := ⟨ws.dropLast, ws.getLast hne, (List.dropLast_concat_getLast hne).symm⟩
      refine ⟨_, rfl, lf, rfl, ⟨_, SqL.of e1⟩, fun D1 hD1 => ?_⟩
      refine lcG fs (fun t => if t = z then none else some (V.str t)) (walk_listL (K := K) (a := lf) fs V.str) (by omega) hD1 (yat_same _) (fun H' s' => SqL.of (s' _ _ e1)) (fun i t y H' H'' k1 ht sj hy k2 => ?_) (fun H6 s6 e6 => ?_)
      · obtain ⟨rfl, hy⟩ := hy
        have ey := map_get ht hy
        subst ey
        refine ⟨rfl, _, rfl, _, rfl, 1, rfl, lt, _, _, V.str z, rfl, rfl, SqL.of (sj _ _ e2), ?_, rfl, _, rfl, ?_⟩
        · rw [List.map_append]
          exact atI_last _ _
        · have k2 := k2 _ (Same.refl _)
          by_cases htz : t = z
          · rw [if_pos htz] at k2
            exact if_false_of (by rw [htz]; simp) k2
          · rw [if_neg htz] at k2
            refine ite2 (fun _ => ⟨_, rfl, k2⟩) (fun c => absurd ?_ c)
            simp [htz]
      · refine q D1 (fs.filter fun t => !decide (t = z)) H6 List.filter_sublist s6 ?_
        rw [e6]
        exact congrArg (fun z => some (HO.lst z)) (filt_map z fs)
    have hx3 : 1 ≤ x.length ∧ x.length ≤ 3 := by
      rw [areS1] at hx
      simp only [Bool.and_eq_true, decide_eq_true_eq] at hx
      exact ⟨hx.1.1.1, hx.1.1.2⟩
    have zx : x.length ≤ sizeLine := by rw [sizeLine_eq]; omega
    refine ⟨_, rfl, x, rfl, zx, _, rfl, p, 6, rfl, hW, by decide, by decide, fun wy H1 d0 d1 sb1 hW1 => ⟨_, _, rfl, ?_⟩⟩
    obtain ⟨way, rfl⟩ := Int.eq_ofNat_of_zero_le d0
    refine ⟨_, _, x.length, way, rfl, by omega, fun w' hw' hc => ?_⟩
    clear d0 d1
    refine ⟨_, rfl, p, 4, rfl, hW1, by decide, by decide, fun d H2 d0 d1 sb2 hW2 => ⟨_, _, rfl, rfl, ?_⟩⟩
    obtain ⟨m, rfl⟩ := Int.eq_ofNat_of_zero_le d0
    have sbA := sb1.trans sb2
    clear sb1 sb2 hW1 d0
    obtain ⟨size, hsz, hWO⟩ : ∃ size : Nat, ([V.int (1 + (m : Int)), V.int (x.length : Int), V.int ((x.length : Int) + 2), V.int 4, V.int 5, V.int 2] : List V)[w']? = some (V.int (size : Int)) ∧ WayOk w' size x.length := by
      unfold WayOk
      match w', hw', hc with
      | 0, _, _ => exact ⟨1 + m, by rw [show (((1 + m : Nat)) : Int) = 1 + (m : Int) by omega]; rfl, by omega⟩
      | 1, _, _ => exact ⟨x.length, rfl, by omega⟩
      | 2, _, _ => exact ⟨x.length + 2, by rw [show (((x.length + 2 : Nat)) : Int) = (x.length : Int) + 2 by omega]; rfl, by omega⟩
      | 3, _, _ => exact ⟨4, rfl, by omega⟩
      | 4, _, hc => exact ⟨5, rfl, by have := hc rfl; omega⟩
      | 5, _, _ => exact ⟨2, rfl, by omega⟩
    refine ⟨_, rfl, _, rfl, _, rfl, _, _, rfl, rfl, by show 6 ≤ sizeLine; decide, fun l6 h6 => ⟨_, rfl, l6, _, _, V.int (size : Int), rfl, rfl, SqL.of upd_same, atI_nat hsz, ?_⟩⟩
    have sbA := sbA.trans (Sb.of (same_new (o := .lst [V.int (1 + (m : Int)), V.int (x.length : Int), V.int ((x.length : Int) + 2), V.int 4, V.int 5, V.int 2]) h6))
    have hW2 := hW2.same (same_new (o := .lst [V.int (1 + (m : Int)), V.int (x.length : Int), V.int ((x.length : Int) + 2), V.int 4, V.int 5, V.int 2]) h6)
    generalize upd H2 l6 (.lst [V.int (1 + (m : Int)), V.int (x.length : Int), V.int ((x.length : Int) + 2), V.int 4, V.int 5, V.int 2]) = H3 at sbA hW2 ⊢
    clear h6 hsz
    refine ⟨by show 10 ≤ sizeLine; decide, fun ls hls => ?_⟩
    have els : upd H3 ls (.lst (stock.map V.str)) ls = some (.lst (stock.map V.str)) := upd_same
    have nls : ls ≠ p := hW2.new hls
    have sbA := sbA.trans (Sb.of (same_new (o := .lst (stock.map V.str)) hls))
    have hW2 := hW2.same (same_new (o := .lst (stock.map V.str)) hls)
    refine (fun (G : ∀ H4 : Hp, Sb p H H4 → Wl H4 p → H4 ls = some (.lst (stock.map V.str)) → _) => G _ sbA hW2 els) (fun H4 sbB hW4 els => ?_)
    clear sbA hW2 hls
    refine ⟨_, rfl, p, 10, rfl, hW4, by decide, by decide, fun fi H5 f0 f1 sb5 hW5 => ⟨by show 4 ≤ sizeLine; decide, fun l4 h4 => ?_⟩⟩
    obtain ⟨fz, rfl⟩ := Int.eq_ofNat_of_zero_le f0
    have els := sb5 _ _ nls els
    have n4 : l4 ≠ p := hW5.new h4
    have els := keep1 (o := .lst [.int 1, .int 3, .int 7, .int 9]) els h4
    have e4 : upd H5 l4 (.lst [.int 1, .int 3, .int 7, .int 9]) l4 = some (.lst [.int 1, .int 3, .int 7, .int 9]) := upd_same
    have sbC := (sbB.trans sb5).trans (Sb.of (same_new (o := .lst [.int 1, .int 3, .int 7, .int 9]) h4))
    have hW6 := hW5.same (same_new (o := .lst [.int 1, .int 3, .int 7, .int 9]) h4)
    generalize upd H5 l4 (.lst [.int 1, .int 3, .int 7, .int 9]) = H6 at els e4 sbC hW6 ⊢
    clear sbB sb5 hW5 h4 hW4
    refine ⟨_, rfl, p, 4, rfl, hW6, by decide, by decide, fun j H7 j0 j1 sb7 hW7 => ?_⟩
    obtain ⟨jn, rfl⟩ := Int.eq_ofNat_of_zero_le j0
    obtain ⟨st, hst, mst⟩ : ∃ st : Nat, ([V.int 1, V.int 3, V.int 7, V.int 9] : List V)[jn]? = some (V.int (st : Int)) ∧ st ∈ [1, 3, 7, 9] := by
      have : jn < 4 := by omega
      match jn, this with
      | 0, _ => exact ⟨1, rfl, by simp⟩
      | 1, _ => exact ⟨3, rfl, by simp⟩
      | 2, _ => exact ⟨7, rfl, by simp⟩
      | 3, _ => exact ⟨9, rfl, by simp⟩
    have els := sb7 _ _ nls els
    refine ⟨l4, _, _, V.int (st : Int), rfl, rfl, SqL.of (sb7 _ _ n4 e4), atI_nat hst, by show 2 ≤ sizeLine; decide, fun t1 ht1 => ⟨t1, _, rfl, SqT.of upd_same, rfl, _, _, rfl, _, _, rfl, rfl, ?_⟩⟩
    have els := keep1 (o := .tup [.int (fz : Int), .int (st : Int)]) els ht1
    have sbD := (sbC.trans sb7).trans (Sb.of (same_new (o := .tup [.int (fz : Int), .int (st : Int)]) ht1))
    have hW8 := hW7.same (same_new (o := .tup [.int (fz : Int), .int (st : Int)]) ht1)
    generalize upd H7 t1 (.tup [.int (fz : Int), .int (st : Int)]) = H8 at els sbD hW8 ⊢
    clear sbC sb7 hW6 hW7 ht1 e4 hst
    have st9 : st ≤ 9 := by simp at mst; omega
    have hz := hWO
    obtain ⟨_, _, _, _, z1, z5, _, _⟩ := hz
    have hmo := tags_ok fz (by omega) st mst size (by omega) z1
    refine ⟨_, rfl, (size : Int), rfl, by omega, by omega, fun D hD => ?_⟩
    refine lcG (List.range size) (fun k => some (V.str (stock.getD ((fz + st * k) % 10) Str.empty))) (by rw [List.length_range]; exact walk_range) (by rw [List.length_range]; omega) hD (fun i H x H' h => by rw [h.1]; exact Same.refl _) (fun _ _ => trivial) (fun i kk y H' H'' k1 hk sj hy k2 => ?_) (fun H9 s9 e9 => ?_)
    · obtain ⟨rfl, rfl⟩ := hy
      have hi : i < size := by
        have := (List.getElem?_eq_some_iff.mp hk).1
        rw [List.length_range] at this
        exact this
      have ek : kk = i := by
        rw [List.getElem?_range hi] at hk
        exact (Option.some.inj hk).symm
      subst ek
      refine ⟨rfl, _, rfl, _, rfl, _, rfl, _, rfl, _, _, rfl, rfl, .inl ⟨by show -(2 ^ 64 : Int) < (st : Int); omega, by show (st : Int) < 2 ^ 64; omega⟩, _, _, rfl, rfl, .inl ⟨_, rfl, _, _, rfl, rfl, (by show (0 : Int) < 10; decide), ls, _, _, V.str (stock.getD ((fz + st * kk) % 10) Str.empty), rfl, rfl, SqL.of (sj _ _ els), ?_, k2 _ (Same.refl _)⟩⟩
      have e1 : ((fz : Int) + (st : Int) * (0 + (kk : Int))) % 10 = (((fz + st * kk) % 10 : Nat) : Int) := by
        rw [Int.natCast_emod, Int.natCast_add, Int.natCast_mul, Int.zero_add]
        rfl
      show atI _ (((fz : Int) + (st : Int) * (0 + (kk : Int))) % 10) = _
      rw [e1]
      have lt10 : (fz + st * kk) % 10 < 10 := Nat.mod_lt _ (by decide)
      generalize (fz + st * kk) % 10 = r at lt10 ⊢
      refine atI_nat ?_
      have : ∀ r, r < 10 → stock[r]? = some (stock.getD r Str.empty) := by decide +kernel
      rw [List.getElem?_map, this r lt10]
      rfl
    · have ew : H9 D = some (.lst ((tagsL fz st size).map V.str)) := by
        rw [e9, List.filterMap_eq_map']
        unfold tagsL
        rw [List.map_map]
        rfl
      have lw := tags_len fz st size
      generalize tagsL fz st size = ws at ew hmo lw
      refine fun g hg => ⟨by show 2 ≤ sizeLine; decide, fun t2 ht2 => ⟨t2, _, rfl, SqT.of upd_same, rfl, _, _, rfl, _, _, rfl, rfl, ?_⟩⟩
      have nD : D ≠ p := hW8.new hD
      have hW9 := hW8.same s9
      have ng : g ≠ p := hW9.new hg
      have nDg : D ≠ g := ne_of_none ew hg
      have fgH : H g = none := (sbD.trans (Sb.of s9)).free ng hg
      have sm := (same_new (o := .dT []) hg).trans (same_new (o := .tup [.ref D, .ref g]) ht2)
      have eg : upd (upd H9 g (.dT [])) t2 (.tup [.ref D, .ref g]) g = some (.dT []) := keep1 upd_same ht2
      have ew6 := sm _ _ ew
      have s6 := (sbD.trans (Sb.of s9)).trans (Sb.of (p := p) sm)
      have hW6 := hW9.same sm
      generalize upd (upd H9 g (.dT [])) t2 (.tup [.ref D, .ref g]) = H10 at eg ew6 s6 hW6 ⊢
      clear sm ew hW9 ht2 hg e9 s9 sbD hW8 els hD
      refine ⟨_, rfl, (size : Int), rfl, by omega, by omega, for_range (n := size) (fun i σ H' => ∃ v10 v11 kvs, σ = [some (.ref p), some (.str x), some (.int (x.length : Int)), some (.int (w' : Int)), some (.int (size : Int)), some (.ref ls), some (.int (fz : Int)), some (.int (st : Int)), some (.ref D), some (.ref g), v10, v11, none, none, none] ∧ Wl H' p ∧ H' g = some (.dT kvs) ∧ Cv kvs ws (doneL (ws.take i) x) ∧ (∀ b o, b ≠ p → b ≠ g → H10 b = some o → H' b = some o))
        ⟨none, none, [], rfl, hW6, eg, ⟨Nat.zero_le _, fun d hd => by simp [doneL] at hd⟩, fun b o _ _ e => e⟩ (fun i σ H' hi h => ?_) (fun σ H' h => ?_)⟩
      · obtain ⟨v10, v11, kvs, rfl, hW7, eg7, cv, stt⟩ := h
        have hm : ws[i]? = some ws[i] := List.getElem?_eq_getElem (by omega)
        refine ⟨_, rfl, (x.length : Int), rfl, by omega, by omega, for_range (n := x.length) (fun j σ H' => ∃ v11 kvs, σ = [some (.ref p), some (.str x), some (.int (x.length : Int)), some (.int (w' : Int)), some (.int (size : Int)), some (.ref ls), some (.int (fz : Int)), some (.int (st : Int)), some (.ref D), some (.ref g), some (.int (0 + (i : Int))), v11, none, none, none] ∧ Wl H' p ∧ H' g = some (.dT kvs) ∧ Cv kvs ws (doneL (ws.take i) x ++ (x.cps.toList.take j).map fun c => (ws[i], c)) ∧ (∀ b o, b ≠ p → b ≠ g → H10 b = some o → H' b = some o))
          ⟨v11, kvs, rfl, hW7, eg7, by rw [List.take_zero, List.map_nil, List.append_nil]; exact cv, stt⟩ (fun j σ H8 hj h => ?_) (fun σ H8 h => ?_)⟩
        · obtain ⟨v11, kvs, rfl, hW8, eg8, cv, stt⟩ := h
          have hjl : j < x.cps.toList.length := by rw [Array.length_toList]; exact hj
          have hcj : x.cps.toList[j]? = some x.cps.toList[j] := List.getElem?_eq_getElem hjl
          generalize hcc : x.cps.toList[j] = c at hcj
          have et : (x.cps.toList.take (j + 1)).map (fun c => (ws[i], c)) = (x.cps.toList.take j).map (fun c => (ws[i], c)) ++ [(ws[i], c)] := by
            rw [List.take_add_one, hcj, List.map_append]
            rfl
          have ewn := stt _ _ nD nDg ew6
          refine ⟨_, rfl, _, rfl, _, rfl, _, rfl, _, rfl, _, rfl, _, rfl, p, w', size, x.length, i, j, ?_, hW8, hWO, hi, hj, fun u H9 hu' sb9 hW9 => ?_⟩
          · show [V.ref p, V.int (w' : Int), V.int (size : Int), V.int (x.length : Int), V.int (0 + (i : Int)), V.int (0 + (j : Int))] = _
            rw [Int.zero_add, Int.zero_add]
          have hzu : ws[u]? = some ws[u] := List.getElem?_eq_getElem (by omega)
          have mz : ws[u] ∈ ws := List.getElem_mem (by omega)
          generalize ws[u] = z at hzu mz
          refine ⟨D, _, _, V.str z, rfl, rfl, SqL.of (sb9 _ _ nD ewn), atI_nat (by rw [List.getElem?_map, hzu]; rfl), ?_⟩
          have eg9 := sb9 _ _ ng eg8
          have ew9 := sb9 _ _ nD ewn
          have st9 : ∀ b o', b ≠ p → b ≠ g → H10 b = some o' → H9 b = some o' := fun b o' n1 n2 e => sb9 _ _ n1 (stt b o' n1 n2 e)
          refine ⟨_, rfl, _, rfl, _, rfl, D, _, _, V.str ws[i], rfl, rfl, SqL.of ew9, ?_, _, rfl, _, rfl, x, _, c, rfl, rfl, zx, ?_, (by show 2 ≤ sizeLine; decide), fun t ht => ⟨g, _, rfl, .inr ⟨kvs, kT ws[i] c, t, keep1 eg9 ht, rfl, upd_same, ?_, rfl⟩, ?_⟩⟩
          · rw [Int.zero_add]
            exact atI_nat (by rw [List.getElem?_map, hm]; rfl)
          · rw [Int.zero_add]
            exact atI_nat hcj
          · have a1 := cv.1
            rw [List.length_append, done_len, List.length_take, List.length_map, List.length_take] at a1
            have a2 : min i ws.length * x.length ≤ 9 * 3 := Nat.mul_le_mul (by omega) (by omega)
            rw [sizeLine_eq]
            have a3 : min j x.cps.toList.length ≤ j := Nat.min_le_left ..
            omega
          · have nt : g ≠ t := ne_of_none eg9 ht
            refine ⟨_, _, rfl, ((hW9.same (same_new ht)).upd_ ng), upd_same, ?_, fun b o' n1 n2 e => ?_⟩
            · rw [et, ← List.append_assoc]
              exact cv.put mz
            · rw [upd_ne n2, upd_ne (ne_of_none (st9 b o' n1 n2 e) ht)]
              exact st9 b o' n1 n2 e
        · obtain ⟨v11, kvs, rfl, hW8, eg8, cv, stt⟩ := h
          refine ⟨_, _, kvs, rfl, hW8, eg8, ?_, stt⟩
          have : x.cps.toList.take x.length = x.cps.toList := by
            show x.cps.toList.take x.cps.size = _
            rw [← Array.length_toList, List.take_length]
          rw [this] at cv
          rw [done_take hm]
          exact cv
      · obtain ⟨v10, v11, kvs, rfl, hW7, eg7, cv, stt⟩ := h
        have etk : ws.take size = ws := by rw [← lw, List.take_length]
        rw [etk] at cv
        have ew7 := stt _ _ nD nDg ew6
        have s7 : Sb p H H' := fun b o n e => by
          have nb : b ≠ g := fun z => by rw [z, fgH] at e; cases e
          exact stt b o n nb (s6 b o n e)
        refine ⟨_, rfl, D, rfl, ⟨_, SqL.of ew7⟩, fun D3 hD3 => ?_⟩
        have nD3 : D3 ≠ p := hW7.new hD3
        refine lc_it (walk_listL ws V.str) (fun i H'' => Wl H'' p ∧ (∀ b o, b ≠ p → b ≠ D3 → H' b = some o → H'' b = some o) ∧ ∃ fs : List Str, fs.Sublist (ws.take i) ∧ H'' D3 = some (.lst (fs.map V.str)))
          ⟨hW7.upd_ nD3, fun b o n1 n2 e => by rw [upd_ne n2]; exact e, [], by simp, upd_same⟩ (fun i H'' _ h => SqL.of (h.2.1 _ _ nD (ne_of_none ew7 hD3) ew7)) (fun i y H8 H9 hi h hy => ?_) (fun H9 h => ?_)
        · obtain ⟨rfl, hy⟩ := hy
          have hm : ws[i]? = some ws[i] := List.getElem?_eq_getElem hi
          obtain rfl := map_get hm hy
          obtain ⟨hW8, st8, fs, sub, eD⟩ := h
          have etk' : ws.take (i + 1) = ws.take i ++ [ws[i]] := by rw [List.take_add_one, hm]; rfl
          refine ⟨rfl, _, rfl, p, 2, rfl, hW8, (by decide), (by decide), fun d Hx d0 d1 sbx hW9 => ⟨rfl, _, rfl, ite2 (fun c => ?_) (fun c => ?_)⟩⟩
          · refine ⟨_, rfl, _, sbx _ _ nD3 eD, ?_, hW9.upd_ nD3, fun b o' n1 n2 e => ?_, fs ++ [ws[i]], by rw [etk']; exact sub.append (List.Sublist.refl _), ?_⟩
            · have := sub.length_le
              rw [List.length_take] at this
              rw [List.length_map, sizeLine_eq]
              omega
            · rw [upd_ne n2]
              exact sbx _ _ n1 (st8 b o' n1 n2 e)
            · rw [upd_same, List.map_append]
              rfl
          · refine ⟨hW9, fun b o' n1 n2 e => sbx _ _ n1 (st8 b o' n1 n2 e), fs, ?_, sbx _ _ nD3 eD⟩
            rw [etk']
            exact sub.trans (List.sublist_append_left _ _)
        · obtain ⟨hW8, st8, fs, sub, eD⟩ := h
          rw [List.take_length] at sub
          have eg8 := st8 _ _ ng (ne_of_none eg7 hD3) eg7
          have ew8 := st8 _ _ nD (ne_of_none ew7 hD3) ew7
          have hne : ws ≠ [] := fun z => by rw [z] at lw; simp at lw; omega
          have fl : fs.length ≤ 1000 := by have := sub.length_le; omega
          refine ⟨D3, D, ws, fs, w', _, _, _, _, _, _, _, _, _, _, rfl, eD, ew8, hne, fl, fun lf fs' H11 sub' s11 elf => ?_⟩
          refine ⟨_, rfl, _, rfl, _, rfl, _, rfl, (by show 4 ≤ sizeLine; decide), fun q hq => ?_⟩
          have gl : ∀ t ∈ ws, ∀ c ∈ x.cps.toList, ∃ y ∈ ws, valV kvs (kT t c) = some (.str y) := fun t ht c hc => cv.2 (t, c) (List.mem_flatMap.mpr ⟨t, ht, List.mem_map.mpr ⟨c, hc, rfl⟩⟩)
          have lk : kvs.length ≤ 15 := by
            have := cv.1
            rw [done_len] at this
            have : ws.length * x.length ≤ 5 * 3 := Nat.mul_le_mul (by omega) (by omega)
            omega
          refine k q ws fs' kvs _ ⟨hx, hmo, sub'.trans sub, gl⟩ (by omega) lk (fun b o n e => ?_) ((hW8.same s11).same (same_new hq)) ⟨D, lf, g, upd_same, keep1 (s11 _ _ ew8) hq, keep1 elf hq, keep1 (s11 _ _ eg8) hq⟩
          have e7 := s7 b o n e
          exact keep1 (s11 _ _ (st8 b o n (ne_of_none e7 hD3) e7)) hq
end
end My
namespace My
open PySem PySem.Spec PyProof.Rows L2 PySem.GX L2H LamX
def spTextB : Sp := fun vs H Q _ => ∃ (q : Addr) (x : Str) (ws fs : List Str) (kvs : List (List Key × V)), vs = [.ref q] ∧ BxAt H q x ws fs kvs ∧ Short x ws fs kvs ∧ ∀ H', Same H H' → Q (.str (textL x ws fs kvs)) H'
/-- a box that tells the goals of p, whose moods begin otherwise -/
def BxF (H : Hp) (q : Addr) (p : Parts) (ws : List Str) : Prop := ∃ lw lf g kvs, H q = some (.tup [.str p.sg, .ref lw, .ref lf, .ref g]) ∧ H lw = some (.lst (ws.map V.str)) ∧ H lf = some (.lst (p.gs.map V.str)) ∧ H g = some (.dT kvs) ∧
  ∀ t ∈ p.ms, ∀ c ∈ p.sg.cps.toList, valV kvs (kT t c) = some (.str (ledL p t c))
theorem BxF.same {H H' : Hp} {q : Addr} {p : Parts} {ws : List Str} (h : BxF H q p ws) (s : Same H H') : BxF H' q p ws := by
  obtain ⟨lw, lf, g, kvs, a, b, c, d, e⟩ := h
  exact ⟨lw, lf, g, kvs, s _ _ a, s _ _ b, s _ _ c, s _ _ d, e⟩
theorem strs_ne3 (ws : List Str) (a b c : Int) : HO.lst (ws.map V.str) ≠ .lst [.int a, .int b, .int c] := fun z => by
  injection z with z
  cases ws with
  | nil => cases z
  | cons w t => injection z with z _; cases z
theorem BxF.sb {H H' : Hp} {q p0 : Addr} {p : Parts} {ws : List Str} (h : BxF H q p ws) (w : Wl H p0) (s : Sb p0 H H') : BxF H' q p ws := by
  obtain ⟨lw, lf, g, kvs, a, b, c, d, e⟩ := h
  refine ⟨lw, lf, g, kvs, s _ _ (w.ne a fun _ _ _ z => by cases z) a, s _ _ (w.ne b (strs_ne3 _)) b, s _ _ (w.ne c (strs_ne3 _)) c, s _ _ (w.ne d fun _ _ _ z => by cases z) d, e⟩
abbrev partsF (x : Str) (ws fs : List Str) (kvs : List (List Key × V)) : Parts := ⟨x, ws, fs, rsL x ws kvs⟩
theorem led_is {x : Str} {ws fs : List Str} {kvs : List (List Key × V)} (h : Fine x ws fs kvs) {t : Str} (ht : t ∈ ws) {c : Nat} (hc : c ∈ x.cps.toList) : valV kvs (kT t c) = some (.str (ledL (partsF x ws fs kvs) t c)) := by
  have e1 : ledL (partsF x ws fs kvs) t c = gf kvs t c := gf_is (fine_val h ht hc)
  obtain ⟨y, _, e2⟩ := h.gl t ht c hc
  rw [e1, e2, gf_is e2]
theorem bxF_of {H : Hp} {q : Addr} {x : Str} {ws fs : List Str} {kvs : List (List Key × V)} (h : Fine x ws fs kvs) (a : BxAt H q x ws fs kvs) : BxF H q (partsF x ws fs kvs) ws := by
  obtain ⟨lw, lf, g, a, b, c, d⟩ := a
  exact ⟨lw, lf, g, kvs, a, b, c, d, fun t ht c hc => led_is h ht hc⟩
theorem pok_of {x : Str} {ws fs : List Str} {kvs : List (List Key × V)} (h : Fine x ws fs kvs) : PartsOk (partsF x ws fs kvs) := parts_ok (fine_parse h)
def InS (p : Parts) (r : Str) : Prop := ∀ c ∈ r.cps.toList, c ∈ p.sg.cps.toList
def spEndB : Sp := fun vs H Q _ => ∃ (q : Addr) (p : Parts) (ws : List Str) (t r : Str), vs = [.ref q, .str t, .str r] ∧ BxF H q p ws ∧ PartsOk p ∧ t ∈ p.ms ∧ InS p r ∧ ∀ H', Same H H' → Q (.str (walkL p t r.cps.toList)) H'
section
variable {P : Program} {w : World} {K : PySem.W.Frag} {mg : Str → Option Value} {base : Heap}
abbrev nTextB : List Str := ["_law_box_here", "_law_lines", "_law_here", "_law_letter"]
theorem scTextB : FnScope nTextB ["_law_box_here"] (defScope sText) := ⟨rfl, rfl, rfl, by decide +kernel, rfl, by decide +kernel, by decide +kernel⟩
theorem ok_textB {f : Addr} {fd : FuncData} (F : Fun K "_law_text" "_law_text" sText f fd) : FnOk P w K mg base CX0 1 f fd ["_law_box_here"] spTextB := by
  refine F.ok scTextB (fun vs H Q E h => ?_) (fun cdv A outer s H vs Q E hr h => ?_)
  · obtain ⟨q, x, ws, fs, kvs, rfl, _⟩ := h
    rfl
  · obtain ⟨q, x, ws, fs, kvs, rfl, ⟨lw, lf, g, eq, ew, ef, eg⟩, sh, k⟩ := h
    refine ⟨_, pss_cons (ps_set (i := 1) scTextB.nd rfl (Or.inl rfl) (pe_lst (pa_cons (pe_op op_add_str pe_str (pe_ix ix_tup (pv 0) pe_int (fun _ _ => rfl))) (pa_cons (pe_join pe_str (pe_op op_cat (pe_lst (pa_cons pe_str pa_nil)) (pe_ix ix_tup (pv 0) pe_int (fun _ _ => rfl)))) (pa_cons (pe_join pe_str (pe_op op_cat (pe_lst (pa_cons pe_str pa_nil)) (pe_ix ix_tup (pv 0) pe_int (fun _ _ => rfl)))) pa_nil)))))
      (pss_cons (ps_for PassesOwn.never rfl (pi_list (pe_ix ix_tup (pv 0) pe_int (fun _ _ => rfl))) (pg_name (i := 2) scTextB.nd rfl (Or.inl rfl)) (pss_one (ps_for PassesOwn.never rfl (pi_str (pe_ix ix_tup (pv 0) pe_int (fun _ _ => rfl))) (pg_name (i := 3) scTextB.nd rfl (Or.inl rfl))
          (pss_one (ps_expr (pe_bm PySem.F.plainAttrs_list PySem.F.slot_list_append PySem.F.type_list_append mt_append (pv 1) (pa_cons (pe_op op_add_str (pe_op op_add_str (pe_op op_add_str (pe_op op_add_str (pv 2) pe_str) (pv 3)) pe_str) (pe_dget (hu_of hr) (pe_ix ix_tup (pv 0) pe_int (fun _ _ => rfl)) (pe_tup (pa_cons (pv 2) (pa_cons (pv 3) pa_nil))) (fun _ _ => rfl))) pa_nil)))))))
      (pss_one (ps_ret (pe_join pe_str (pv 1))))), ?_⟩
    have esp : (Str.ofString " ") = sp := by decide +kernel
    have enl : (Str.ofString "\n") = nl := by decide +kernel
    have hs := lines_short sh
    have z := sh.hx
    have z1 := sh.nw
    have z2 := sh.nf
    refine ⟨_, rfl, q, _, _, V.str x, rfl, rfl, SqT.of eq, atI_nat (j := 0) rfl, _, _, rfl, rfl, ?_, ?_⟩
    · have : ("signs " : Str).length = 6 := by decide +kernel
      rw [sizeLine_eq]
      omega
    refine ⟨⟨_, rfl⟩, (by show 1 ≤ sizeLine; decide), fun a1 h1 => ⟨_, rfl, q, _, _, V.ref lw, rfl, rfl, SqT.of (keep1 eq h1), atI_nat (j := 1) rfl, a1, lw, _, _, rfl, rfl, upd_same, keep1 ew h1, ?_, fun a2 h2 => ?_⟩⟩
    · rw [List.length_map, sizeLine_eq]
      simp
      omega
    have s2 := (same_new (o := .lst [V.str ("moods" : Str)]) h1).trans (same_new (o := .lst ([V.str ("moods" : Str)] ++ ws.map V.str)) h2)
    refine ⟨_, a2, ("moods" : Str) :: ws, rfl, rfl, .inl (SqL.of upd_same), ?_, ?_⟩
    · have b := sum_le sh.lw
      have c : ("moods" : Str).length = 5 := by decide +kernel
      have d : (Str.ofString " ").length = 1 := by decide +kernel
      rw [List.map_cons, List.sum_cons, List.length_cons, c, d]
      omega
    generalize upd (upd H a1 (.lst [V.str ("moods" : Str)])) a2 (.lst ([V.str ("moods" : Str)] ++ ws.map V.str)) = H2 at s2 ⊢
    refine ⟨⟨_, rfl⟩, (by show 1 ≤ sizeLine; decide), fun a3 h3 => ⟨_, rfl, q, _, _, V.ref lf, rfl, rfl, SqT.of (keep1 (s2 _ _ eq) h3), atI_nat (j := 2) rfl, a3, lf, _, _, rfl, rfl, upd_same, keep1 (s2 _ _ ef) h3, ?_, fun a4 h4 => ?_⟩⟩
    · rw [List.length_map, sizeLine_eq]
      simp
      omega
    have s4 := (s2.trans (same_new (o := .lst [V.str ("good" : Str)]) h3)).trans (same_new (o := .lst ([V.str ("good" : Str)] ++ fs.map V.str)) h4)
    refine ⟨_, a4, ("good" : Str) :: fs, rfl, rfl, .inl (SqL.of upd_same), ?_, ?_⟩
    · have b := sum_le sh.lf
      have c : ("good" : Str).length = 4 := by decide +kernel
      have d : (Str.ofString " ").length = 1 := by decide +kernel
      rw [List.map_cons, List.sum_cons, List.length_cons, c, d]
      omega
    generalize upd (upd H2 a3 (.lst [V.str ("good" : Str)])) a4 (.lst ([V.str ("good" : Str)] ++ fs.map V.str)) = H4 at s4 ⊢
    refine ⟨(by show 3 ≤ sizeLine; decide), fun l0 h0 => ?_⟩
    rw [esp]
    have s5 := s4.trans (same_new (o := .lst ((headL x ws fs).map V.str)) h0)
    have e5 : upd H4 l0 (.lst ((headL x ws fs).map V.str)) l0 = some (.lst ((headL x ws fs).map V.str)) := upd_same
    have eq5 := s5 _ _ eq
    have ew5 := s5 _ _ ew
    have eg5 := s5 _ _ eg
    have nq : q ≠ l0 := ne_of_none (s4 _ _ eq) h0
    have nw : lw ≠ l0 := ne_of_none (s4 _ _ ew) h0
    have ng : g ≠ l0 := ne_of_none (s4 _ _ eg) h0
    have fl : ∀ b o, H b = some o → b ≠ l0 := fun b o e => ne_of_none (s4 _ _ e) h0
    show ∃ a, _
    generalize eH5 : upd H4 l0 (.lst ((headL x ws fs).map V.str)) = H5 at s5 e5 eq5 ew5 eg5
    have eH5' : upd H4 l0 (.lst [V.str (("signs " : Str) ++ x), V.str (Txt.join sp (("moods" : Str) :: ws)), V.str (Txt.join sp (("good" : Str) :: fs))]) = H5 := eH5
    rw [eH5']
    refine ⟨_, rfl, q, _, _, V.ref lw, rfl, rfl, SqT.of eq5, atI_nat (j := 1) rfl, lw, rfl, ⟨_, SqL.of ew5⟩, ?_⟩
    refine for_it (walk_listL ws V.str) (fun i σ H' => ∃ (v2 v3 : Option V), σ = [some (.ref q), some (.ref l0), v2, v3] ∧ Sb l0 H5 H' ∧ H' l0 = some (.lst ((headL x ws fs ++ bodyL x (ws.take i) kvs).map V.str)))
      ⟨none, none, rfl, Sb.refl _ _, by rw [List.take_zero]; exact e5⟩ (fun i σ H' _ h => ?_) (fun i y σ H' H'' hi h hy => ?_) (fun σ H' h => ?_)
    · obtain ⟨v2, v3, rfl, st, _⟩ := h
      exact SqL.of (st _ _ nw ew5)
    · obtain ⟨rfl, hy⟩ := hy
      have hm : ws[i]? = some ws[i] := List.getElem?_eq_getElem hi
      obtain rfl := map_get hm hy
      obtain ⟨v2, v3, rfl, st, el⟩ := h
      refine ⟨_, rfl, q, _, _, V.str x, rfl, rfl, SqT.of (st _ _ nq eq5), atI_nat (j := 0) rfl, x, rfl, ?_⟩
      refine for_it walk_str (fun j σ H' => ∃ (v3 : Option V), σ = [some (.ref q), some (.ref l0), some (.str ws[i]), v3] ∧ Sb l0 H5 H' ∧ H' l0 = some (.lst ((headL x ws fs ++ bodyL x (ws.take i) kvs ++ (x.cps.toList.take j).map fun c => lineL kvs ws[i] c).map V.str)))
        ⟨v3, rfl, st, by rw [List.take_zero, List.map_nil, List.append_nil]; exact el⟩ (fun _ _ _ _ _ => trivial) (fun j y σ H7 H8 hj h hy => ?_) (fun σ H7 h => ?_)
      · obtain ⟨rfl, c, hc, rfl⟩ := hy
        obtain ⟨v3, rfl, st7, el7⟩ := h
        rw [← Array.getElem?_toList] at hc
        have hmw : ws[i] ∈ ws := List.getElem_mem hi
        have hcx : c ∈ x.cps.toList := List.mem_of_getElem? hc
        obtain ⟨gy, lg, egy⟩ := sh.gl ws[i] hmw c hcx
        have lt := sh.lw ws[i] hmw
        have d : (sp : Str).length = 1 := rfl
        have d2 : ({ cps := #[c] } : Str).length = 1 := rfl
        refine ⟨_, rfl, .inl ⟨rfl, _, SqL.of el7⟩, _, rfl, _, _, rfl, rfl, (by rw [sizeLine_eq]; omega), _, rfl, _, _, rfl, rfl, (by rw [sizeLine_eq, len_app]; omega), _, _, rfl, rfl, (by rw [sizeLine_eq, len_app, len_app]; omega), _, rfl, q, _, _, V.ref g, rfl, rfl, SqT.of (st7 _ _ nq eq5), atI_nat (j := 3) rfl, _, rfl, _, rfl, (by show 2 ≤ sizeLine; decide), fun t ht => ?_⟩
        refine ⟨g, V.str gy, rfl, ?_, _, _, rfl, rfl, ?_, l0, _, _, rfl, rfl, keep1 el7 ht, ?_, ?_⟩
        · have := DGet.t (k := kT ws[i] c) (keep1 (st7 _ _ ng eg5) ht) (upd_same (o := .tup ((kT ws[i] c).map kV)))
          rw [egy] at this
          exact this
        · rw [sizeLine_eq, len_app, len_app, len_app]
          omega
        · have a1 : (headL x ws fs ++ bodyL x (ws.take i) kvs).length ≤ 63 := by
            rw [List.length_append, body_len, List.length_take]
            have : min i ws.length * x.length ≤ 20 * 3 := Nat.mul_le_mul (by omega) z
            show 3 + _ ≤ 63
            omega
          have a2 : ((x.cps.toList.take j).map fun c => lineL kvs ws[i] c).length ≤ 3 := by
            rw [List.length_map, List.length_take, Array.length_toList]
            exact Nat.le_trans (Nat.min_le_right ..) z
          rw [List.length_map, List.length_append, sizeLine_eq]
          omega
        · refine ⟨_, rfl, fun b o n e => ?_, ?_⟩
          · rw [upd_ne n]
            exact keep1 (st7 _ _ n e) ht
          · rw [upd_same, List.take_add_one, hc]
            show some (HO.lst (_ ++ [V.str _])) = _
            rw [List.map_append (f := fun c => lineL kvs ws[i] c), ← List.append_assoc, List.map_append (f := V.str) (l₂ := List.map (fun c => lineL kvs ws[i] c) (some c).toList)]
            have e9 : V.str (ws[i] ++ sp ++ { cps := #[c] } ++ sp ++ gy) = V.str (lineL kvs ws[i] c) := by
              unfold lineL
              rw [gf_is egy]
            exact congrArg (fun z => some (HO.lst (_ ++ [z]))) e9
      · obtain ⟨v3, rfl, st7, el7⟩ := h
        refine ⟨_, _, rfl, st7, ?_⟩
        have : x.cps.toList.take x.cps.size = x.cps.toList := by rw [← Array.length_toList, List.take_length]
        rw [this] at el7
        rw [body_take hm, ← List.append_assoc]
        exact el7
    · obtain ⟨v2, v3, rfl, st, el⟩ := h
      rw [List.take_length] at el
      refine ⟨⟨_, rfl⟩, _, rfl, _, l0, linesL x ws fs kvs, rfl, rfl, .inl (SqL.of el), ?_, ?_⟩
      · have b := sum_le hs.2
        have c := hs.1
        have d : (Str.ofString "\n").length = 1 := by decide +kernel
        have e : (linesL x ws fs kvs).length * 200 ≤ 63 * 200 := Nat.mul_le_mul_right _ c
        rw [d]
        omega
      · rw [enl]
        exact k _ fun b o e => st _ _ (fl b o e) (s5 _ _ e)
end
end My
namespace My
open PySem PySem.Spec PyProof.Rows L2 PySem.GX L2H LamX
def walksL (p : Parts) (t : Str) (rs : List Str) : Str := rs.foldl (fun m r => walkL p m r.cps.toList) t
theorem walks_one (p : Parts) (t r : Str) : walksL p t [r] = walkL p t r.cps.toList := rfl
theorem walks_mem {p : Parts} (ok : PartsOk p) : ∀ (rs : List Str) (t : Str), t ∈ p.ms → (∀ r ∈ rs, InS p r) → walksL p t rs ∈ p.ms
  | [], _, ht, _ => ht
  | r :: rs, t, ht, h => walks_mem ok rs _ (walk_mem ok r.cps.toList t ht (h r (by simp))) fun z hz => h z (by simp [hz])
theorem walks_snoc (p : Parts) (t r : Str) (rs : List Str) : walksL p t (rs ++ [r]) = walkL p (walksL p t rs) r.cps.toList := by
  unfold walksL
  rw [List.foldl_append]
  rfl
def spRuleOf (C : Addr) : Sp := fun vs H Q _ => ∃ (t : Str) (p : Parts), vs = [.str t] ∧ t.length ≤ 1000000 ∧ PyData.strOk t = true ∧ parseL t = some p ∧ ∀ (a : Addr) (H' : Hp), Same H H' → RuleAt H' C a t p → Q (.ref a) H'
def spWalked (C : Addr) : Sp := fun vs H Q _ => ∃ (a l : Addr) (tx t : Str) (p : Parts) (rs : List Str), vs = [.ref a, .str t, .ref l] ∧ RuleAt H C a tx p ∧ PartsOk p ∧ t ∈ p.ms ∧ H l = some (.lst (rs.map V.str)) ∧ (∀ r ∈ rs, InS p r) ∧ ∀ H', Same H H' → Q (.str (walksL p t rs)) H'
def spEndsG (C : Addr) : Sp := fun vs H Q _ => ∃ (a l : Addr) (tx t : Str) (p : Parts) (rs : List Str), vs = [.ref a, .str t, .ref l] ∧ RuleAt H C a tx p ∧ PartsOk p ∧ t ∈ p.ms ∧ H l = some (.lst (rs.map V.str)) ∧ (∀ r ∈ rs, InS p r) ∧ ∀ H', Same H H' → Q (.bl (decide (walksL p t rs ∈ p.gs))) H'
/-- the property x of the class tells the field y -/
def PrF (P : Program) (w : World) (K : PySem.W.Frag) (mg : Str → Option Value) (base : Heap) (C : Addr) (x y : Str) : Prop := ∃ (p g : Addr) (fd : FuncData), PropOf K C x p g ∧ FnOk P w K mg base CX0 1 g fd ["self"] (getSp C y) ∧ Binds K fd ["self"] []
section
variable {P : Program} {w : World} {K : PySem.W.Frag} {mg : Str → Option Value} {base : Heap}
theorem scRuleOf : FnScope ["text"] ["text"] (defScope sRuleOf) := ⟨rfl, rfl, rfl, by decide +kernel, rfl, by decide +kernel, by decide +kernel⟩
theorem ok_ruleOf {f C C0 fI : Addr} {fd fdI : FuncData} (F : Fun K "rule_of" "rule_of" sRuleOf f fd) (MI : Mk K C fI) (GI : FnOk P w K mg base CX0 5 fI fdI ["self", "text"] (spInit C)) (bI : Binds K fdI ["self", "text"] []) (gI : mg "Rule" = some (.ref C)) (gT : mg "InvalidText" = some (.ref C0)) :
    FnOk P w K mg base CX0 7 f fd ["text"] (spRuleOf C) := by
  refine F.ok scRuleOf (fun vs H Q E h => ?_) (fun cdv A outer s H vs Q E hr h => ?_)
  · obtain ⟨t, p, rfl, _⟩ := h
    rfl
  · obtain ⟨t, p, rfl, zt, ot, pt, k⟩ := h
    refine ⟨_, pss_one (ps_try_only (c := .ref C0) rfl rfl ⟨rfl, by decide, .inl gT⟩ LamX.takes0 (fun W pn xe tk _ => pss_one (ps_ret (pe_make MI GI hr rfl gI bI .nil pass0 (pa_cons (pv 0) pa_nil)))) (fun a oe cls d pn _ _ => pss_one (ps_ret pe_non))), ?_⟩
    refine ⟨_, rfl, fun y dy ny ndy ne => ?_⟩
    have sm : Same H (upd (upd H dy (.own y)) y (.ins C dy [])) := (same_new ndy).trans (same_new (by rw [upd_ne ne.symm]; exact ny))
    exact ⟨y, dy, t, p, rfl, upd_same, zt, ot, pt, fun H6 keep rA => ⟨rfl, k y H6 (fun b o e => keep b o (ne_of_none e ny) (sm b o e)) rA⟩⟩
abbrev nWalked : List Str := ["rule", "mood", "rows", "row", "sign"]
theorem scWalked : FnScope nWalked ["rule", "mood", "rows"] (defScope sWalked) := ⟨rfl, rfl, rfl, by decide +kernel, rfl, by decide +kernel, by decide +kernel⟩
theorem ok_walked {f C : Addr} {fd : FuncData} (F : Fun K "walked" "walked" sWalked f fd) (T : RuC K C) : FnOk P w K mg base CX0 1 f fd ["rule", "mood", "rows"] (spWalked C) := by
  refine F.ok scWalked (fun vs H Q E h => ?_) (fun cdv A outer s H vs Q E hr h => ?_)
  · obtain ⟨a, l, tx, t, p, rs, rfl, _⟩ := h
    rfl
  · obtain ⟨a, l, tx, t, p, rs, rfl, ⟨dx, M, G, D, e1, e2, e3, e4⟩, ok, ht, el, hin, k⟩ := h
    refine ⟨_, pss_cons (ps_for PassesOwn.never rfl (pi_list (pv 2)) (pg_name (i := 3) scWalked.nd rfl (Or.inl rfl)) (pss_one (ps_for PassesOwn.never rfl (pi_str (pv 3)) (pg_name (i := 4) scWalked.nd rfl (Or.inl rfl))
        (pss_one (ps_set (i := 1) scWalked.nd rfl (Or.inl rfl) (pe_dget (hu_of hr) (pe_fld (pv 0) rfl) (pe_tup (pa_cons (pv 1) (pa_cons (pv 4) pa_nil))) (fun _ _ => rfl)))))))
      (pss_one (ps_ret (pv 1))), ?_⟩
    refine ⟨_, rfl, l, rfl, ⟨_, SqL.of el⟩, ?_⟩
    refine for_it (walk_listL rs V.str) (fun i σ H' => ∃ v3 v4, σ = [some (.ref a), some (.str (walksL p t (rs.take i))), some (.ref l), v3, v4] ∧ Same H H') ⟨none, none, rfl, Same.refl _⟩ (fun i σ H' _ h => ?_) (fun i y σ H' H'' hi h hy => ?_) (fun σ H' h => ?_)
    · obtain ⟨_, _, _, st⟩ := h
      exact SqL.of (st _ _ el)
    · obtain ⟨rfl, hy⟩ := hy
      have hm : rs[i]? = some rs[i] := List.getElem?_eq_getElem hi
      obtain rfl := map_get hm hy
      obtain ⟨v3, v4, rfl, st⟩ := h
      have hrm : rs[i] ∈ rs := List.getElem_mem hi
      have hmt := walks_mem ok (rs.take i) t ht fun r hr => hin r (List.mem_of_mem_take hr)
      have esn : walksL p t (rs.take (i + 1)) = walkL p (walksL p t (rs.take i)) rs[i].cps.toList := by
        rw [List.take_add_one, hm]
        exact walks_snoc _ _ _ _
      rw [esn]
      generalize walksL p t (rs.take i) = t1 at hmt
      have hir := hin _ hrm
      generalize rs[i] = r at hir
      refine ⟨_, rfl, r, rfl, ?_⟩
      refine for_it walk_str (fun j σ H' => ∃ v4, σ = [some (.ref a), some (.str (walkL p t1 (r.cps.toList.take j))), some (.ref l), some (.str r), v4] ∧ Same H H') ⟨v4, rfl, st⟩ (fun _ _ _ _ _ => trivial) (fun j y σ H2 H3 hj h hy => ?_) (fun σ H2 h => ?_)
      · obtain ⟨rfl, c, hc, rfl⟩ := hy
        obtain ⟨v4, rfl, s2⟩ := h
        have hc' : r.cps.toList[j]? = some c := by rw [Array.getElem?_toList]; exact hc
        have hm := walk_mem ok (r.cps.toList.take j) t1 hmt fun d hd => hir d (List.mem_of_mem_take hd)
        have hg := ok.goal hm (hir c (List.mem_of_getElem? hc'))
        refine ⟨_, rfl, a, C, dx, _, .ref D, rfl, s2 _ _ e1, T.cl, T.f5, rfl, _, rfl, _, rfl, (by show 2 ≤ sizeLine; decide), fun t' ht' => ⟨D, .str (ledL p (walkL p t1 (r.cps.toList.take j)) c), rfl, ?_, ?_⟩⟩
        · have := DGet.t (k := kT (walkL p t1 (r.cps.toList.take j)) c) (keep1 (s2 _ _ e4) ht') (upd_same (o := .tup ((kT (walkL p t1 (r.cps.toList.take j)) c).map kV)))
          rw [hg.2] at this
          exact this
        · refine ⟨some (.str (sg c)), ?_, s2.trans (same_new ht')⟩
          rw [List.take_add_one, hc']
          show _ = [_, some (V.str (walkL p t1 (r.cps.toList.take j ++ [c]))), _, _, _]
          unfold walkL
          rw [List.foldl_append]
          rfl
      · obtain ⟨v4, rfl, s2⟩ := h
        have : r.cps.toList.take r.cps.size = r.cps.toList := by rw [← Array.length_toList, List.take_length]
        rw [this]
        exact ⟨_, _, rfl, s2⟩
    · obtain ⟨v3, v4, rfl, st⟩ := h
      rw [List.take_length]
      exact ⟨_, rfl, k _ st⟩
theorem scEndsG : FnScope ["rule", "mood", "rows"] ["rule", "mood", "rows"] (defScope sEndsG) := ⟨rfl, rfl, rfl, by decide +kernel, rfl, by decide +kernel, by decide +kernel⟩
theorem ok_endsG {f C : Addr} {fd : FuncData} (F : Fun K "ends_good" "ends_good" sEndsG f fd) (T : RuC K C) (hW : Hv P w K mg base 1 "walked" ["rule", "mood", "rows"] (spWalked C)) (pG : PrF P w K mg base C "good" "chosen") : FnOk P w K mg base CX0 3 f fd ["rule", "mood", "rows"] (spEndsG C) := by
  obtain ⟨pp, gp, fdp, PP, GP, bP⟩ := pG
  refine F.ok scEndsG (fun vs H Q E h => ?_) (fun cdv A outer s H vs Q E hr h => ?_)
  · obtain ⟨a, l, tx, t, p, rs, rfl, _⟩ := h
    rfl
  · obtain ⟨a, l, tx, t, p, rs, rfl, hA, ok, ht, el, hin, k⟩ := h
    refine ⟨_, pss_one (ps_ret (pe_cmpR op_in_seq (pe_cl hW (hr.mono (by decide)) rfl pass0 (pa_cons (pv 0) (pa_cons (pv 1) (pa_cons (pv 2) pa_nil)))) (pe_prop (pv 0) T.cl PP GP hr bP .nil pass0 (by rfl)) (by rfl))), ?_⟩
    refine ⟨_, rfl, _, rfl, _, rfl, a, l, tx, t, p, rs, rfl, hA, ok, ht, el, hin, fun H1 s1 => ?_⟩
    obtain ⟨dx, M, G, D, e1, e2, e3, e4⟩ := hA.same s1
    refine ⟨_, rfl, a, dx, _, rfl, e1, a, dx, _, .ref G, rfl, e1, rfl, G, _, rfl, .inr (SqT.of e3), rfl, flat_strs _, ?_⟩
    show Q (.bl (inV (.str (walksL p t rs)) (p.gs.map V.str))) H1
    rw [in_strs]
    exact k _ s1
end
end My
namespace My
open PySem PySem.Spec PyProof.Rows L2 PySem.GX L2H LamX
def spInB (K : PySem.W.Frag) : Sp := fun vs H Q _ => ∃ (v : V) (d : PyData) (lo hi : Int), vs = [v, .int lo, .int hi] ∧ Sh K H v d ∧ Q (.bl (inb d lo hi)) H
section
variable {P : Program} {w : World} {K : PySem.W.Frag} {mg : Str → Option Value} {base : Heap}
theorem scInB : FnScope ["value", "low", "high"] ["value", "low", "high"] (defScope sBounds) := ⟨rfl, rfl, rfl, by decide +kernel, rfl, by decide +kernel, by decide +kernel⟩
theorem ok_inb {f : Addr} {fd : FuncData} (F : Fun K "in_bounds" "in_bounds" sBounds f fd) (hIs : mg "isinstance" = none) (hI : mg "int" = none) (hB : mg "bool" = none) : FnOk P w K mg base CX0 1 f fd ["value", "low", "high"] (spInB K) := by
  refine F.ok scInB (fun vs H Q E h => ?_) (fun cdv A outer s H vs Q E hr h => ?_)
  · obtain ⟨v, d, lo, hi, rfl, _⟩ := h
    rfl
  · obtain ⟨v, d, lo, hi, rfl, hd, k⟩ := h
    refine ⟨_, pss_one (ps_ret (pe_and (pe_callB call_isi (by rfl) hIs (by decide +kernel) (pa_cons (pv 0) (pa_cons (pe_bltn (v := .ty "int") (by rfl) hI (by decide +kernel) rfl) pa_nil)))
        (pe_and (pe_not (pe_callB call_isi (by rfl) hIs (by decide +kernel) (pa_cons (pv 0) (pa_cons (pe_bltn (v := .ty "bool") (by rfl) hB (by decide +kernel) rfl) pa_nil))))
        (pe_one (pe_chain op_le op_le (pv 1) (pv 0) (pv 2)))))), ?_⟩
    obtain ⟨ty, hty, k1, k2, _⟩ := sh_kit hd
    refine ⟨_, rfl, v, .ty "int", ty, .type "int", isI d, rfl, .ty _, hty, k1, _, rfl, ite2 (fun c1 => ?_) (fun c1 => ?_)⟩
    · refine ⟨_, rfl, v, .ty "bool", ty, .type "bool", isB d, rfl, .ty _, hty, k2, _, rfl, _, rfl, ite2 (fun c2 => ?_) (fun c2 => ?_)⟩
      · match d, hd, c1, c2, k with
        | .int i, hd, _, _, k =>
          obtain rfl := sh_int hd
          refine ⟨_, rfl, _, rfl, _, _, rfl, rfl, _, rfl, ite2 (fun c3 => ⟨_, rfl, _, _, rfl, rfl, ?_⟩) (fun c3 => ?_)⟩
          · have e : inb (.int i) lo hi = decide (i ≤ hi) := by
              show (decide (lo ≤ i) && decide (i ≤ hi)) = _
              rw [c3, Bool.true_and]
            rw [e] at k
            exact k
          · have e : inb (.int i) lo hi = false := by
              show (decide (lo ≤ i) && decide (i ≤ hi)) = _
              rw [Bool.eq_false_iff.mpr c3, Bool.false_and]
            rw [e] at k
            exact k
      · have e : inb d lo hi = false := by
          match d, c2 with
          | .bool b, _ => rfl
          | .int i, c2 => exact absurd rfl c2
          | .none, _ => rfl
          | .str _, _ => rfl
          | .list _, _ => rfl
          | .tuple _, _ => rfl
          | .dict _, _ => rfl
        rw [e] at k
        exact k
    · have e : inb d lo hi = false := by
        match d, c1 with
        | .int i, c1 => exact absurd rfl c1
        | .bool b, _ => rfl
        | .none, _ => rfl
        | .str _, _ => rfl
        | .list _, _ => rfl
        | .tuple _, _ => rfl
        | .dict _, _ => rfl
      rw [e] at k
      exact k
end
end My
namespace My
open PySem PySem.Spec PyProof.Rows L2 PySem.GX L2H LamX
theorem walkT {α : Type} {K : PySem.W.Frag} {a : Addr} (xs : List α) (f : α → V) : Walk (Itt K a) xs.length (fun H => SqT K H a (xs.map f)) (YAt (xs.map f)) := by
  have := walk_tup (K := K) (a := a) (xs := xs.map f)
  rw [List.length_map] at this
  exact this
end My
set_option pp.maxSteps 1500
namespace My
open PySem PySem.Spec PyProof.Rows L2 PySem.GX L2H NdefX LamX
/-! pair_test: whether a pair of moods is what is looked for -/
theorem unhide_same {H H' : Hp} {cs : List Addr} (s : Same (hide H cs) H') : Same H (unhide H cs H') := fun b o e => by
  by_cases h : b ∈ cs
  · rw [unhide_in h]; exact e
  · rw [unhide_out h]; exact s b o (by rw [hide_out h]; exact e)
/-- a test of two Bools -/
def spB (ft : Bool → Bool → Bool) : List (Option V) → Sp := fun _ vs H Q _ => ∃ x y : Bool, vs = [.bl x, .bl y] ∧ ∀ H', Same H H' → Q (.bl (ft x y)) H'
abbrev lamTest := lamOf ((defBody sPairTest).drop 2)
abbrev qTest : Str := ("pair_test.<locals>.<lambda>" : Str)
def mkTest (cl : List (Str × Addr)) (c' : Addr) : NF := ⟨"<lambda>", qTest, lamTest.1, [], lamTest.2.2, cl, c'⟩
abbrev nTest : List Str := ["pair", "good_one", "good_other", "test"]
theorem scTest : NScope nTest ["pair"] ["good_one", "good_other", "test"] lamTest.2.2 := nscope_by (by decide +kernel)
def TrueAt (H : Hp) (d : Addr) (gs : List Str) : Prop := H d = some (.dK (dOf (fun x : Str => (Sum.inr x : Key)) (fun _ => V.bl true) gs))
def IsTest (P : Program) (w : World) (K : PySem.W.Frag) (mg : Str → Option Value) (base : Heap) (H : Hp) (t : Addr) (ft : Bool → Bool → Bool) : Prop := ∃ (O : HO) (F : NF) (ps fr : List Str) (ws : List V), Clo P w K mg base 1 H t O F ps fr ws (spB ft)
theorem IsTest.same {P : Program} {w : World} {K : PySem.W.Frag} {mg : Str → Option Value} {base : Heap} {H H' : Hp} {t : Addr} {ft : Bool → Bool → Bool} (h : IsTest P w K mg base H t ft) (s : Same H H') : IsTest P w K mg base H' t ft := by
  obtain ⟨O, F, ps, fr, ws, c⟩ := h
  exact ⟨O, F, ps, fr, ws, c.same s⟩
theorem IsTest.ext {P : Program} {w : World} {K : PySem.W.Frag} {mg : Str → Option Value} {base : Heap} {H H' : Hp} {t : Addr} {ft : Bool → Bool → Bool} (h : IsTest P w K mg base H t ft) (s : ExtN H H') : IsTest P w K mg base H' t ft := by
  obtain ⟨O, F, ps, fr, ws, c⟩ := h
  exact ⟨O, F, ps, fr, ws, c.ext s⟩
def spTest (P : Program) (w : World) (K : PySem.W.Frag) (mg : Str → Option Value) (base : Heap) (ft : Bool → Bool → Bool) (g1 g2 : List Str) : List (Option V) → Sp := fun ws vs H Q _ => ∃ (d1 d2 t q : Addr) (m1 m2 : Str), ws = [some (.ref d1), some (.ref d2), some (.ref t)] ∧ vs = [.ref q] ∧ TrueAt H d1 g1 ∧ TrueAt H d2 g2 ∧ IsTest P w K mg base H t ft ∧ H q = some (.tup [.str m1, .str m2]) ∧
  ∀ H', Same H H' → Q (.bl (ft (decide (m1 ∈ g1)) (decide (m2 ∈ g2)))) H'
section
variable {P : Program} {w : World} {K : PySem.W.Frag} {mg : Str → Option Value} {base : Heap}
theorem run_test {f : Addr} {F : NF} {ft : Bool → Bool → Bool} {g1 g2 : List Str} (hF : ∃ cl c', F = mkTest cl c') : COk P w K mg base 2 f (LamO f F lamTest.2.1) F ["pair"] ["good_one", "good_other", "test"] (spTest P w K mg base ft g1 g2) := by
  obtain ⟨cl, c', rfl⟩ := hF
  refine cok_lam (k := 1) (N := nTest) scTest (fun pm ctv us hl => ?_) (fun ws vs H Q E h => ?_) (fun A outer s H vs ws Q E hr hf hc hl h => ?_)
  · match us, hl with
    | [_], _ => rfl
  · obtain ⟨d1, d2, t, q, m1, m2, _, rfl, _⟩ := h
    rfl
  · obtain ⟨d1, d2, t, q, m1, m2, rfl, rfl, h1, h2, hT, eq, k⟩ := h
    have hu : (A.deeper (envF (mkTest cl c') f s.heap.objs.size)).units + 1 < cLine := hu_of hr
    refine ⟨_, pe_callC (k := 1) (i := 3) (P := P) (w := w) (K := K) (mg := mg) (base := base) rfl rfl rfl rfl rfl hr rfl (Or.inr (Or.inr rfl)) (pa_cons (pe_cmp (pc_din hu (pe_ix (ix_tupK (K := K) rfl) (pv 0) pe_int (fun _ _ => rfl)) (pv 1))) (pa_cons (pe_cmp (pc_din hu (pe_ix (ix_tupK (K := K) rfl) (pv 0) pe_int (fun _ _ => rfl)) (pv 2))) pa_nil)), ?_⟩
    obtain ⟨O, F', ps, fr, ws, C⟩ := hT
    refine ⟨t, O, F', ps, fr, ws, spB ft, rfl, C.ok, C.at_, ?_⟩
    refine ⟨_, rfl, q, _, _, V.str m1, rfl, rfl, SqT.of eq, atI_nat (j := 0) rfl, _, rfl, d1, _, rfl, DGet.k (k := Sum.inr m1) h1, _, rfl, q, _, _, V.str m2, rfl, rfl, SqT.of eq, atI_nat (j := 1) rfl, _, rfl, d2, _, rfl, DGet.k (k := Sum.inr m2) h2, C, ?_⟩
    rw [dTrue_val, dTrue_val]
    exact ⟨_, _, rfl, fun H' s' _ => k _ (unhide_same s')⟩
theorem freeTest : ∀ y ∈ lamTest.2.2.names, y.2 = .free → (defScope sPairTest).names.lookup y.1 = some .cell ∨ (defScope sPairTest).names.lookup y.1 = some .free := by decide +kernel
abbrev nPT : List Str := ["one", "other", "test", "good_one", "good_other", "mood"]
theorem scPairTest : FnScope nPT ["one", "other", "test"] (defScope sPairTest) := ⟨rfl, rfl, rfl, by decide +kernel, rfl, by decide +kernel, by decide +kernel⟩
def spPairTest (K : PySem.W.Frag) (P : Program) (w : World) (mg : Str → Option Value) (base : Heap) (T : List (Addr × Str)) (C : Addr) : Sp := fun vs H Q _ => ∃ (a b t : Addr) (t1 t2 : Str) (p1 p2 : Parts) (ft : Bool → Bool → Bool), vs = [.ref a, .ref b, .ref t] ∧ Tabs T H ∧ RuleAt H C a t1 p1 ∧ RuleAt H C b t2 p2 ∧ p1.gs.length ≤ 1000 ∧ p2.gs.length ≤ 1000 ∧ IsTest P w K mg base H t ft ∧
  ∀ (g d1 d2 : Addr) (O : HO) (F : NF) (H' : Hp), ExtN H H' → Tabs T H' → NewC H (F.cl.map (·.2)) → d1 ∉ F.cl.map (·.2) → d2 ∉ F.cl.map (·.2) → TrueAt H' d1 p1.gs → TrueAt H' d2 p2.gs → IsTest P w K mg base H' t ft → Clo P w K mg base 2 H' g O F ["pair"] ["good_one", "good_other", "test"] [.ref d1, .ref d2, .ref t] (spTest P w K mg base ft p1.gs p2.gs) → Q (.ref g) H'
theorem ok_pairTest {g C cR PT : Addr} {od an : Option Addr} {oc kV dc pm ct : Value} {osl : Array (Option Value)} {T : List (Addr × Str)} (lk : K.lookup g = some ⟨oc, od, .func (PySem.W.fnOf "pair_test" "pair_test" (defArgs sPairTest) (defBody sPairTest) (defScope sPairTest) .none kV dc pm an (.ref cR) ct), osl⟩) (hcd : PySem.W.codeIn K (.ref cR) "pair_test" = true)
    (TB : TabB base mg cR PT) (hm : (PT, qTest) ∈ T) (hu : ∀ p ∈ T, p.1 = PT → p.2 = qTest) (R : RuC K C) (pG : PrF P w K mg base C "good" "chosen") :
    FnOk P w K mg base CX0 3 g (PySem.W.fnOf "pair_test" "pair_test" (defArgs sPairTest) (defBody sPairTest) (defScope sPairTest) .none kV dc pm an (.ref cR) ct) ["one", "other", "test"] (spPairTest K P w mg base T C) := by
  obtain ⟨pp, gp, fdp, PP, GP, bP⟩ := pG
  refine fnL_of (k := 2) (N := nPT) (lsc := lamTest.2.2) (fr := ["good_one", "good_other", "test"]) (js := [3, 4, 2]) lk hcd scPairTest (fun vs H Q E h => ?_) freeTest (by decide +kernel) (by decide +kernel) (by decide) rfl (fun A outer s H vs Q E hr h => ?_)
  · obtain ⟨a, b, t, t1, t2, p1, p2, ft, rfl, _⟩ := h
    rfl
  · obtain ⟨a, b, t, t1, t2, p1, p2, ft, rfl, hT, hA, hB, z1, z2, hI, k⟩ := h
    refine ⟨_, psr_cons (ps_set (i := 3) scPairTest.nd rfl (Or.inr rfl) (pe_dc (own := [("mood", 5)]) (g := gName 5) (tt := tYes) rfl scPairTest.nd (pi_tup (pe_prop (pv 0) R.cl PP GP hr bP .nil pass0 (by rfl)))
          (blkOk_by (N := nPT) (sc := defScope sPairTest) (by decide +kernel)) (fun _ _ _ _ _ => pg_name (i := 5) scPairTest.nd rfl (Or.inl rfl)) (fun _ _ _ _ _ => pts_nil) (fun _ _ _ _ _ => pv 5) (fun _ _ _ _ _ => pe_bl)))
      (psr_cons (ps_set (i := 4) scPairTest.nd rfl (Or.inr rfl) (pe_dc (own := [("mood", 5)]) (g := gName 5) (tt := tYes) rfl scPairTest.nd (pi_tup (pe_prop (pv 1) R.cl PP GP hr bP .nil pass0 (by rfl)))
          (blkOk_by (N := nPT) (sc := defScope sPairTest) (by decide +kernel)) (fun _ _ _ _ _ => pg_name (i := 5) scPairTest.nd rfl (Or.inl rfl)) (fun _ _ _ _ _ => pts_nil) (fun _ _ _ _ _ => pv 5) (fun _ _ _ _ _ => pe_bl)))
      (psr_lam (T := T) (c := cR) (P := PT) TB rfl hm hu rfl freeTest)), ?_⟩
    obtain ⟨dx, M, G, D, e1, e2, e3, e4⟩ := id hA
    obtain ⟨dx', M', G', D', g1, g2, g3, g4⟩ := id hB
    refine ⟨_, rfl, a, dx, _, rfl, e1, a, dx, _, .ref G, rfl, e1, rfl, G, rfl, ⟨_, SqT.of e3⟩, fun D1 hD1 => ?_⟩
    refine dcG p1.gs (fun x => (Sum.inr x : Key)) (fun _ => V.bl true) (walkT p1.gs V.str) (by omega) hD1 (yat_same _) (fun H' s => SqT.of (s _ _ e3)) (fun i x y H' H'' k1 k0 hx s1 hy k2 => ?_) (fun H1 s1 f1 => ?_)
    · obtain ⟨rfl, hy⟩ := hy
      obtain rfl := map_get hx hy
      exact ⟨rfl, _, rfl, k2 _ (Same.refl _)⟩
    refine ⟨_, rfl, b, dx', _, rfl, s1 _ _ g1, b, dx', _, .ref G', rfl, s1 _ _ g1, rfl, G', rfl, ⟨_, SqT.of (s1 _ _ g3)⟩, fun D2 hD2 => ?_⟩
    refine dcG p2.gs (fun x => (Sum.inr x : Key)) (fun _ => V.bl true) (walkT p2.gs V.str) (by omega) hD2 (yat_same _) (fun H' s => SqT.of (s _ _ (s1 _ _ g3))) (fun i x y H' H'' k1 k0 hx s1 hy k2 => ?_) (fun H2 s2 f2 => ?_)
    · obtain ⟨rfl, hy⟩ := hy
      obtain rfl := map_get hx hy
      exact ⟨rfl, _, rfl, k2 _ (Same.refl _)⟩
    have s12 := s1.trans s2
    refine ⟨hT.ext s12, fun f c' H3 eN T1 h0 h1 c1 => ⟨f, [.ref D1, .ref D2, .ref t], rfl, rfl, fun H4 s4 clo nn => ?_⟩⟩
    have eX : ∀ b o, H2 b = some o → (∀ ps, o ≠ .tbl ps) → H4 b = some o := fun b o e n => s4 _ _ (eN b o e n)
    refine k f D1 D2 _ _ H4 (fun b o e n => eX b o (s12 _ _ e) n) (T1.ext s4) (nn.back fun b o e n => eN b o (s12 _ _ e) n) (fun m => let ⟨ps, z⟩ := nn D1 m _ (eN _ _ (s2 _ _ f1) fun ps z => by cases z); (by cases z)) (fun m => let ⟨ps, z⟩ := nn D2 m _ (eN _ _ f2 fun ps z => by cases z); (by cases z)) (eX _ _ (s2 _ _ f1) fun ps z => by cases z) (eX _ _ f2 fun ps z => by cases z) ?_ ⟨run_test ⟨_, c', rfl⟩, lamO_ne, s4 _ _ h1, s4 _ _ c1, clo⟩
    exact ((hI.same s12).ext eN).same s4
end
end My
set_option pp.maxSteps 1500
namespace My
open PySem PySem.Spec PyProof.Rows L2 PySem.GX L2H NdefX LamX
def spFirstMo (C : Addr) : Sp := fun vs H Q _ => ∃ (a b : Addr) (t1 t2 : Str) (p1 p2 : Parts), vs = [.ref a, .ref b] ∧ RuleAt H C a t1 p1 ∧ PartsOk p1 ∧ RuleAt H C b t2 p2 ∧ PartsOk p2 ∧ ∀ (r : Addr) (H' : Hp), Same H H' → H r = none → H' r = some (.tup [.str (firstL p1), .str (firstL p2)]) → Q (.ref r) H'
section
variable {P : Program} {w : World} {K : PySem.W.Frag} {mg : Str → Option Value} {base : Heap}
theorem scFirstMo : FnScope ["one", "other"] ["one", "other"] (defScope sFirstMo) := ⟨rfl, rfl, rfl, by decide +kernel, rfl, by decide +kernel, by decide +kernel⟩
theorem ok_firstMo {f C : Addr} {fd : FuncData} (F : Fun K "first_moods" "first_moods" sFirstMo f fd) (R : RuC K C) (pM : PrF P w K mg base C "moods" "words") : FnOk P w K mg base CX0 3 f fd ["one", "other"] (spFirstMo C) := by
  obtain ⟨pp, gp, fdp, PP, GP, bP⟩ := pM
  refine F.ok scFirstMo (fun vs H Q E h => ?_) (fun cdv A outer s H vs Q E hr h => ?_)
  · obtain ⟨a, b, t1, t2, p1, p2, rfl, _⟩ := h
    rfl
  · obtain ⟨a, b, t1, t2, p1, p2, rfl, hA, ok1, hB, ok2, k⟩ := h
    refine ⟨_, pss_one (ps_ret (pe_tup (pa_cons (pe_ix ix_tup (pe_prop (pv 0) R.cl PP GP hr bP .nil pass0 (by rfl)) pe_int (fun _ _ => rfl)) (pa_cons (pe_ix ix_tup (pe_prop (pv 1) R.cl PP GP hr bP .nil pass0 (by rfl)) pe_int (fun _ _ => rfl)) pa_nil)))), ?_⟩
    obtain ⟨dx, M, G, D, e1, e2, e3, e4⟩ := id hA
    obtain ⟨dx', M', G', D', g1, g2, g3, g4⟩ := id hB
    obtain ⟨ms, em⟩ := ok1.first
    obtain ⟨ms', em'⟩ := ok2.first
    have f1 : (p1.ms.map V.str)[0]? = some (.str (firstL p1)) := by rw [em]; rfl
    have f2 : (p2.ms.map V.str)[0]? = some (.str (firstL p2)) := by rw [em']; rfl
    exact ⟨_, rfl, a, dx, _, rfl, e1, a, dx, _, .ref M, rfl, e1, rfl, M, _, _, _, rfl, rfl, SqT.of e2, atI_nat (j := 0) f1, _, rfl, b, dx', _, rfl, g1, b, dx', _, .ref M', rfl, g1, rfl, M', _, _, _, rfl, rfl, SqT.of g2, atI_nat (j := 0) f2, by show 2 ≤ sizeLine; decide, fun r hr' => k r _ (same_new hr') hr' upd_same⟩
end
end My
set_option pp.maxSteps 1500
namespace My
open PySem PySem.Spec PyProof.Rows L2 PySem.GX L2H NdefX LamX
/-! row_back: the row to a state, from where each came -/
/-- a state that came: its key, its row, where it stands, what the dict tells of it -/
structure Cm where
  key : List Key
  row : Row
  addr : Addr
  val : V
abbrev stK (k : List Key) : HO := .tup (k.map kV)
abbrev cameD (E : List Cm) : List (List Key × V) := E.map fun e => (e.key, e.val)
abbrev cameR (E : List Cm) : List V := E.map fun e => V.ref e.addr
abbrev cameL (E : List Cm) : List (List Key × Row) := E.map fun e => (e.key, e.row)
/-- how the i-th came -/
def CmAt (H : Hp) (E : List Cm) (i : Nat) (e : Cm) : Prop := H e.addr = some (stK e.key) ∧ ((i = 0 ∧ e.val = .non ∧ e.row = []) ∨ ∃ (j : Nat) (y : Cm) (t : Addr) (s : Nat), j < i ∧ E[j]? = some y ∧ e.val = .ref t ∧ H t = some (.tup [.ref y.addr, .str (sg s)]) ∧ e.row = y.row ++ [s])
structure Cms (H : Hp) (E : List Cm) : Prop where
  nd : (E.map Cm.key).Nodup
  at_ : ∀ i e, E[i]? = some e → CmAt H E i e
theorem Cms.same {H H' : Hp} {E : List Cm} (h : Cms H E) (s : ∀ b xs, H b = some (.tup xs) → H' b = some (.tup xs)) : Cms H' E :=
  ⟨h.nd, fun i e q => let ⟨a, b⟩ := h.at_ i e q; ⟨s _ _ a, b.imp id fun ⟨j, y, t, c, h1, h2, h3, h4, h5⟩ => ⟨j, y, t, c, h1, h2, h3, s _ _ h4, h5⟩⟩⟩
theorem came_val : ∀ {E : List Cm}, (E.map Cm.key).Nodup → ∀ e ∈ E, valV (cameD E) e.key = some e.val
  | [], _, e, h => by cases h
  | y :: E, nd, e, h => by
    rw [List.map_cons, List.nodup_cons] at nd
    show valV ((y.key, y.val) :: cameD E) e.key = _
    rcases List.mem_cons.mp h with rfl | h
    · exact valV_pos rfl
    · have ne : ¬ y.key = e.key := fun q => nd.1 (q ▸ List.mem_map.mpr ⟨e, h, rfl⟩)
      rw [valV_neg ne]
      exact came_val nd.2 e h
theorem came_has (k : List Key) : ∀ E : List Cm, (valV (cameD E) k).isSome = true ↔ k ∈ E.map Cm.key
  | [] => ⟨fun h => (by cases h), fun h => (by cases h)⟩
  | y :: E => by
    have ih := came_has k E
    show (valV ((y.key, y.val) :: cameD E) k).isSome = true ↔ _
    rw [List.map_cons, List.mem_cons]
    by_cases q : y.key = k
    · rw [valV_pos q]
      exact ⟨fun _ => .inl q.symm, fun _ => rfl⟩
    · rw [valV_neg q, ih]
      exact ⟨.inr, fun h => h.elim (fun z => absurd z.symm q) id⟩
theorem came_not {k : List Key} {E : List Cm} (h : k ∉ E.map Cm.key) : (valV (cameD E) k).isSome = false := by
  rw [← Bool.not_eq_true]
  exact fun z => h ((came_has k E).mp z)
def spRowBack (K : PySem.W.Frag) : Sp := fun vs H Q _ => ∃ (d : Addr) (E : List Cm) (i : Nat) (e : Cm), vs = [.ref d, .ref e.addr] ∧ H d = some (.dT (cameD E)) ∧ Cms H E ∧ E[i]? = some e ∧ e.row.length ≤ 1000000 ∧ ∀ H', Same H H' → Q (.str ⟨e.row.toArray⟩) H'
theorem join_row (cs : List Nat) : Txt.join Str.empty (cs.map sg) = ⟨cs.toArray⟩ := str_ext (by rw [TL.join_eq, join_signs])
theorem rev_sgs (cs : List Nat) : (cs.map sg).reverse = (cs.reverse.map sg) := by rw [List.map_reverse]
section
variable {P : Program} {w : World} {K : PySem.W.Frag} {mg : Str → Option Value} {base : Heap}
abbrev nRowBack : List Str := ["came", "state", "signs", "sign"]
theorem scRowBack : FnScope nRowBack ["came", "state"] (defScope sRowBack) := ⟨rfl, rfl, rfl, by decide +kernel, rfl, by decide +kernel, by decide +kernel⟩
/-- how far it has come -/
def atB (σ : List (Option V)) (H : Hp) : Nat := match σ[2]? with
  | some (some (V.ref l)) => (match H l with
    | some (.lst xs) => 1000001 - xs.length
    | _ => 0)
  | _ => 0
theorem sum_sgs (cs : List Nat) : ((cs.map sg).map (·.length)).sum = cs.length := by
  induction cs with
  | nil => rfl
  | cons a t ih =>
    rw [List.map_cons, List.map_cons, List.sum_cons, ih, List.length_cons]
    show 1 + _ = _
    omega
theorem ok_rowBack {f : Addr} {fd : FuncData} (F : Fun K "row_back" "row_back" sRowBack f fd) (hRv : mg "reversed" = none) : FnOk P w K mg base CX0 1 f fd ["came", "state"] (spRowBack K) := by
  refine F.ok scRowBack (fun vs H Q E h => ?_) (fun cdv A outer s H vs Q E hr h => ?_)
  · obtain ⟨d, E, i, e, rfl, _⟩ := h
    rfl
  · obtain ⟨d, E, i0, e0, rfl, ed, hC, ei0, hz, k⟩ := h
    have hu := hu_of hr
    refine ⟨_, pss_cons (ps_set (i := 2) scRowBack.nd rfl (Or.inl rfl) (pe_lst pa_nil))
      (pss_cons (ps_while PassesOwn.never (pt_cmpR op_notN (pe_dget hu (pv 0) (pv 1) (fun _ _ => rfl)) pe_non (nomark _))
        (pss_cons (ps_asg (pe_dget hu (pv 0) (pv 1) (fun _ _ => rfl)) (pg_tup rfl (pgs_cons (pg_name (i := 1) scRowBack.nd rfl (Or.inl rfl)) (pgs_cons (pg_name (i := 3) scRowBack.nd rfl (Or.inl rfl)) pgs_nil))))
        (pss_one (ps_expr (pe_bm PySem.F.plainAttrs_list PySem.F.slot_list_append PySem.F.type_list_append mt_append (pv 2) (pa_cons (pv 3) pa_nil))))))
      (pss_one (ps_ret (pe_joinRev rfl pe_str (by rfl) hRv (pv 2))))), ?_⟩
    refine ⟨by show 0 ≤ sizeLine; decide, fun l hl => ?_⟩
    have ed1 := keep1 (o := .lst []) ed hl
    have nld : l ≠ d := (ne_of_none ed hl).symm
    refine while_by (fun σ H' => ∃ (i : Nat) (e : Cm) (v3 : Option V) (cs : List Nat), σ = [some (.ref d), some (.ref e.addr), some (.ref l), v3] ∧ E[i]? = some e ∧ e0.row = e.row ++ cs.reverse ∧ H' l = some (.lst ((cs.map sg).map V.str)) ∧ ∀ b o, b ≠ l → H b = some o → H' b = some o) (fun σ H' => atB σ H')
      ⟨i0, e0, none, [], rfl, ei0, by simp, upd_same, fun b o n e => by rw [upd_ne n]; exact e⟩ (fun σ H2 h => ?_) ?mono
    case mono =>
      rintro σ H Q Q' m ⟨a1, a2, a3, a4, a5, a6, a7, a8, a9, a10, a11, q⟩
      exact ⟨a1, a2, a3, a4, a5, a6, a7, a8, a9, a10, a11, m _ _ q⟩
    obtain ⟨i, e, v3, cs, rfl, ei, er, el, st⟩ := h
    have hC2 : Cms H2 E := hC.same fun b xs q => st _ _ (ne_of_none q hl) q
    have ed2 := st _ _ nld.symm ed
    obtain ⟨ea, hv⟩ := hC2.at_ i e ei
    have dg := DGet.t (k := e.key) ed2 ea
    rw [came_val hC2.nd e (List.mem_of_getElem? ei)] at dg
    have lr := congrArg List.length er
    rw [List.length_append, List.length_reverse] at lr
    refine ⟨_, rfl, _, rfl, d, _, rfl, dg, ?_⟩
    rcases hv with ⟨rfl, hv, hr0⟩ | ⟨j, y, t, c, hj, ej, hv, et, hrow⟩
    · rw [hv]
      refine ⟨rfl, _, rfl, iteF ?_⟩
      refine ⟨⟨_, rfl⟩, _, rfl, _, l, cs.map sg, rfl, rfl, SqL.of el, ?_, ?_⟩
      · rw [sum_sgs, List.length_map]
        have e0 : (Str.ofString "").length = 0 := rfl
        rw [e0]
        omega
      · have e1 : (Str.ofString "") = Str.empty := rfl
        rw [e1, rev_sgs, join_row]
        rw [hr0, List.nil_append] at er
        rw [← er]
        exact k _ fun b o q => st _ _ (ne_of_none q hl) q
    · rw [hv]
      refine ⟨rfl, _, rfl, iteT ?_⟩
      rw [hv] at dg
      refine ⟨_, rfl, _, rfl, d, V.ref t, rfl, dg, t, _, rfl, SqT.of et, rfl, _, _, rfl, _, _, rfl, rfl, ?_⟩
      refine ⟨_, rfl, .inl ⟨rfl, _, SqL.of el⟩, _, rfl, l, _, _, rfl, rfl, el, ?_, ?_⟩
      · rw [List.length_map, List.length_map, sizeLine_eq]
        omega
      refine ⟨⟨j, y, _, cs ++ [c], rfl, ej, ?_, ?_, fun b o n q => ?_⟩, ?_⟩
      · rw [er, hrow, List.reverse_append, List.append_assoc]
        rfl
      · rw [upd_same, List.map_append, List.map_append]
        rfl
      · rw [upd_ne n]
        exact st b o n q
      · show (match upd H2 l (.lst ((cs.map sg).map V.str ++ [V.str (sg c)])) l with | some (.lst xs) => 1000001 - xs.length | _ => 0) < (match H2 l with | some (.lst xs) => 1000001 - xs.length | _ => 0)
        rw [upd_same, el]
        show 1000001 - ((cs.map sg).map V.str ++ [V.str (sg c)]).length < 1000001 - ((cs.map sg).map V.str).length
        rw [List.length_append, List.length_map, List.length_map]
        show 1000001 - (cs.length + 1) < _
        omega
end
end My
/-! {k: v}, k a tuple -/
namespace L2
open PySem PySem.Spec PyProof.Rows
def tDisp1T (tk tv : TE) : TE := fun σ H Q => ∀ p, H p = none → tk σ (upd H p (.dT [])) fun x H1 => tv σ H1 fun y H2 => ∃ (b : Addr) (key : List Key), x = .ref b ∧ H2 b = some (.tup (key.map kV)) ∧ H2 p = some (.dT []) ∧ Q (.ref p) (upd H2 p (.dT [(key, y)]))
theorem pe_disp1T {X : Cx} {k v : Expr} {tk tv : TE} {pos : Pos} (hu : X.A.units + 1 < cLine) (hk : PE X k tk) (hv : PE X v tv) : PE X (.Dict [some k] [v] pos) (tDisp1T tk tv) := by
  refine ⟨fun pins s σ H Q I q => ?_⟩
  have hn := I.hok.fresh (Nat.le_refl s.heap.objs.size)
  have I1 := I.laid (a := s.heap.objs.size) (o := .dT []) (h' := s.heap.push { cls := .type "dict", data := .dict #[] }) (t' := s.toks) (fun _ _ q => Heap.get?_push_of_some _ q) (Nat.le_refl _) (dt_empty s.heap I.big)
  rw [arm_eval_Dict]
  have hz := zip_pairTrees [some k] [v] X.env pos rfl rfl
  rw [hz, dictDisplay_pairs _ (by simp [pairTrees]) (by simp [pairTrees])]
  refine wpAny_bind (wpAny_standAt (wpAny_bind (wpAny_subDictH (knd := tupleKind (mixKind X.prog X.w)) (Q := fun d s' => wpAny (model X.prog X.w) X.A (pure (Value.ref d)) (EP X pins σ Q) X.xe s') (show (tupleKind (mixKind X.prog X.w)).room X.A from Nat.lt_of_succ_lt hu) (by simp [pairTrees]) ?_)))
  refine pairTrees_cons_walk (thn (hk.run pins _ σ _ _ I1 (q _ hn)) fun kv s1 ⟨x, H1, I2, r1, q1⟩ => thn (hv.run pins s1 σ H1 _ I2 q1) fun vv s2 ⟨y, H2, I3, r2, q2⟩ => pairTrees_nil_walk ?_)
  obtain ⟨b, key, rfl, eb, ep, q3⟩ := q2
  obtain rfl : kv = Value.ref b := r1
  obtain ⟨z, hd, xs, rel, dd⟩ := dt_of I3.hok ep
  cases rel
  refine ⟨[(key, b, vv)], ⟨rfl, rfl, key_of I3.hok eb, True.intro⟩, dd, fun h' tk dd' hs => wpAny_pure ⟨.ref s.heap.objs.size, _, ?_, rfl, q3⟩⟩
  obtain ⟨ob, es, ep', hq, h2, h3, h4, _, h5⟩ := dd'
  refine d_write I3 (by rw [ep]; exact True.intro) hs ⟨ob, hq⟩ ⟨by show 1 ≤ sizeLine; decide, hd, _, ?_, ob, es, ep', hq, h2, h3, h4, h5⟩
  refine .cons ⟨rfl, ?_, r2⟩ .nil
  rw [upd_ne (ne_of eb ep (fun z => nomatch z))]
  exact eb
end L2
namespace L2
open PySem PySem.Spec PyProof.Rows PySem.GX NdefX LamX
/-- lambda ..: .. as a value -/
def tLamO (T : List (Addr × Str)) (mk : Addr → NF) (body : Expr) : TE := fun _ H Q => Tabs T H ∧ ∀ (f c' : Addr) (H1 : Hp), ExtN H H1 → Tabs T H1 → H f = none → H1 f = some (LamO f (mk c') body) → H1 c' = some (CodeO c' (mk c').qual) → Q (.ref f) H1
theorem pe_lamO {X : Cx} {T : List (Addr × Str)} {c P : Addr} {params : Arguments} {body : Expr} {scope : Scope} {pos : Pos} (TB : TabB X.base X.mg c P) (hcode : X.env.code = .ref c)
    (hm : (P, X.env.qual ++ "<lambda>") ∈ T) (hu : ∀ p ∈ T, p.1 = P → p.2 = X.env.qual ++ "<lambda>") (hdef : defaultsOf params X.env = ([], []))
    (hfree : ∀ y ∈ scope.names, y.2 = .free → X.env.scope.names.lookup y.1 = some .cell ∨ X.env.scope.names.lookup y.1 = some .free) :
    PE X (.Lambda params body scope pos) (tLamO T (fun c' => ⟨"<lambda>", X.env.qual ++ "<lambda>", params, [], scope, cloFrom X.env.cells scope.names [], c'⟩) body) := by
  refine ⟨fun pins s σ H Q I h => ?_⟩
  obtain ⟨hT, h⟩ := h
  have hfr : ∀ y ∈ scope.names, y.2 = .free → ∃ c, X.env.cells.lookup y.1 = some c := fun y hy e => (hfree y hy e).elim (fun z => I.ok.has _ (.inl z)) fun z => I.ok.has _ (.inr z)
  exact lamO_make I TB hcode hm hu hT hdef hfr fun f c' H1 s' I1 eN T1 f0 f1 c1 => ⟨.ref f, H1, I1, rfl, h f c' H1 eN T1 f0 f1 c1⟩
/-- a lambda that captures nothing -/
theorem clo_nil {P : Program} {w : World} {K : PySem.W.Frag} {mg : Str → Option Value} {base : Heap} {k : Nat} {H : Hp} {f : Addr} {F : NF} {e : Expr} {ps : List Str} {sp : List (Option V) → Sp} (hcl : F.cl = []) (ok : COk P w K mg base k f (LamO f F e) F ps [] sp) (h1 : H f = some (LamO f F e)) (h2 : H F.c = some (CodeO F.c F.qual)) : Clo P w K mg base k H f (LamO f F e) F ps [] [] sp := by
  refine ⟨ok, lamO_ne, h1, h2, ⟨rfl, fun c hc => ?_, fun x y c e1 => ?_, fun i y e => by simp at e⟩⟩
  · rw [hcl] at hc
    cases hc
  · rw [hcl] at e1
    cases e1
end L2
set_option pp.maxSteps 1500
namespace L2
open PySem PySem.Spec PyProof.Rows PySem.GX NdefX LamX
/-! a function that is called again and again: what it promises over any heap that keeps the first one -/
def NoX : XK := fun _ _ _ => False
structure CallT (P : Program) (w : World) (K : PySem.W.Frag) (mg : Str → Option Value) (base : Heap) (k : Nat) (H0 : Hp) (f : Addr) (sp' : Sp) : Prop where
  has : ∃ (O : HO) (F : NF) (ps fr : List Str) (ws : List V) (sp : List (Option V) → Sp), Clo P w K mg base k H0 f O F ps fr ws sp ∧
    ∀ (vs : List V) (H : Hp) (Q : VK), Same H0 H → sp' vs H Q NoX → sp (ws.map some) vs (hide H (F.cl.map (·.2))) (fun v H' => (∀ c ∈ F.cl.map (·.2), H' c = none) → Q v (unhide H (F.cl.map (·.2)) H')) (fun _ _ _ => False)
theorem CallT.same {P : Program} {w : World} {K : PySem.W.Frag} {mg : Str → Option Value} {base : Heap} {k : Nat} {H0 H1 : Hp} {f : Addr} {sp' : Sp} (c : CallT P w K mg base k H0 f sp') (s : Same H0 H1) : CallT P w K mg base k H1 f sp' := by
  obtain ⟨O, F, ps, fr, ws, sp, C, h⟩ := c.has
  exact ⟨O, F, ps, fr, ws, sp, C.same s, fun vs H Q s' q => h vs H Q (s.trans s') q⟩
theorem PA_up {X : Cx} {es : List Expr} {t : TA} (h : PA X es t) : PA X es (fun σ H Q => ∃ Qc : List V → Hp → Prop, t σ H Qc ∧ ∀ vs H', Qc vs H' → Q vs H') :=
  ⟨fun pos pins s σ H Q I ⟨Qc, q, m⟩ => wpAny_mono (h.run pos pins s σ H Qc I q) (fun us s' ⟨vs, H1, I1, r, z⟩ => ⟨vs, H1, I1, r, m vs H1 z⟩) fun _ _ z => z⟩
/-- f(..), f a name that holds such a function -/
def tCallT (P : Program) (w : World) (K : PySem.W.Frag) (mg : Str → Option Value) (base : Heap) (k i : Nat) (t : TA) : TE := fun σ H Q => ∃ (f : Addr) (H0 : Hp) (sp' : Sp), σ[i]? = some (some (.ref f)) ∧ CallT P w K mg base k H0 f sp' ∧ Same H0 H ∧ t σ H fun vs H1 => Same H0 H1 ∧ sp' vs H1 Q NoX
theorem pe_callT {X : Cx} {P : Program} {w : World} {K : PySem.W.Frag} {mg : Str → Option Value} {base : Heap} {k i : Nat} {x : Str} {p pos : Pos} {e : Expr} {es : List Expr} {t : TA} (e1 : X.prog = P) (e2 : X.w = w) (e3 : X.K = K) (e4 : X.mg = mg) (e5 : X.base = base) (hr : Room k X.A) (hN : X.N[i]? = some x) (hv : Vis X.env.scope x) (ha : PA X (e :: es) t)
    (hd : (x == ("__debug__" : Str)) = false := by decide) (hcd : (x == ("__classdict__" : Str)) = false := by decide)
    (he : starEach (e :: es) X.env = (false, eval e X.env) :: starEach es X.env := by rfl) (hpl : (backTo pos (starEach es X.env)).any (·.1) = false := by rfl) :
    PE X (.Call (.Name x p) (e :: es) [] pos) (tCallT P w K mg base k i t) := by
  refine ⟨fun pins s σ H Q I h => ?_⟩
  obtain ⟨f, H0, sp', hs, C, s0, ht⟩ := h
  obtain ⟨O, F, ps, fr, ws, sp, c, hq⟩ := C.has
  refine (pe_callC (p := p) (pos := pos) e1 e2 e3 e4 e5 hr hN hv (PA_up ha) hd hcd he hpl).run pins s σ H Q I ⟨f, O, F, ps, fr, ws, sp, hs, c.ok, s0 _ _ c.at_, _, ht, fun vs H1 q => ⟨c.same q.1, hq vs H1 _ q.1 q.2⟩⟩
end L2
namespace My
open PySem PySem.Spec PyProof.Rows L2 PySem.GX L2H LamX
theorem nodup_len {α : Type} [DecidableEq α] : ∀ {l m : List α}, l.Nodup → (∀ x ∈ l, x ∈ m) → l.length ≤ m.length
  | [], _, _, _ => Nat.zero_le _
  | a :: t, m, nd, h => by
    have ha := h a (by simp)
    have nd' := List.nodup_cons.mp nd
    have i := nodup_len (m := m.erase a) nd'.2 (fun x hx => (List.mem_erase_of_ne (by rintro rfl; exact nd'.1 hx)).mpr (h x (by simp [hx])))
    rw [List.length_erase_of_mem ha] at i
    have : 0 < m.length := List.length_pos_of_mem ha
    rw [List.length_cons]
    omega
theorem prod_len {α β : Type} (as : List α) (bs : List β) : (as.flatMap fun a => bs.map fun b => (a, b)).length = as.length * bs.length := by
  induction as with
  | nil => simp
  | cons m t ih =>
    rw [List.flatMap_cons, List.length_append, ih, List.length_map, List.length_cons, Nat.succ_mul]
    omega
theorem pairs_bound {as bs : List Str} {ps : List (Str × Str)} (nd : ps.Nodup) (h : ∀ p ∈ ps, p.1 ∈ as ∧ p.2 ∈ bs) : ps.length ≤ as.length * bs.length := by
  rw [← prod_len]
  exact nodup_len nd fun p hp => List.mem_flatMap.mpr ⟨p.1, (h p hp).1, List.mem_map.mpr ⟨p.2, (h p hp).2, rfl⟩⟩
abbrev k2 (a b : Str) : List Key := [Sum.inr a, Sum.inr b]
def seenL (ps : List (Str × Str)) : List (List Key × V) := ps.map fun ab => (k2 ab.1 ab.2, V.bl true)
theorem seen_val (a b : Str) : ∀ ps : List (Str × Str), (valV (seenL ps) (k2 a b)).isSome = decide ((a, b) ∈ ps)
  | [] => rfl
  | (c, d) :: t => by
    have ih := seen_val a b t
    by_cases e : (a, b) = (c, d)
    · cases e
      rw [show seenL ((a, b) :: t) = (k2 a b, V.bl true) :: seenL t from rfl, valV_pos rfl]
      simp
    · rw [show seenL ((c, d) :: t) = (k2 c d, V.bl true) :: seenL t from rfl, valV_neg (fun z => e ?_), ih]
      · by_cases m : (a, b) ∈ t
        · rw [decide_eq_true m, decide_eq_true (List.mem_cons_of_mem _ m)]
        · rw [decide_eq_false m, decide_eq_false (fun z => (List.mem_cons.mp z).elim e m)]
      · injection z with z1 z2
        injection z2 with z2 _
        injection z1 with z1
        injection z2 with z2
        rw [z1, z2]
theorem seen_snoc {ps : List (Str × Str)} {a b : Str} (h : (a, b) ∉ ps) : putK (seenL ps) (k2 a b) (.bl true) = seenL (ps ++ [(a, b)]) := by
  have := seen_val a b ps
  rw [decide_eq_false h] at this
  rw [putK_new _ (Option.isNone_iff_eq_none.mp (by simpa using this))]
  unfold seenL
  rw [List.map_append]
  rfl
/-- all but two stays -/
def Ks (l d : Addr) (H H' : Hp) : Prop := ∀ b o, b ≠ l → b ≠ d → H b = some o → H' b = some o
def LnA (H : Hp) (p1 p2 : Parts) (as : List Addr) : Prop := ∀ (i : Nat) (a : Addr), as[i]? = some a → ∃ r u v, H a = some (.tup [.str r, .str u, .str v]) ∧ InS p1 r ∧ r.length ≤ i ∧ u ∈ p1.ms ∧ v ∈ p2.ms
structure Fst (H1 H : Hp) (l d : Addr) (p1 p2 : Parts) (as : List Addr) (ps : List (Str × Str)) : Prop where
  ks : Ks l d H1 H
  el : H l = some (.lst (as.map V.ref))
  ed : H d = some (.dT (seenL ps))
  ln : as.length = ps.length + 1
  nd : ps.Nodup
  inn : ∀ ab ∈ ps, ab.1 ∈ p1.ms ∧ ab.2 ∈ p2.ms
  at_ : LnA H p1 p2 as
section
variable {H1 H : Hp} {l d : Addr} {p1 p2 : Parts} {as : List Addr} {ps : List (Str × Str)}
theorem Fst.new (h : Fst H1 H l d p1 p2 as ps) {H' : Hp} (s : Same H H') : Fst H1 H' l d p1 p2 as ps :=
  ⟨fun b o n1 n2 e => s _ _ (h.ks b o n1 n2 e), s _ _ h.el, s _ _ h.ed, h.ln, h.nd, h.inn, fun i a e => let ⟨r, u, v, e1, e2⟩ := h.at_ i a e; ⟨r, u, v, s _ _ e1, e2⟩⟩
theorem Fst.few (h : Fst H1 H l d p1 p2 as ps) (z1 : p1.ms.length ≤ 10) (z2 : p2.ms.length ≤ 10) : as.length ≤ 101 := by
  have := pairs_bound h.nd h.inn
  have m : p1.ms.length * p2.ms.length ≤ 10 * 10 := Nat.mul_le_mul z1 z2
  have := h.ln
  omega
theorem Fst.put (h : Fst H1 H l d p1 p2 as ps) {a b : Str} (hn : (a, b) ∉ ps) (ha : a ∈ p1.ms) (hb : b ∈ p2.ms) {H2 : Hp} {n : Addr} {r : Str} (s : Ks l d (upd H d (.dT (seenL (ps ++ [(a, b)])))) H2) (el : H2 l = some (.lst ((as ++ [n]).map V.ref))) (ed : H2 d = some (.dT (seenL (ps ++ [(a, b)]))))
    (en : H2 n = some (.tup [.str r, .str a, .str b])) (hr : InS p1 r) (lr : r.length ≤ as.length) : Fst H1 H2 l d p1 p2 (as ++ [n]) (ps ++ [(a, b)]) := by
  refine ⟨fun b o n1 n2 e => s _ _ n1 n2 (by rw [upd_ne n2]; exact h.ks b o n1 n2 e), el, ed, by rw [List.length_append, List.length_append, h.ln]; rfl, ?_, fun ab m => ?_, fun i c e => ?_⟩
  · rw [List.nodup_append]
    refine ⟨h.nd, by simp, fun x hx y hy e => ?_⟩
    rw [List.mem_singleton] at hy
    exact hn (hy ▸ e ▸ hx)
  · rcases List.mem_append.mp m with m | m
    · exact h.inn ab m
    · rw [List.mem_singleton] at m
      subst m
      exact ⟨ha, hb⟩
  · rw [List.getElem?_append] at e
    split at e
    · obtain ⟨r', u, v, e1, e2⟩ := h.at_ i c e
      have n1 : c ≠ l := ne_of e1 h.el (by intro z; cases z)
      have n2 : c ≠ d := ne_of e1 h.ed (by intro z; cases z)
      exact ⟨r', u, v, s _ _ n1 n2 (by rw [upd_ne n2]; exact e1), e2⟩
    · rename_i hi
      have : c = n ∧ i = as.length := by
        cases hz : i - as.length with
        | zero => rw [hz] at e; exact ⟨(Option.some.inj e).symm, by omega⟩
        | succ m => rw [hz] at e; cases e
      obtain ⟨rfl, rfl⟩ := this
      exact ⟨r, a, b, en, hr, lr, ha, hb⟩
end
end My
set_option pp.maxSteps 1500
namespace My
open PySem PySem.Spec PyProof.Rows L2 PySem.GX L2H NdefX LamX
/-! first_row: the first row that leads to a state that is wanted -/
def spStepK (D : List (List Key)) (cs : Row) (step : List Key → Nat → List Key) : Sp := fun vs H Q _ => ∃ (a : Addr) (k : List Key) (x : Nat), vs = [.ref a, .str (sg x)] ∧ H a = some (stK k) ∧ k ∈ D ∧ x ∈ cs ∧ ∀ (r : Addr) (H' : Hp), Same H H' → H' r = some (stK (step k x)) → Q (.ref r) H'
def spWantK (D : List (List Key)) (W : List Key → Bool) : Sp := fun vs H Q _ => ∃ (a : Addr) (k : List Key), vs = [.ref a] ∧ H a = some (stK k) ∧ k ∈ D ∧ ∀ H', Same H H' → Q (.bl (W k)) H'
def rowV : Option Row → V
  | some r => .str ⟨r.toArray⟩
  | none => .non
def spFirstRow (P : Program) (w : World) (K : PySem.W.Frag) (mg : Str → Option Value) (base : Heap) : Sp := fun vs H Q _ => ∃ (x : Str) (a fs fw : Addr) (k0 : List Key) (D : List (List Key)) (step : List Key → Nat → List Key) (W : List Key → Bool), vs = [.str x, .ref a, .ref fs, .ref fw] ∧ H a = some (stK k0) ∧ k0 ∈ D ∧ D.length ≤ 100000 ∧ (∀ k ∈ D, ∀ c ∈ x.cps.toList, step k c ∈ D) ∧ x.cps.toList.Pairwise (· < ·) ∧
  CallT P w K mg base 1 H fs (spStepK D x.cps.toList step) ∧ CallT P w K mg base 2 H fw (spWantK D W) ∧ ∀ (o : Option Row) (H' : Hp), Same H H' → IsFirst x.cps.toList (fun r => W (runL step k0 r) = true) o → Q (rowV o) H'
structure FRow (H1 H : Hp) (l d : Addr) (E : List Cm) : Prop where
  ks : Ks l d H1 H
  el : H l = some (.lst (cameR E))
  ed : H d = some (.dT (cameD E))
  cm : Cms H E
section
variable {H1 H : Hp} {l d : Addr} {E : List Cm}
theorem FRow.new (h : FRow H1 H l d E) {H' : Hp} (s : Same H H') : FRow H1 H' l d E :=
  ⟨fun b o n1 n2 e => s _ _ (h.ks b o n1 n2 e), s _ _ h.el, s _ _ h.ed, h.cm.same fun b xs e => s _ _ e⟩
theorem cameD_app (E : List Cm) (e : Cm) : cameD (E ++ [e]) = cameD E ++ [(e.key, e.val)] := by
  show List.map _ _ = _
  rw [List.map_append]
  rfl
theorem cameR_app (E : List Cm) (e : Cm) : cameR (E ++ [e]) = cameR E ++ [V.ref e.addr] := by
  show List.map _ _ = _
  rw [List.map_append]
  rfl
theorem cameL_app (E : List Cm) (e : Cm) : cameL (E ++ [e]) = cameL E ++ [(e.key, e.row)] := by
  show List.map _ _ = _
  rw [List.map_append]
  rfl
theorem Cms.len (h : Cms H E) : ∀ (i : Nat) (e : Cm), E[i]? = some e → e.row.length ≤ i := by
  intro i
  induction i using Nat.strongRecOn with
  | _ i ih =>
    intro e he
    rcases (h.at_ i e he).2 with ⟨_, _, hr⟩ | ⟨j, y, t, s, hj, ey, _, _, hr⟩
    · rw [hr]; exact Nat.zero_le _
    · have := ih j hj y ey
      rw [hr, List.length_append]
      show y.row.length + 1 ≤ i
      omega
theorem FRow.put (h : FRow H1 H l d E) {k : List Key} (hn : k ∉ E.map Cm.key) {n : Nat} {y : Cm} (ey : E[n]? = some y) {c : Nat} {H2 : Hp} {r t : Addr} (s : Ks l d H H2) (el : H2 l = some (.lst (cameR (E ++ [⟨k, y.row ++ [c], r, .ref t⟩])))) (ed : H2 d = some (.dT (cameD (E ++ [⟨k, y.row ++ [c], r, .ref t⟩]))))
    (er : H2 r = some (stK k)) (et : H2 t = some (.tup [.ref y.addr, .str (sg c)])) : FRow H1 H2 l d (E ++ [⟨k, y.row ++ [c], r, .ref t⟩]) := by
  have up : ∀ b xs, H b = some (.tup xs) → H2 b = some (.tup xs) := fun b xs e => s b _ (ne_of e h.el (by intro z; cases z)) (ne_of e h.ed (by intro z; cases z)) e
  have lt := (List.getElem?_eq_some_iff.mp ey).1
  refine ⟨fun b o n1 n2 e => s b o n1 n2 (h.ks b o n1 n2 e), el, ed, ⟨?_, fun i e ei => ?_⟩⟩
  · rw [List.map_append, List.nodup_append]
    refine ⟨h.cm.nd, by simp, fun x hx z hz q => ?_⟩
    have : z = k := by simpa using hz
    exact hn (this ▸ q ▸ hx)
  · rw [List.getElem?_append] at ei
    split at ei
    · obtain ⟨q1, q2⟩ := h.cm.at_ i e ei
      refine ⟨up _ _ q1, q2.imp id fun ⟨j, y', t', c', h1, h2, h3, h4, h5⟩ => ⟨j, y', t', c', h1, ?_, h3, up _ _ h4, h5⟩⟩
      rw [List.getElem?_append_left (List.getElem?_eq_some_iff.mp h2).1]
      exact h2
    · rename_i hi
      have : i = E.length ∧ e = ⟨k, y.row ++ [c], r, .ref t⟩ := by
        cases hz : i - E.length with
        | zero => rw [hz] at ei; exact ⟨by omega, (Option.some.inj ei).symm⟩
        | succ m => rw [hz] at ei; cases ei
      obtain ⟨rfl, rfl⟩ := this
      refine ⟨er, .inr ⟨n, y, t, c, lt, ?_, rfl, et, rfl⟩⟩
      rw [List.getElem?_append_left lt]
      exact ey
end
section
variable {P : Program} {w : World} {K : PySem.W.Frag} {mg : Str → Option Value} {base : Heap}
abbrev nFirstRow : List Str := ["signs", "start", "step", "wanted", "came", "states", "at", "state", "sign", "goal"]
theorem scFirstRow : FnScope nFirstRow ["signs", "start", "step", "wanted"] (defScope sFirstRow) := ⟨rfl, rfl, rfl, by decide +kernel, rfl, by decide +kernel, by decide +kernel⟩
def atF (σ : List (Option V)) : Nat := match σ[6]? with
  | some (some (V.int n)) => 200000 - n.toNat
  | _ => 0
theorem ok_firstRow {f : Addr} {fd : FuncData} (F : Fun K "first_row" "first_row" sFirstRow f fd) (hB : Hv P w K mg base 1 "row_back" ["came", "state"] (spRowBack K)) (hL : mg "len" = none) : FnOk P w K mg base CX0 3 f fd ["signs", "start", "step", "wanted"] (spFirstRow P w K mg base) := by
  refine F.ok scFirstRow (fun vs H Q E h => ?_) (fun cdv A outer s H vs Q E hr h => ?_)
  · obtain ⟨x, a, fs, fw, k0, D, step, W, rfl, _⟩ := h
    rfl
  · obtain ⟨x, a, fs, fw, k0, D, step, W, rfl, ha, hk0, zD, cl, asc, hS, hW, kk⟩ := h
    have hu := hu_of hr
    have hr1 := hr.mono (by decide : 1 ≤ 2)
    refine ⟨_, pss_cons (ps_set (i := 4) scFirstRow.nd rfl (Or.inl rfl) (pe_disp1T hu (pv 1) pe_non))
      (pss_cons (ps_set (i := 5) scFirstRow.nd rfl (Or.inl rfl) (pe_lst (pa_cons (pv 1) pa_nil)))
      (pss_cons (ps_set (i := 6) scFirstRow.nd rfl (Or.inl rfl) pe_int)
      (pss_cons (ps_while PassesOwn.never (pt_cmpR op_lt (pv 6) (pe_callB call_len_seq (by rfl) hL PySem.boot_len (pa_cons (pv 5) pa_nil)) (nomark _))
        (pss_cons (ps_set (i := 7) scFirstRow.nd rfl (Or.inl rfl) (pe_ix ix_list (pv 5) (pv 6) (fun _ _ => rfl)))
        (pss_cons (ps_if (pt_val (pe_callT (k := 2) (i := 3) (P := P) (w := w) (K := K) (mg := mg) (base := base) rfl rfl rfl rfl rfl hr rfl (Or.inl rfl) (pa_cons (pv 7) pa_nil))) (pss_one (ps_ret (pe_cl hB hr1 rfl pass0 (pa_cons (pv 4) (pa_cons (pv 7) pa_nil))))) pss_nil)
        (pss_cons (ps_for PassesOwn.never rfl (pi_str (pv 0)) (pg_name (i := 8) scFirstRow.nd rfl (Or.inl rfl))
          (pss_cons (ps_set (i := 9) scFirstRow.nd rfl (Or.inl rfl) (pe_callT (k := 1) (i := 2) (P := P) (w := w) (K := K) (mg := mg) (base := base) rfl rfl rfl rfl rfl hr1 rfl (Or.inl rfl) (pa_cons (pv 7) (pa_cons (pv 8) pa_nil))))
          (pss_one (ps_if (pt_cmp (pc_dnotin hu (pv 9) (pv 4))) (pss_cons (ps_dput hu (pv 4) (pv 9) (pe_tup (pa_cons (pv 7) (pa_cons (pv 8) pa_nil))) rfl) (pss_one (ps_expr (pe_bm PySem.F.plainAttrs_list PySem.F.slot_list_append PySem.F.type_list_append mt_append (pv 5) (pa_cons (pv 9) pa_nil))))) pss_nil))))
        (pss_one (ps_aug (i := 6) scFirstRow.nd rfl (Or.inl rfl) pe_int ip_add))))))
      (pss_one (ps_ret pe_non))))), ?_⟩
    refine fun d hd => ⟨_, rfl, a, k0, rfl, keep1 ha hd, upd_same, ?_⟩
    rw [upd_upd]
    refine ⟨_, rfl, by show 1 ≤ sizeLine; decide, fun l hl => ?_⟩
    have sH := (same_new (o := .dT [(k0, V.non)]) hd).trans (same_new (o := .lst [.ref a]) hl)
    have ed := keep1 (o := .lst [.ref a]) (upd_same (a := d) (H := H) (o := .dT [(k0, V.non)])) hl
    have el := upd_same (a := l) (H := upd H d (.dT [(k0, V.non)])) (o := .lst [.ref a])
    have fl : ∀ b o, H b = some o → b ≠ l := fun b o e => ne_of_none (keep1 (o := .dT [(k0, V.non)]) e hd) hl
    have fd' : ∀ b o, H b = some o → b ≠ d := fun b o e => ne_of_none e hd
    generalize upd (upd H d (.dT [(k0, V.non)])) l (.lst [.ref a]) = H1 at sH el ed ⊢
    clear hd hl
    have nld : l ≠ d := ne_of el ed (by intro z; cases z)
    have b0 : FRow H1 H1 l d [⟨k0, [], a, .non⟩] := ⟨fun _ _ _ _ e => e, el, ed, ⟨by simp, fun i e ei => by
      cases i with
      | zero =>
        have : e = ⟨k0, [], a, .non⟩ := (Option.some.inj ei).symm
        subst this
        exact ⟨sH _ _ ha, .inl ⟨rfl, rfl, rfl⟩⟩
      | succ n => cases ei⟩⟩
    have fin : ∀ H', Ks l d H1 H' → Same H H' := fun H' ks b o e => ks _ _ (fl _ _ e) (fd' _ _ e) (sH _ _ e)
    refine while_by (fun σ H' => ∃ (n : Nat) (v7 v8 v9 : Option V) (E : List Cm), σ = [some (.str x), some (.ref a), some (.ref fs), some (.ref fw), some (.ref d), some (.ref l), some (.int (n : Int)), v7, v8, v9] ∧ FRow H1 H' l d E ∧ n ≤ E.length ∧ (∀ e ∈ E, e.key ∈ D) ∧ Bfs x.cps.toList step k0 (cameL E) n [] ∧ ∀ (i : Nat) (e : Cm), i < n → E[i]? = some e → W e.key = false) (fun σ _ => atF σ)
      ⟨0, none, none, none, _, rfl, b0, Nat.zero_le _, fun e he => by rw [List.mem_singleton.mp he]; exact hk0, bfs_start, fun i e hi => absurd hi (Nat.not_lt_zero _)⟩ (fun σ H2 h => ?_) ?mono
    case mono =>
      rintro σ H Q Q' m ⟨a1, a2, a3, a4, a5, a6, a7, a8, a9, a10, a11, a12, a13, a14, q⟩
      exact ⟨a1, a2, a3, a4, a5, a6, a7, a8, a9, a10, a11, a12, a13, a14, m _ _ q⟩
    obtain ⟨n, v7, v8, v9, E, rfl, S2, hn, hD, hB2, hno⟩ := h
    have few : ∀ {E' : List Cm} {H' : Hp}, FRow H1 H' l d E' → (∀ e ∈ E', e.key ∈ D) → E'.length ≤ 100000 := fun {E' H'} S hD => by
      have := nodup_len S.cm.nd (m := D) (fun k hk => by obtain ⟨e, he, rfl⟩ := List.mem_map.mp hk; exact hD e he)
      rw [List.length_map] at this
      omega
    refine ⟨_, rfl, _, rfl, l, _, rfl, .inl (SqL.of S2.el), _, _, rfl, rfl, _, rfl, ite2 (fun c => ?_) (fun c => ?_)⟩
    · have c1 : (n : Int) < ((cameR E).length : Int) := of_decide_eq_true c
      rw [List.length_map] at c1
      have hlt : n < E.length := by omega
      clear c c1
      have he : E[n]? = some E[n] := List.getElem?_eq_getElem hlt
      generalize E[n] = e at he
      have em := List.mem_of_getElem? he
      obtain ⟨ea, _⟩ := S2.cm.at_ n e he
      have hLn : (cameL E)[n]? = some (e.key, e.row) := by rw [List.getElem?_map, he]; rfl
      refine ⟨_, rfl, _, rfl, l, _, _, V.ref e.addr, rfl, rfl, SqL.of S2.el, atI_nat (by rw [List.getElem?_map, he]; rfl), ?_⟩
      refine ⟨fw, H, spWantK D W, rfl, hW, fin _ S2.ks, _, rfl, fin _ S2.ks, e.addr, e.key, rfl, ea, hD e em, fun H3 s3 => ?_⟩
      have S3 := S2.new s3
      refine ⟨_, rfl, ite2 (fun c => ?_) (fun c => ?_)⟩
      · have hz := S3.cm.len n e he
        have hfew := few S2 hD
        refine ⟨_, rfl, _, rfl, d, E, n, e, rfl, S3.ed, S3.cm, he, by omega, fun H4 s4 => ?_⟩
        refine kk (some e.row) _ ((fin _ S3.ks).trans s4) ?_
        refine hB2.found hLn (W := fun k => W k = true) c fun i y hi ey hw => ?_
        rw [List.getElem?_map] at ey
        obtain ⟨e', ee, rfl⟩ := Option.map_eq_some_iff.mp ey
        rw [hno i e' hi ee] at hw
        cases hw
      · have eW : W e.key = false := by simpa using c
        refine ⟨_, rfl, x, rfl, ?_⟩
        refine for_it walk_str (fun i σ H' => ∃ (v8 v9 : Option V) (E' : List Cm), σ = [some (.str x), some (.ref a), some (.ref fs), some (.ref fw), some (.ref d), some (.ref l), some (.int (n : Int)), some (.ref e.addr), v8, v9] ∧ FRow H1 H' l d E' ∧ (∀ e ∈ E', e.key ∈ D) ∧ Bfs x.cps.toList step k0 (cameL E') n (x.cps.toList.take i) ∧ E'[n]? = some e ∧ ∀ (i : Nat) (e : Cm), i < n → E'[i]? = some e → W e.key = false)
          ⟨v8, v9, E, rfl, S3, hD, by simpa using hB2, he, hno⟩ (fun _ _ _ _ _ => trivial) (fun i y σ H4 H5 hi h hy => ?_) (fun σ H4 h => ?_)
        · obtain ⟨rfl, c, hc, rfl⟩ := hy
          obtain ⟨v8, v9, E', rfl, S5, hD5, hB5, he5, hno5⟩ := h
          rw [← Array.getElem?_toList] at hc
          have hc1 : c ∈ x.cps.toList := List.mem_of_getElem? hc
          have em5 := List.mem_of_getElem? he5
          obtain ⟨ea5, _⟩ := S5.cm.at_ n e he5
          have hLn5 : (cameL E')[n]? = some (e.key, e.row) := by rw [List.getElem?_map, he5]; rfl
          have etake : x.cps.toList.take (i + 1) = x.cps.toList.take i ++ [c] := by rw [List.take_add_one, hc]; rfl
          have low : ∀ b ∈ x.cps.toList.take i, b < c := fun b hb => by
            obtain ⟨j, hj⟩ := List.mem_iff_getElem?.mp hb
            have hji : j < i := by
              have := (List.getElem?_eq_some_iff.mp hj).1
              rw [List.length_take] at this
              omega
            rw [List.getElem?_take_of_lt hji] at hj
            obtain ⟨q1, q2⟩ := List.getElem?_eq_some_iff.mp hj
            obtain ⟨q3, q4⟩ := List.getElem?_eq_some_iff.mp hc
            have := List.pairwise_iff_getElem.mp asc j i q1 q3 hji
            rw [q2, q4] at this
            exact this
          refine ⟨fs, H, spStepK D x.cps.toList step, rfl, hS, fin _ S5.ks, _, rfl, _, rfl, fin _ S5.ks, e.addr, e.key, c, rfl, ea5, hD5 e em5, hc1, fun r H6 s6 er => ?_⟩
          have S6 := S5.new s6
          have ck : step e.key c ∈ D := cl _ (hD5 e em5) c hc1
          generalize hk : step e.key c = k at er ck
          refine ⟨_, rfl, _, rfl, d, _, rfl, DGet.t (k := k) S6.ed er, _, rfl, ?_⟩
          by_cases hm : k ∈ E'.map Cm.key
          · rw [(came_has _ _).mpr hm]
            obtain ⟨z, hz, ez⟩ := List.mem_map.mp hm
            refine iteF ⟨_, _, E', rfl, S6, hD5, ?_, he5, hno5⟩
            rw [etake]
            exact hB5.old hLn5 low (z := (z.key, z.row)) (List.mem_map.mpr ⟨z, hz, rfl⟩) (ez.trans hk.symm)
          · have hnot := came_not hm
            rw [hnot]
            refine iteT ?_
            refine ⟨_, rfl, _, rfl, by show 2 ≤ sizeLine; decide, fun t ht => ?_⟩
            have S7 := S6.new (same_new (o := .tup [.ref e.addr, .str (sg c)]) ht)
            have er7 := same_new (o := .tup [.ref e.addr, .str (sg c)]) ht _ _ er
            have et7 := upd_same (a := t) (H := H6) (o := .tup [.ref e.addr, .str (sg c)])
            have hfew := few S7 hD5
            show ∃ _, _
            generalize upd H6 t (.tup [.ref e.addr, .str (sg c)]) = H7 at S7 er7 et7 ⊢
            refine ⟨_, rfl, _, rfl, d, upd H7 d (.dT (cameD (E' ++ [⟨k, e.row ++ [c], r, .ref t⟩]))), rfl, ?_, ?_⟩
            · have pk : putK (cameD E') k (.ref t) = cameD (E' ++ [⟨k, e.row ++ [c], r, .ref t⟩]) := by
                rw [putK_new _ (Option.isNone_iff_eq_none.mp (by simpa using hnot)), cameD_app]
              rw [← pk]
              exact DPut.t (k := k) S7.ed er7 (by rw [List.length_map, sizeLine_eq]; omega)
            have nr : r ≠ d := ne_of er7 S7.ed (by intro z; cases z)
            have nt : t ≠ d := ne_of et7 S7.ed (by intro z; cases z)
            have nrl : r ≠ l := ne_of er7 S7.el (by intro z; cases z)
            have ntl : t ≠ l := ne_of et7 S7.el (by intro z; cases z)
            have el8 : upd H7 d (.dT (cameD (E' ++ [⟨k, e.row ++ [c], r, .ref t⟩]))) l = some (.lst (cameR E')) := by rw [upd_ne nld]; exact S7.el
            refine ⟨_, rfl, .inl ⟨rfl, _, SqL.of el8⟩, _, rfl, l, _, _, rfl, rfl, el8, by rw [List.length_map, sizeLine_eq]; omega, ?_⟩
            have lt5 := (List.getElem?_eq_some_iff.mp he5).1
            refine ⟨_, _, E' ++ [⟨k, e.row ++ [c], r, .ref t⟩], rfl, S7.put hm he5 (fun b o n1 n2 q => by rw [upd_ne n1, upd_ne n2]; exact q) (by rw [upd_same, cameR_app]) (by rw [upd_ne nld.symm]; exact upd_same) (by rw [upd_ne nrl, upd_ne nr]; exact er7) (by rw [upd_ne ntl, upd_ne nt]; exact et7), fun e' he' => ?_, ?_, ?_, fun i' e' hi' ei' => ?_⟩
            · rcases List.mem_append.mp he' with q | q
              · exact hD5 e' q
              · rw [List.mem_singleton.mp q]; exact ck
            · rw [etake, cameL_app]
              have := hB5.new hLn5 low hc1
              rw [hk] at this
              exact this
            · rw [List.getElem?_append_left lt5]; exact he5
            · rw [List.getElem?_append_left (by omega)] at ei'
              exact hno5 i' e' hi' ei'
        · obtain ⟨v8, v9, E', rfl, S5, hD5, hB5, he5, hno5⟩ := h
          have lt5 := (List.getElem?_eq_some_iff.mp he5).1
          have hfew := few S5 hD5
          rw [show x.cps.size = x.cps.toList.length from (Array.length_toList ..).symm, List.take_length] at hB5
          refine ⟨_, rfl, _, _, rfl, rfl, ⟨n + 1, _, _, _, E', by rw [show ((n + 1 : Nat) : Int) = (n : Int) + 1 by omega]; rfl, S5, by omega, hD5, hB5.next fun c hc => hc, fun i e' hi ei => ?_⟩, ?_⟩
          · by_cases q : i = n
            · subst q
              rw [he5] at ei
              rw [← Option.some.inj ei]
              exact eW
            · exact hno5 i e' (by omega) ei
          · show 200000 - ((n : Int) + 1).toNat < 200000 - (n : Int).toNat
            omega
    · have hge : E.length ≤ n := by
        have : ¬ ((n : Int) < ((cameR E).length : Int)) := of_decide_eq_false (by simpa using c)
        rw [List.length_map] at this
        omega
      refine kk none _ (fin _ S2.ks) (hB2.none (by rw [List.length_map]; exact hge) (W := fun k => W k = true) fun y hy => ?_)
      obtain ⟨e, he, rfl⟩ := List.mem_map.mp hy
      obtain ⟨i, ei⟩ := List.mem_iff_getElem?.mp he
      have := (List.getElem?_eq_some_iff.mp ei).1
      rw [hno i e (by omega) ei]
      simp
end
end My
set_option pp.maxSteps 1500
namespace My
open PySem PySem.Spec PyProof.Rows L2 PySem.GX L2H NdefX LamX
/-! first_shown: two rules walked at once -/
abbrev pairsD (p1 p2 : Parts) : List (List Key) := p1.ms.flatMap fun a => p2.ms.map fun b => k2 a b
def stepP (p1 p2 : Parts) (k : List Key) (c : Nat) : List Key := match k with
  | [Sum.inr a, Sum.inr b] => k2 (ledL p1 a c) (ledL p2 b c)
  | k => k
def wantP (ft : Bool → Bool → Bool) (g1 g2 : List Str) (k : List Key) : Bool := match k with
  | [Sum.inr a, Sum.inr b] => ft (decide (a ∈ g1)) (decide (b ∈ g2))
  | _ => false
/-- whether a row of signs is good -/
def goodOf (p : Parts) (r : Row) : Bool := decide (walkL p (firstL p) r ∈ p.gs)
theorem run_pair (p1 p2 : Parts) : ∀ (r : Row) (a b : Str), runL (stepP p1 p2) (k2 a b) r = k2 (walkL p1 a r) (walkL p2 b r)
  | [], _, _ => rfl
  | c :: r, a, b => run_pair p1 p2 r (ledL p1 a c) (ledL p2 b c)
theorem pairsD_len (as bs : List Str) : (as.flatMap fun a => bs.map fun b => k2 a b).length = as.length * bs.length := by
  induction as with
  | nil => simp
  | cons m t ih =>
    rw [List.flatMap_cons, List.length_append, ih, List.length_map, List.length_cons, Nat.succ_mul]
    omega
theorem in_pairs {p1 p2 : Parts} {k : List Key} : k ∈ pairsD p1 p2 ↔ ∃ a ∈ p1.ms, ∃ b ∈ p2.ms, k = k2 a b := by
  rw [List.mem_flatMap]
  exact ⟨fun ⟨a, ha, h⟩ => let ⟨b, hb, e⟩ := List.mem_map.mp h; ⟨a, ha, b, hb, e.symm⟩, fun ⟨a, ha, b, hb, e⟩ => ⟨a, ha, List.mem_map.mpr ⟨b, hb, e.symm⟩⟩⟩
theorem PartsOk.few {p : Parts} (h : PartsOk p) : p.ms.length ≤ 300 := by
  have := h.mds
  unfold areMoodsL at this
  simp only [Bool.and_eq_true, decide_eq_true_eq] at this
  omega
theorem PartsOk.asc {p : Parts} (h : PartsOk p) : p.sg.cps.toList.Pairwise (· < ·) := by
  have := h.sgs
  rw [areS1] at this
  simp only [Bool.and_eq_true, decide_eq_true_eq] at this
  exact this.2
theorem RuleAt.ext {H H' : Hp} {C a : Addr} {t : Str} {p : Parts} (h : RuleAt H C a t p) (s : ExtN H H') : RuleAt H' C a t p := by
  obtain ⟨dx, M, G, D, e1, e2, e3, e4⟩ := h
  exact ⟨dx, M, G, D, s _ _ e1 (fun _ z => by cases z), s _ _ e2 (fun _ z => by cases z), s _ _ e3 (fun _ z => by cases z), s _ _ e4 (fun _ z => by cases z)⟩
theorem ext_same {H H1 H2 : Hp} (s : ExtN H H1) (s' : Same H1 H2) : ExtN H H2 := fun b o e n => s' _ _ (s b o e n)
theorem ext_trans {H H1 H2 : Hp} (s : ExtN H H1) (s' : ExtN H1 H2) : ExtN H H2 := fun b o e n => s' b o (s b o e n) n
theorem ext_of {H H1 : Hp} (s : Same H H1) : ExtN H H1 := fun b o e _ => s b o e
section
variable {P : Program} {w : World} {K : PySem.W.Frag} {mg : Str → Option Value} {base : Heap} {H0 H : Hp} {g CU : Addr} {O : HO} {F : NF} {p1 p2 : Parts}
theorem callT_step {a b : Addr} {t1 t2 : Str} (C : Clo P w K mg base 1 H g O F ["pair", "sign"] ["one", "other"] [.ref a, .ref b] (spStep CU)) (e : ExtN H0 H) (nn : NewC H0 (F.cl.map (·.2))) (hA : RuleAt H0 CU a t1 p1) (ok1 : PartsOk p1) (hB : RuleAt H0 CU b t2 p2) (ok2 : PartsOk p2) (es : p1.sg = p2.sg) :
    CallT P w K mg base 1 H g (spStepK (pairsD p1 p2) p1.sg.cps.toList (stepP p1 p2)) := by
  refine ⟨O, F, _, _, _, _, C, fun vs H' Q s q => ?_⟩
  obtain ⟨qa, k, x, rfl, eq, hk, hx, kk⟩ := q
  obtain ⟨m1, h1, m2, h2, rfl⟩ := in_pairs.mp hk
  have hE := nn.hide (ext_same e s)
  have C' := C.same s
  refine ⟨a, b, t1, t2, p1, p2, qa, m1, m2, x, rfl, rfl, hA.ext hE, ok1, hB.ext hE, ok2, ?_, h1, h2, hx, by rw [← es]; exact hx, fun r H2 s2 er no => ?_⟩
  · rw [hide_out (C'.clo.cel.out eq fun v z => cellX_tup z.symm)]
    exact eq
  · refine kk r _ (unhide_same s2) ?_
    rw [unhide_out fun m => by rw [no r m] at er; cases er]
    exact er
theorem callT_test {ft : Bool → Bool → Bool} {d1 d2 t : Addr} {g1 g2 : List Str} (C : Clo P w K mg base 2 H g O F ["pair"] ["good_one", "good_other", "test"] [.ref d1, .ref d2, .ref t] (spTest P w K mg base ft g1 g2)) (e : ExtN H0 H) (nn : NewC H0 (F.cl.map (·.2))) (n1 : d1 ∉ F.cl.map (·.2)) (n2 : d2 ∉ F.cl.map (·.2)) (h1 : TrueAt H d1 g1) (h2 : TrueAt H d2 g2) (it : IsTest P w K mg base H0 t ft) :
    CallT P w K mg base 2 H g (spWantK (pairsD p1 p2) (wantP ft g1 g2)) := by
  refine ⟨O, F, _, _, _, _, C, fun vs H' Q s q => ?_⟩
  obtain ⟨qa, k, rfl, eq, hk, kk⟩ := q
  obtain ⟨m1, _, m2, _, rfl⟩ := in_pairs.mp hk
  have hE := nn.hide (ext_same e s)
  have C' := C.same s
  refine ⟨d1, d2, t, qa, m1, m2, rfl, rfl, ?_, ?_, it.ext hE, ?_, fun H2 s2 no => kk _ (unhide_same s2)⟩
  · unfold TrueAt
    rw [hide_out n1]
    exact s _ _ h1
  · unfold TrueAt
    rw [hide_out n2]
    exact s _ _ h2
  · rw [hide_out (C'.clo.cel.out eq fun v z => cellX_tup z.symm)]
    exact eq
end
def spFirstSh (K : PySem.W.Frag) (P : Program) (w : World) (mg : Str → Option Value) (base : Heap) (T : List (Addr × Str)) (C : Addr) : Sp := fun vs H Q _ => ∃ (a b t : Addr) (t1 t2 : Str) (p1 p2 : Parts) (ft : Bool → Bool → Bool), vs = [.ref a, .ref b, .ref t] ∧ Tabs T H ∧ RuleAt H C a t1 p1 ∧ PartsOk p1 ∧ RuleAt H C b t2 p2 ∧ PartsOk p2 ∧ p1.sg = p2.sg ∧ IsTest P w K mg base H t ft ∧
  ∀ (o : Option Row) (H' : Hp), ExtN H H' → Tabs T H' → IsFirst p1.sg.cps.toList (fun r => ft (goodOf p1 r) (goodOf p2 r) = true) o → Q (rowV o) H'
section
variable {P : Program} {w : World} {K : PySem.W.Frag} {mg : Str → Option Value} {base : Heap}
theorem PartsOk.goods {p : Parts} (h : PartsOk p) : p.gs.length ≤ 300 := by
  have := h.gds
  unfold areGoodL at this
  rw [of_decide_eq_true this]
  exact Nat.le_trans (List.length_filter_le ..) h.few
theorem scFirstSh : FnScope ["one", "other", "test"] ["one", "other", "test"] (defScope sFirstSh) := ⟨rfl, rfl, rfl, by decide +kernel, rfl, by decide +kernel, by decide +kernel⟩
theorem ok_firstSh {f C : Addr} {fd : FuncData} {T : List (Addr × Str)} (F : Fun K "first_shown" "first_shown" sFirstSh f fd) (R : RuC K C) (pG : PrF P w K mg base C "signs" "letters") (hFR : Hv P w K mg base 3 "first_row" ["signs", "start", "step", "wanted"] (spFirstRow P w K mg base)) (hFM : Hv P w K mg base 3 "first_moods" ["one", "other"] (spFirstMo C)) (hPS : Hv P w K mg base 1 "pair_step" ["one", "other"] (spPairStep K P w mg base T C)) (hPT : Hv P w K mg base 3 "pair_test" ["one", "other", "test"] (spPairTest K P w mg base T C)) :
    FnOk P w K mg base CX0 4 f fd ["one", "other", "test"] (spFirstSh K P w mg base T C) := by
  obtain ⟨pp, gp, fdp, PP, GP, bP⟩ := pG
  refine F.ok scFirstSh (fun vs H Q E h => ?_) (fun cdv A outer s H vs Q E hr h => ?_)
  · obtain ⟨a, b, t, t1, t2, p1, p2, ft, rfl, _⟩ := h
    rfl
  · obtain ⟨a, b, t, t1, t2, p1, p2, ft, rfl, hT, hA, ok1, hB, ok2, es, hI, k⟩ := h
    have hr1 := hr.mono (by decide : 1 ≤ 3)
    have hr2 := hr.mono (by decide : 2 ≤ 3)
    refine ⟨_, pss_one (ps_ret (pe_cl hFR hr rfl pass0 (pa_cons (pe_prop (pv 0) R.cl PP GP hr2 bP .nil pass0 (by rfl)) (pa_cons (pe_cl hFM hr rfl pass0 (pa_cons (pv 0) (pa_cons (pv 1) pa_nil))) (pa_cons (pe_cl hPS hr1 rfl pass0 (pa_cons (pv 0) (pa_cons (pv 1) pa_nil))) (pa_cons (pe_cl hPT hr rfl pass0 (pa_cons (pv 0) (pa_cons (pv 1) (pa_cons (pv 2) pa_nil)))) pa_nil)))))), ?_⟩
    obtain ⟨dx, M, G, D, e1, e2, e3, e4⟩ := id hA
    refine ⟨_, rfl, a, dx, _, rfl, e1, a, dx, _, .str p1.sg, rfl, e1, rfl, _, rfl, _, rfl, a, b, t1, t2, p1, p2, rfl, hA, ok1, hB, ok2, fun r H1 s1 hr' er => ?_⟩
    refine ⟨_, rfl, _, rfl, a, b, rfl, hT.ext s1, fun g O F' H2 eN T2 nn clo => ?_⟩
    have x2 := ext_trans (ext_of s1) eN
    have hA2 := hA.ext x2
    have hB2 := hB.ext x2
    refine ⟨_, rfl, _, rfl, _, rfl, a, b, t, t1, t2, p1, p2, ft, rfl, T2, hA2, hB2, by have := ok1.goods; omega, by have := ok2.goods; omega, hI.ext x2, fun g' d1 d2 O' F'' H3 eN3 T3 nn3 n1 n2 tr1 tr2 it clo' => ?_⟩
    have cS := callT_step (clo.ext eN3) (ext_trans eN eN3) nn (hA.same s1) ok1 (hB.same s1) ok2 es
    have cT := callT_test (p1 := p1) (p2 := p2) clo' eN3 nn3 n1 n2 tr1 tr2 (hI.ext x2)
    obtain ⟨ms, em⟩ := ok1.first
    obtain ⟨ms', em'⟩ := ok2.first
    have m1 : firstL p1 ∈ p1.ms := by rw [em]; simp
    have m2 : firstL p2 ∈ p2.ms := by rw [em']; simp
    refine ⟨p1.sg, r, g, g', k2 (firstL p1) (firstL p2), pairsD p1 p2, stepP p1 p2, wantP ft p1.gs p2.gs, rfl, eN3 _ _ (eN _ _ er fun _ z => by cases z) (fun _ z => by cases z), in_pairs.mpr ⟨_, m1, _, m2, rfl⟩, ?_, fun kx hk c hc => ?_, ok1.asc, cS, cT, fun o H4 s4 ho => ?_⟩
    · rw [pairsD_len]
      have : p1.ms.length * p2.ms.length ≤ 300 * 300 := Nat.mul_le_mul ok1.few ok2.few
      omega
    · obtain ⟨x, hx, y, hy, rfl⟩ := in_pairs.mp hk
      exact in_pairs.mpr ⟨_, (ok1.goal hx hc).1, _, (ok2.goal hy (by rw [← es]; exact hc)).1, rfl⟩
    · refine k o H4 (ext_same (ext_trans x2 eN3) s4) (T3.ext s4) (ho.imp fun r _ => ?_)
      rw [run_pair]
      exact Iff.rfl
end
end My
set_option pp.maxSteps 1500
namespace My
open PySem PySem.Spec PyProof.Rows L2 PySem.GX L2H NdefX LamX
/-! parting and within: the first row that two rules show -/
def lamAny : Stmt → Arguments × Expr × Scope
  | .Return (some (.Call _ [_, _, .Lambda a e s _] _ _)) _ => (a, e, s)
  | .Return (some (.Compare (.Call _ [_, _, .Lambda a e s _] _ _) _ _ _)) _ => (a, e, s)
  | _ => (default, .Constant .none 0 ⟨0, 0, 0, 0⟩, default)
abbrev paL := lamAny ((defBody sParting).getD 1 (.Pass ⟨0, 0, 0, 0⟩))
abbrev wiL := lamAny ((defBody sWithinR).getD 1 (.Pass ⟨0, 0, 0, 0⟩))
abbrev qPa : Str := ("parting.<locals>.<lambda>" : Str)
abbrev qWi : Str := ("within.<locals>.<lambda>" : Str)
def ftNe : Bool → Bool → Bool := fun x y => x != y
def ftAn : Bool → Bool → Bool := fun x y => x && !y
/-- what two rules show for a word -/
def Shows (p1 p2 : Parts) (ft : Bool → Bool → Bool) (o : Option Row) : Prop := IsFirst p1.sg.cps.toList (fun r => ft (goodOf p1 r) (goodOf p2 r) = true) o
abbrev nLR : List Str := ["left", "right"]
/-- what isinstance asks of a class -/
structure InR (K : PySem.W.Frag) (C : Addr) : Prop where
  cl : Cls K C
  ha : PySem.W.findIn K (.ref C) "__class__" = some (some (.builtin "object.__class__"))
  hn : PySem.W.specialIn K (.builtin "object.__class__") "__get__" = some (some (.builtin "getset_descriptor.__get__"))
  tk : PySem.W.takesIn K (.builtin "object.__class__") = some true
  mo : PySem.W.mroIn K C (.type "object") = some true
  kit : PySem.W.kitOne K (.ref C) (.ref C) = some true
def spCkR (CU : Addr) : Sp := fun vs H Q _ => ∃ (r : Addr) (t : Str) (p : Parts), vs = [.ref r] ∧ RuleAt H CU r t p ∧ ∀ H', Same H H' → Q .non H'
def spCkFit (C : Addr) : Sp := fun vs H Q _ => ∃ (a b : Addr) (t1 t2 : Str) (p1 p2 : Parts), vs = [.ref a, .ref b] ∧ RuleAt H C a t1 p1 ∧ RuleAt H C b t2 p2 ∧ p1.sg = p2.sg ∧ ∀ H', Same H H' → Q .non H'
def spShow (K : PySem.W.Frag) (P : Program) (w : World) (mg : Str → Option Value) (base : Heap) (T : List (Addr × Str)) (C : Addr) (ft : Bool → Bool → Bool) (ov : Option Row → V) : Sp := fun vs H Q _ => ∃ (a b : Addr) (t1 t2 : Str) (p1 p2 : Parts), vs = [.ref a, .ref b] ∧ Tabs T H ∧ RuleAt H C a t1 p1 ∧ PartsOk p1 ∧ RuleAt H C b t2 p2 ∧ PartsOk p2 ∧ p1.sg = p2.sg ∧
  ∀ (o : Option Row) (H' : Hp), ExtN H H' → Tabs T H' → Shows p1 p2 ft o → Q (ov o) H'
section
variable {P : Program} {w : World} {K : PySem.W.Frag} {mg : Str → Option Value} {base : Heap} {CU : Addr}
theorem isi_ruleR {H : Hp} {r : Addr} {t : Str} {p : Parts} (I : InR K CU) (h : RuleAt H CU r t p) : TyX K H (.ref r) (.ref CU) := by
  obtain ⟨dx, M, G, D, e, _⟩ := h
  exact .base (.ins e I.cl I.ha I.hn I.tk I.mo)
theorem scCkR : FnScope ["value"] ["value"] (defScope sCRule) := ⟨rfl, rfl, rfl, by decide +kernel, rfl, by decide +kernel, by decide +kernel⟩
theorem ok_ckR {f : Addr} {fd : FuncData} (F : Fun K "check_rule" "check_rule" sCRule f fd) (I : InR K CU) (hIs : mg "isinstance" = none) (gU : mg "Rule" = some (.ref CU)) : FnOk P w K mg base CX0 1 f fd ["value"] (spCkR CU) := by
  refine F.ok scCkR (fun vs H Q E h => ?_) (fun cdv A outer s H vs Q E hr h => ?_)
  · obtain ⟨r, t, p, rfl, _⟩ := h
    rfl
  · obtain ⟨r, t, p, rfl, hR, k⟩ := h
    refine ⟨_, pss_one (ps_if (pt_not (pt_val (pe_callB call_isi (by rfl) hIs (by decide +kernel) (pa_cons (pv 0) (pa_cons (pe_glob (v := .ref CU) rfl gU rfl) pa_nil))))) (pss_one ps_never) pss_nil), ?_⟩
    exact ⟨_, rfl, .ref r, .ref CU, _, .ref CU, true, rfl, .own _, isi_ruleR I hR, I.kit, _, rfl, iteF (k H (Same.refl _))⟩
theorem scCkFit : FnScope ["one", "other"] ["one", "other"] (defScope sCFit) := ⟨rfl, rfl, rfl, by decide +kernel, rfl, by decide +kernel, by decide +kernel⟩
theorem ok_ckFit {f : Addr} {fd : FuncData} (F : Fun K "check_fit" "check_fit" sCFit f fd) (R : RuC K CU) (hC : Hv P w K mg base 1 "check_rule" ["value"] (spCkR CU)) (pG : PrF P w K mg base CU "signs" "letters") : FnOk P w K mg base CX0 3 f fd ["one", "other"] (spCkFit CU) := by
  obtain ⟨pp, gp, fdp, PP, GP, bP⟩ := pG
  refine F.ok scCkFit (fun vs H Q E h => ?_) (fun cdv A outer s H vs Q E hr h => ?_)
  · obtain ⟨a, b, t1, t2, p1, p2, rfl, _⟩ := h
    rfl
  · obtain ⟨a, b, t1, t2, p1, p2, rfl, hA, hB, es, k⟩ := h
    have hr1 := hr.mono (by decide : 1 ≤ 2)
    refine ⟨_, pss_cons (ps_expr (pe_cl hC hr1 rfl pass0 (pa_cons (pv 0) pa_nil))) (pss_cons (ps_expr (pe_cl hC hr1 rfl pass0 (pa_cons (pv 1) pa_nil)))
      (pss_one (ps_if (pt_cmpR op_ne (pe_prop (pv 0) R.cl PP GP hr bP .nil pass0 (by rfl)) (pe_prop (pv 1) R.cl PP GP hr bP .nil pass0 (by rfl)) (nomark _)) (pss_one ps_never) pss_nil))), ?_⟩
    refine ⟨_, rfl, a, t1, p1, rfl, hA, fun H1 s1 => ?_⟩
    have hB1 := hB.same s1
    refine ⟨_, rfl, b, t2, p2, rfl, hB1, fun H2 s2 => ?_⟩
    have s := s1.trans s2
    obtain ⟨dx, M, G, D, e1, e2, e3, e4⟩ := hA.same s
    obtain ⟨dx', M', G', D', g1, g2, g3, g4⟩ := hB.same s
    refine ⟨_, rfl, a, dx, _, rfl, e1, a, dx, _, .str p1.sg, rfl, e1, rfl, _, rfl, b, dx', _, rfl, g1, b, dx', _, .str p2.sg, rfl, g1, rfl, rfl, _, rfl, ?_⟩
    rw [es, decide_eq_true (rfl : V.str p2.sg = V.str p2.sg)]
    exact iteF (k _ s)
theorem scPaL : NScope nLR ["left", "right"] [] paL.2.2 := nscope_by (by decide +kernel)
theorem scWiL : NScope nLR ["left", "right"] [] wiL.2.2 := nscope_by (by decide +kernel)
theorem run_paL {f : Addr} {F : NF} (hF : ∃ q cl c', F = ⟨"<lambda>", q, paL.1, [], paL.2.2, cl, c'⟩) : COk P w K mg base 1 f (LamO f F paL.2.1) F ["left", "right"] [] (spB ftNe) := by
  obtain ⟨q, cl, c', rfl⟩ := hF
  refine cok_lam (k := 0) (N := nLR) scPaL (fun pm ctv us hl => ?_) (fun ws vs H Q E h => ?_) (fun A outer s H vs ws Q E hr hf hc hl h => ?_)
  · match us, hl with
    | [_, _], _ => rfl
  · obtain ⟨x, y, rfl, _⟩ := h
    rfl
  · obtain ⟨x, y, rfl, k⟩ := h
    have e0 : ws = [] := List.length_eq_zero_iff.mp hl
    subst e0
    refine ⟨_, pe_cmpR op_ne (pv 0) (pv 1) (nomark _), ?_⟩
    refine ⟨_, rfl, _, rfl, rfl, ?_⟩
    have := k H (Same.refl _)
    have e : (!decide (V.bl x = V.bl y)) = ftNe x y := by cases x <;> cases y <;> decide
    rw [e]
    exact this
theorem run_wiL {f : Addr} {F : NF} (hF : ∃ q cl c', F = ⟨"<lambda>", q, wiL.1, [], wiL.2.2, cl, c'⟩) : COk P w K mg base 1 f (LamO f F wiL.2.1) F ["left", "right"] [] (spB ftAn) := by
  obtain ⟨q, cl, c', rfl⟩ := hF
  refine cok_lam (k := 0) (N := nLR) scWiL (fun pm ctv us hl => ?_) (fun ws vs H Q E h => ?_) (fun A outer s H vs ws Q E hr hf hc hl h => ?_)
  · match us, hl with
    | [_, _], _ => rfl
  · obtain ⟨x, y, rfl, _⟩ := h
    rfl
  · obtain ⟨x, y, rfl, k⟩ := h
    have e0 : ws = [] := List.length_eq_zero_iff.mp hl
    subst e0
    refine ⟨_, pe_and (pv 0) (pe_one (pe_not (pv 1))), ?_⟩
    have := k H (Same.refl _)
    refine ⟨_, rfl, x, rfl, ?_⟩
    cases x
    · exact this
    · exact ⟨_, rfl, y, rfl, this⟩
theorem freePaL : ∀ y ∈ paL.2.2.names, y.2 = .free → (defScope sParting).names.lookup y.1 = some .cell ∨ (defScope sParting).names.lookup y.1 = some .free := by decide +kernel
theorem freeWiL : ∀ y ∈ wiL.2.2.names, y.2 = .free → (defScope sWithinR).names.lookup y.1 = some .cell ∨ (defScope sWithinR).names.lookup y.1 = some .free := by decide +kernel
theorem scPartingF : FnScope ["one", "other"] ["one", "other"] (defScope sParting) := ⟨rfl, rfl, rfl, by decide +kernel, rfl, by decide +kernel, by decide +kernel⟩
theorem scWithinF : FnScope ["one", "other"] ["one", "other"] (defScope sWithinR) := ⟨rfl, rfl, rfl, by decide +kernel, rfl, by decide +kernel, by decide +kernel⟩
variable {g cR PT : Addr} {od an : Option Addr} {oc kV dc pm ct : Value} {osl : Array (Option Value)} {T : List (Addr × Str)}
theorem ok_partingS (lk : K.lookup g = some ⟨oc, od, .func (PySem.W.fnOf "parting" "parting" (defArgs sParting) (defBody sParting) (defScope sParting) .none kV dc pm an (.ref cR) ct), osl⟩) (hcd : PySem.W.codeIn K (.ref cR) "parting" = true)
    (TB : TabB base mg cR PT) (hm : (PT, qPa) ∈ T) (hu : ∀ p ∈ T, p.1 = PT → p.2 = qPa) (hCF : Hv P w K mg base 3 "check_fit" ["one", "other"] (spCkFit CU)) (hFS : Hv P w K mg base 4 "first_shown" ["one", "other", "test"] (spFirstSh K P w mg base T CU)) :
    FnOk P w K mg base CX0 5 g (PySem.W.fnOf "parting" "parting" (defArgs sParting) (defBody sParting) (defScope sParting) .none kV dc pm an (.ref cR) ct) ["one", "other"] (spShow K P w mg base T CU ftNe rowV) := by
  refine fn_of lk hcd scPartingF (fun vs H Q E h => ?_) (fun A outer s H vs Q E hr h => ?_)
  · obtain ⟨a, b, t1, t2, p1, p2, rfl, _⟩ := h
    rfl
  · obtain ⟨a, b, t1, t2, p1, p2, rfl, hT, hA, ok1, hB, ok2, es, k⟩ := h
    refine ⟨_, pss_cons (ps_expr (pe_cl hCF (hr.mono (by decide)) rfl pass0 (pa_cons (pv 0) (pa_cons (pv 1) pa_nil))))
      (pss_one (ps_ret (pe_cl hFS hr rfl pass0 (pa_cons (pv 0) (pa_cons (pv 1) (pa_cons (pe_lamO (T := T) (c := cR) (P := PT) TB rfl hm hu rfl freePaL) pa_nil)))))), ?_⟩
    refine ⟨_, rfl, _, rfl, a, b, t1, t2, p1, p2, rfl, hA, hB, es, fun H0 s0 => ?_⟩
    refine ⟨_, rfl, _, rfl, hT.ext s0, fun f c' H1 eN T1 f0 f1 c1 => ?_⟩
    have e2 := ext_trans (ext_of s0) eN
    refine ⟨a, b, f, t1, t2, p1, p2, ftNe, rfl, T1, hA.ext e2, ok1, hB.ext e2, ok2, es, ⟨_, _, _, _, _, clo_nil (by rfl) (run_paL ⟨_, _, c', rfl⟩) f1 c1⟩, fun o H2 eN2 T2 ho => k o H2 (ext_trans e2 eN2) T2 ho⟩
theorem ok_withinS (lk : K.lookup g = some ⟨oc, od, .func (PySem.W.fnOf "within" "within" (defArgs sWithinR) (defBody sWithinR) (defScope sWithinR) .none kV dc pm an (.ref cR) ct), osl⟩) (hcd : PySem.W.codeIn K (.ref cR) "within" = true)
    (TB : TabB base mg cR PT) (hm : (PT, qWi) ∈ T) (hu : ∀ p ∈ T, p.1 = PT → p.2 = qWi) (hCF : Hv P w K mg base 3 "check_fit" ["one", "other"] (spCkFit CU)) (hFS : Hv P w K mg base 4 "first_shown" ["one", "other", "test"] (spFirstSh K P w mg base T CU)) :
    FnOk P w K mg base CX0 5 g (PySem.W.fnOf "within" "within" (defArgs sWithinR) (defBody sWithinR) (defScope sWithinR) .none kV dc pm an (.ref cR) ct) ["one", "other"] (spShow K P w mg base T CU ftAn fun o => .bl o.isNone) := by
  refine fn_of lk hcd scWithinF (fun vs H Q E h => ?_) (fun A outer s H vs Q E hr h => ?_)
  · obtain ⟨a, b, t1, t2, p1, p2, rfl, _⟩ := h
    rfl
  · obtain ⟨a, b, t1, t2, p1, p2, rfl, hT, hA, ok1, hB, ok2, es, k⟩ := h
    refine ⟨_, pss_cons (ps_expr (pe_cl hCF (hr.mono (by decide)) rfl pass0 (pa_cons (pv 0) (pa_cons (pv 1) pa_nil))))
      (pss_one (ps_ret (pe_cmpR op_isN (pe_cl hFS hr rfl pass0 (pa_cons (pv 0) (pa_cons (pv 1) (pa_cons (pe_lamO (T := T) (c := cR) (P := PT) TB rfl hm hu rfl freeWiL) pa_nil)))) pe_non (nomark _)))), ?_⟩
    refine ⟨_, rfl, _, rfl, a, b, t1, t2, p1, p2, rfl, hA, hB, es, fun H0 s0 => ?_⟩
    refine ⟨_, rfl, _, rfl, hT.ext s0, fun f c' H1 eN T1 f0 f1 c1 => ?_⟩
    have e2 := ext_trans (ext_of s0) eN
    refine ⟨a, b, f, t1, t2, p1, p2, ftAn, rfl, T1, hA.ext e2, ok1, hB.ext e2, ok2, es, ⟨_, _, _, _, _, clo_nil (by rfl) (run_wiL ⟨_, _, c', rfl⟩) f1 c1⟩, fun o H2 eN2 T2 ho => ?_⟩
    have kk := k o H2 (ext_trans e2 eN2) T2 ho
    cases o with
    | none => exact ⟨rfl, kk⟩
    | some r => exact ⟨rfl, kk⟩
end
end My
namespace L2
open PySem PySem.Spec PyProof.Rows PySem.GX
section
variable {α β : Type} {J : It} {G : Hp → Prop} {Y : Nat → Hp → V → Hp → Prop} {g g1 : TG} {tt tt1 : TT} {wi1 : TI} {te : TE} {vs vs1 : List Nat} {σ : St} {H1 : Hp} {D : Addr} {Qd : Hp → Prop}
theorem fm_len (xs : List α) (ys : List β) (f : α → β → V) : (xs.flatMap fun a => ys.map (f a)).length = xs.length * ys.length := by
  induction xs with
  | nil => simp
  | cons a t ih => rw [List.flatMap_cons, List.length_append, ih, List.length_map, List.length_cons, Nat.succ_mul, Nat.add_comm]
def NxL (H' : Hp) (D : Addr) (l : List V) : Hp → Prop := fun H6 => (∀ b o, b ≠ D → H' b = some o → H6 b = some o) ∧ H6 D = some (.lst l)
/-- [e for x in .. for y in ..], the second walk always over the same -/
theorem lc2G (xs : List α) (ys : List β) (f : α → β → V) (w : Walk J xs.length G Y) (hz : xs.length * ys.length ≤ 16000000) (hD : H1 D = none) (hY : ∀ i H x H', Y i H x H' → Same H H') (hG : ∀ H', Same H1 H' → G H')
    (turn : ∀ (i : Nat) (a : α) (x : V) (H' H'' : Hp) (Nx : Hp → Prop) (go : It → Hp → St → Prop), xs[i]? = some a → Same H1 H' → Y i H' x H'' →
      (∀ (J1 : It) (H4 : Hp) (σ2 : St) (G1 : Hp → Prop) (Y1 : Nat → Hp → V → Hp → Prop), Same H'' H4 → Walk J1 ys.length G1 Y1 → (∀ i H x H', Y1 i H x H' → Same H H') → (∀ H', Same H1 H' → G1 H') →
        (∀ (j : Nat) (b : β) (y : V) (H5 H6 : Hp) (k : Option V → Hp → Prop), ys[j]? = some b → Same H1 H5 → Y1 j H5 y H6 → (∀ H9, Same H6 H9 → k (some (f a b)) H9) →
          g1 y (wipe σ2 vs1) H6 fun σ3 H7 => wipe σ3 vs1 = wipe σ2 vs1 ∧ tt1 σ3 H7 fun c H8 => if c = true then te σ3 H8 fun v H9 => k (some v) H9 else k none H8) → go J1 H4 σ2) →
      g x (wipe σ vs) H'' fun σ2 H2 => wipe σ2 vs = wipe σ vs ∧ tt σ2 H2 fun b H3 => if b = true then wi1 σ2 H3 fun J1 H4 => go J1 H4 σ2 else Nx H3)
    (hd : ∀ H', Same H1 H' → H' D = some (.lst (xs.flatMap fun a => ys.map (f a))) → Qd H') :
    ∃ W : Nat → Nat → Hp → Prop, (∃ m, W 0 m (upd H1 D (.lst []))) ∧ ∀ i m H, W i m H →
      (J.stop i H ∧ Qd H) ∨ (J.go i H ∧ ∃ Nx : Hp → Prop, (∀ H', Nx H' → ∃ m', m' < m ∧ W (i + 1) m' H') ∧ ∀ x H', J.yld i H x H' → g x (wipe σ vs) H' fun σ2 H2 => wipe σ2 vs = wipe σ vs ∧ tt σ2 H2 fun b H3 =>
        if b = true then wi1 σ2 H3 fun J1 H4 => ∃ W1 : Nat → Nat → Hp → Prop, (∃ m, W1 0 m H4) ∧ ∀ j k H, W1 j k H →
          (J1.stop j H ∧ Nx H) ∨ (J1.go j H ∧ ∃ Nx1 : Hp → Prop, (∀ H', Nx1 H' → ∃ k', k' < k ∧ W1 (j + 1) k' H') ∧ ∀ x H', J1.yld j H x H' → g1 x (wipe σ2 vs1) H' fun σ3 H5 => wipe σ3 vs1 = wipe σ2 vs1 ∧ tt1 σ3 H5 fun b H6 =>
            if b = true then te σ3 H6 fun y H7 => ∃ acc, H7 D = some (.lst acc) ∧ acc.length < sizeLine ∧ Nx1 (upd H7 D (.lst (acc ++ [y]))) else Nx1 H6)
        else Nx H3) := by
  refine ⟨fun i m H => i ≤ xs.length ∧ m = xs.length - i ∧ Same H1 H ∧ H D = some (.lst ((xs.take i).flatMap fun a => ys.map (f a))), ⟨_, Nat.zero_le _, rfl, same_new hD, by rw [upd_same]; rfl⟩, fun i m H ⟨hi, hm, sH, eD⟩ => ?_⟩
  by_cases h : i < xs.length
  rotate_left
  · have e : i = xs.length := by omega
    subst e
    rw [List.take_length] at eD
    exact .inl ⟨w.stops H (hG H sH), hd H sH eD⟩
  have ei : xs[i]? = some xs[i] := List.getElem?_eq_getElem h
  generalize xs[i] = a at ei
  refine .inr ⟨w.goes i H h (hG H sH), fun H' => Same H1 H' ∧ H' D = some (.lst ((xs.take (i + 1)).flatMap fun a => ys.map (f a))), fun H' ⟨s, e⟩ => ⟨_, (by omega : xs.length - (i + 1) < m), by omega, rfl, s, e⟩, fun x H' hy => ?_⟩
  have hy := w.yields i H x H' h (hG H sH) hy
  have sy := hY _ _ _ _ hy
  refine turn i a x H H' _ (fun J1 H4 σ2 => ∃ W1 : Nat → Nat → Hp → Prop, _) ei sH hy fun J1 H4 σ2 G1 Y1 s4 w1 hY1 hG1 t1 => ?_
  refine ⟨fun j k H => j ≤ ys.length ∧ k = ys.length - j ∧ (∀ b o, b ≠ D → H' b = some o → H b = some o) ∧ H D = some (.lst (((xs.take i).flatMap fun a => ys.map (f a)) ++ (ys.take j).map (f a))), ⟨_, Nat.zero_le _, rfl, fun b o _ e => s4 b o e, ?_⟩, fun j k H5 ⟨hj, hk, s5, e5⟩ => ?_⟩
  · rw [List.take_zero, List.map_nil, List.append_nil]
    exact s4 _ _ (sy _ _ eD)
  have s1 : Same H1 H5 := fun b o e => s5 b o (ne_of_none e hD) (sy _ _ (sH _ _ e))
  by_cases h' : j < ys.length
  rotate_left
  · have e : j = ys.length := by omega
    subst e
    refine .inl ⟨w1.stops H5 (hG1 H5 s1), s1, ?_⟩
    rw [e5, List.take_length, List.take_add_one, ei, List.flatMap_append]
    simp
  have ej : ys[j]? = some ys[j] := List.getElem?_eq_getElem h'
  generalize ys[j] = b at ej
  refine .inr ⟨w1.goes j H5 h' (hG1 H5 s1), NxL H' D (((xs.take i).flatMap fun a => ys.map (f a)) ++ (ys.take (j + 1)).map (f a)), fun H6 ⟨s, e⟩ => ⟨_, (by omega : ys.length - (j + 1) < k), by omega, rfl, s, e⟩, fun y H6 hy1 => ?_⟩
  have hy1 := w1.yields j H5 y H6 h' (hG1 H5 s1) hy1
  have s6 := hY1 _ _ _ _ hy1
  refine t1 j b y H5 H6 (fun o H9 => match o with
    | some v => ∃ acc, H9 D = some (.lst acc) ∧ acc.length < sizeLine ∧ NxL H' D (((xs.take i).flatMap fun a => ys.map (f a)) ++ (ys.take (j + 1)).map (f a)) (upd H9 D (.lst (acc ++ [v])))
    | none => NxL H' D (((xs.take i).flatMap fun a => ys.map (f a)) ++ (ys.take (j + 1)).map (f a)) H9) ej s1 hy1 fun H9 s9 => ?_
  have e9 := s9 _ _ (s6 _ _ e5)
  refine ⟨_, e9, ?_, fun c o n e => ?_, ?_⟩
  · rw [List.length_append, fm_len, List.length_map, List.length_take, List.length_take, sizeLine_eq]
    have h1 : min i xs.length = i := by omega
    have h2 : min j ys.length = j := by omega
    rw [h1, h2]
    have h3 : (i + 1) * ys.length ≤ xs.length * ys.length := Nat.mul_le_mul_right _ h
    rw [Nat.succ_mul] at h3
    omega
  · rw [upd_ne n]
    exact s9 _ _ (s6 _ _ (s5 c o n e))
  · rw [upd_same, List.take_add_one, ej, List.map_append, ← List.append_assoc]
    rfl
end
end L2
namespace L2
open PySem PySem.Spec PyProof.Rows PySem.GX
section
variable {X : Cx}
/-- name = {k: v for ..} on one line, the name a local -/
theorem ps_setDc {i : Nat} {y : Str} {py : Pos} {kx vx tg iter : Expr} {ifs : List Expr} {scope : Scope} {own : List (Str × Nat)} {pos spos : Pos} {wi : TI} {g : TG} {tt : TT} {tk tv : TE} (hc : X.calm = true) (hN : X.N.Nodup) (hy : X.N[i]? = some y) (hyl : X.env.scope.names.lookup y = some .local)
    (hsw : swapsWith (.DictComp kx vx [⟨tg, iter, ifs, 0⟩] scope pos) (some (.Name y py)) spos.line X.env = pure true) (hi : PI X tg iter wi) (ok : BlkOk X.N X.env.scope scope own)
    (hg : ∀ (s : Shared) (H : Hp) (C : Addr) (cl : List (Str × Addr)) (fp : List Addr), PG (X.blk s H scope (compEnvC scope cl C X.env) fp) tg g) (ht : ∀ (s : Shared) (H : Hp) (C : Addr) (cl : List (Str × Addr)) (fp : List Addr), PTs (X.blk s H scope (compEnvC scope cl C X.env) fp) ifs tt)
    (hk : ∀ (s : Shared) (H : Hp) (C : Addr) (cl : List (Str × Addr)) (fp : List Addr), PE (X.blk s H scope (compEnvC scope cl C X.env) fp) kx tk)
    (he : ∀ (s : Shared) (H : Hp) (C : Addr) (cl : List (Str × Addr)) (fp : List Addr), PE (X.blk s H scope (compEnvC scope cl C X.env) fp) vx tv) (hs : ∀ x, foldedSetIterable iter X.env x = pure x := by intro _; rfl) :
    PS X (.Assign [.Name y py] (.DictComp kx vx [⟨tg, iter, ifs, 0⟩] scope pos) spos) (tAsg (tDc wi g tt tk tv (own.map (·.2))) (gName i)) := by
  refine ⟨fun pins s σ H D I h => ?_⟩
  rw [exec_Assign_Name_used _ _ _ _ hsw]
  refine wpAny_bind (wpAny_standAt (wpAny_bind ?_))
  show wpAny _ X.A (do let _ ← comprehension (.DictComp kx vx [⟨tg, iter, ifs, 0⟩] scope pos) scope X.env (firstIterPos [⟨tg, iter, ifs, 0⟩] pos) newDict false (eval iter X.env) (some (assign (.Name y py) X.env))) _ _ s
  have h : tDc wi g tt tk tv (own.map (·.2)) σ H (fun x H1 => gName i x σ H1 D.nx) := h
  refine wpAny_bind (thn (dc_core (Qf := fun _ s' => SP X pins D .next s') hc hN I hi ok hg ht hk he hs h fun L C s' m H' I' q hn f => ?_) fun _ s' hq => wpAny_pure (wpAny_pure hq))
  show wpAny _ _ (assign (.Name y py) X.env (.ref L)) _ _ _
  refine wpAny_assign_Name (store_ok2 (v := V.ref L) I' hN hy (.inl hyl) rfl (fun s2 I2 ⟨a, sb, ha⟩ => ?_) (.inr hyl))
  obtain ⟨f0, f1, f2, f3, f4, f5⟩ := f
  have haC : C ≠ a := by
    rcases ha with z | z
    · rw [z]; exact f1
    · exact fun e => f4 y a z e.symm
  refine ⟨m, hn.sameBut sb haC, fun h3 sb3 => ?_⟩
  exact ⟨_, H', I2.turned (t' := s2.toks) (fun b o hb e => (sb3.2 b hb).trans e) f0 f1 f3 f4 f5, q⟩
theorem sw_trueD {kx vx : Expr} {gs : List Comprehension} {scope : Scope} {pos py : Pos} {y : Str} {l : Nat} {env : Env} (hk : env.scope.kind = .function) (hy : env.scope.names.lookup y = some .local) (hl : (py.line == pos.line) = true)
    (ha : (scope.names.any fun (n, k) => n == y && (k == .local || k == .cell)) = false) : swapsWith (.DictComp kx vx gs scope pos) (some (.Name y py)) l env = pure true := by
  have ky : env.kindOf y = some .local := hy
  have hb : env.blockKind = .function := by unfold Env.blockKind; rw [hk]; rfl
  unfold swapsWith
  simp only [hb, ky, ha, Expr.pos, hl]
  rfl
end
end L2
namespace L2
open PySem PySem.Spec PyProof.Rows PySem.GX
/-! a dict comprehension whose keys are tuples of ints and texts -/
section
variable {X : Cx}
theorem dc_coreT {pl : List (Addr × Obj)} {s : Shared} {σ : St} {H : Hp} {Q : VK} {kx vx tg iter : Expr} {ifs : List Expr} {scope : Scope} {own : List (Str × Nat)} {pos pos' : Pos} {wi : TI} {g : TG} {tt : TT} {tk tv : TE} {use : Option (Value → Sem Unit)} {Qf : Value → Shared → Prop}
    (hr : X.A.units + 64 < cLine) (calm : X.calm = true) (hN : X.N.Nodup) (I : Inv X pl σ H s) (hi : PI X tg iter wi) (ok : BlkOk X.N X.env.scope scope own)
    (hg : ∀ (s : Shared) (H : Hp) (C : Addr) (cl : List (Str × Addr)) (fp : List Addr), PG (X.blk s H scope (compEnvC scope cl C X.env) fp) tg g)
    (ht : ∀ (s : Shared) (H : Hp) (C : Addr) (cl : List (Str × Addr)) (fp : List Addr), PTs (X.blk s H scope (compEnvC scope cl C X.env) fp) ifs tt)
    (hk : ∀ (s : Shared) (H : Hp) (C : Addr) (cl : List (Str × Addr)) (fp : List Addr), PE (X.blk s H scope (compEnvC scope cl C X.env) fp) kx tk)
    (hv : ∀ (s : Shared) (H : Hp) (C : Addr) (cl : List (Str × Addr)) (fp : List Addr), PE (X.blk s H scope (compEnvC scope cl C X.env) fp) vx tv)
    (hs : ∀ x, foldedSetIterable iter X.env x = pure x)
    (h : tDcT wi g tt tk tv (own.map (·.2)) σ H Q)
    (hRR : ∀ D C s' m H', Inv X pl σ H' s' → Q (.ref D) H' → s'.heap.Ns C m → FpOk X pl H' C → compPost (model X.prog X.w) X.A X.xe use Qf (.ref D) C (.ok .next) s') :
    wpAny (model X.prog X.w) X.A (comprehension (.DictComp kx vx [⟨tg, iter, ifs, 0⟩] scope pos) scope X.env pos' newDict false (eval iter X.env) use) Qf X.xe s := by
  have frees : ∀ y ∈ scope.names, y.2 = .free → ∃ c, X.env.cells.lookup y.1 = some c := fun y hy e => by
    rcases ok.free y hy e with k | k
    · exact I.ok.has _ (.inl k)
    · exact I.ok.has _ (.inr k)
  refine wpAny_comprehension_free (use := use) rfl hs (closure_ok frees) ok.kind (fun y hy e => by rw [ok.uniq y hy, e]) (thn (hi.run pl s σ H _ I h) fun _ sa ha => thn ha fun _ sb hb => ?_)
  obtain ⟨it, fp, tn, J, Hb, rfl, Ib, T, tb, okb, want⟩ := hb
  refine wpAny_newObj_type (newEnv_comp ?_)
  -- the new dict
  generalize eD : sb.heap.objs.size = D
  have freeD : Hb D = none := Ib.hok.fresh (Nat.le_of_eq eD)
  obtain ⟨W, ⟨m0, begins⟩, turn⟩ := want D freeD
  generalize esc : ({ sb with heap := sb.heap.push { cls := .type "dict", data := .dict #[] } } : Shared) = sc
  have hsc : sc.heap = sb.heap.push { cls := .type "dict", data := .dict #[] } := by rw [← esc]
  have Ic : Inv X pl σ (upd Hb D (.dT [])) sc := by
    rw [← esc]
    refine Ib.laid (t' := sb.toks) (fun b o e => Heap.get?_push_of_some _ e) (Nat.le_of_eq eD) ?_
    rw [← eD]
    exact dt_empty sb.heap Ib.big
  have old : ∀ b ∈ fp, b < sb.heap.objs.size := fun b hb => by
    obtain ⟨o, e, _⟩ := T.obj _ _ tb b hb
    exact Heap.lt_size e
  have okc : ∀ b ∈ fp, FpOk X pl (upd Hb D (.dT [])) b ∧ b < sc.heap.objs.size := fun b hb => by
    have lt := old b hb
    refine ⟨⟨?_, (okb b hb).2⟩, ?_⟩
    · rw [upd_ne (by rw [← eD]; exact Nat.ne_of_lt lt)]
      exact (okb b hb).1
    · rw [hsc, Heap.size_push]
      exact Nat.lt_succ_of_lt lt
  have tc : tn 0 sc.heap := T.keep _ _ _ tb fun b _ o e => by
    rw [hsc]
    exact Heap.get?_push_of_some _ e
  -- the block
  have Id := block_start Ic ok hN okc
  have g1 := hg sc (upd Hb D (.dT [])) sc.heap.objs.size (cellsFrom (sc.heap.objs.size + 1) scope.names (cloFrom X.env.cells scope.names [])) fp
  have g2 := ht sc (upd Hb D (.dT [])) sc.heap.objs.size (cellsFrom (sc.heap.objs.size + 1) scope.names (cloFrom X.env.cells scope.names [])) fp
  have g3 := hk sc (upd Hb D (.dT [])) sc.heap.objs.size (cellsFrom (sc.heap.objs.size + 1) scope.names (cloFrom X.env.cells scope.names [])) fp
  have g4 := hv sc (upd Hb D (.dT [])) sc.heap.objs.size (cellsFrom (sc.heap.objs.size + 1) scope.names (cloFrom X.env.cells scope.names [])) fp
  show codeAny _ _ (.compStart (.DictComp kx vx [⟨tg, iter, ifs, 0⟩] scope pos) 0 (.ref it) (.ref D) (compEnvC scope (cellsFrom (sc.heap.objs.size + 1) scope.names (cloFrom X.env.cells scope.names [])) sc.heap.objs.size X.env)) (compPost (model X.prog X.w) X.A X.xe use Qf (.ref D) sc.heap.objs.size)
    { sc with heap := pushCells (sc.heap.push { cls := .type "dict", data := .dict #[] }) scope.names }
  have hid : ∀ b ∈ fp, (upd Hb D (.dT [])) b = none := fun b hb => (okc b hb).1.1
  generalize eenv : compEnvC scope (cellsFrom (sc.heap.objs.size + 1) scope.names (cloFrom X.env.cells scope.names [])) sc.heap.objs.size X.env = env at Id g1 g2 g3 g4 ⊢
  have eloc : env.locals = sc.heap.objs.size := by subst eenv; rfl
  generalize eHc : upd Hb D (.dT []) = Hc at Ic Id g1 g2 g3 g4 begins hid okc
  generalize esd : ({ sc with heap := pushCells (sc.heap.push { cls := .type "dict", data := .dict #[] }) scope.names } : Shared) = sd at Id ⊢
  have td : tn 0 sd.heap := T.keep _ _ _ tc fun b _ o e => by
    rw [← esd]
    exact pushCells_keeps _ _ _ _ (Heap.get?_push_of_some _ e)
  have fpOk : ∀ {σ' : St} {H' : Hp} {s' : Shared}, Inv (X.blk sc Hc scope env fp) [] σ' H' s' → (∀ b ∈ fp, H' b = none) → ∀ b ∈ fp, FpOk (X.blk sc Hc scope env fp) [] H' b := fun {σ' H' s'} I' free b hb => by
    refine ⟨free b hb, (I'.ok.exf b hb).1, I'.ok.exfs b hb, .inl hb, fun x c e => (I'.ok.exf b hb).2 x c e, fun p hp => ?_⟩
    exact absurd (show p ∈ ([] : List (Addr × Obj)) ++ [] from hp) (by simp)
  refine codeAny_compStart_dict ?lp (T.self X.A 0 _ _ _ td ?lp)
  refine compLoop_anyD (fun n s' => ∃ i H', Inv (X.blk sc Hc scope env fp) [] (wipe σ (own.map (·.2))) H' s' ∧ tn i s'.heap ∧ (∀ b ∈ fp, H' b = none) ∧ W i n H') ?_ m0 ⟨0, Hc, Id, td, hid, begins⟩
  rintro n se ⟨i, He, Ie, te, free, at_⟩
  rcases turn i n He at_ with ⟨stop, wish⟩ | ⟨goes, On, next, step⟩
  · refine thnF (T.done (X.blk sc Hc scope env fp) rfl rfl rfl calm i [] se _ He (fun _ _ => False) Ie (fpOk Ie free) te stop) fun r sf ⟨hr, If⟩ => ?_
    subst hr
    have back : Inv X pl σ He sf := Ic.call' (ch := fp) If.os If.base If.hok If.bare fun b hb => ⟨(okc b hb).1.2.2.2.1, (okc b hb).1.2.1, (okc b hb).1.2.2.2.2.1, (okc b hb).1.2.2.2.2.2⟩
    have noC : He sc.heap.objs.size = none := by
      have z : He env.locals = none := If.free
      rw [eloc] at z
      exact z
    obtain ⟨m, hn, _⟩ := If.loc
    have hn' : sf.heap.Ns env.locals m := hn
    rw [eloc] at hn'
    exact hRR D sc.heap.objs.size sf m He back wish hn' (Ic.fpOk (Nat.le_refl _) noC)
  · refine thnF (T.item (X.blk sc Hc scope env fp) rfl rfl rfl calm i [] se _ He (fun _ _ => False) Ie (fpOk Ie free) te goes) fun r sf ⟨u, hr, hf⟩ => ?_
    subst hr
    refine thnF hf fun _ sg ⟨x, Hg, Ig, rg, yg, tg', freeg⟩ => ?_
    have pinned := Ig.pinned (fpOk Ig freeg) (T.obj _ _ tg')
    refine thnF (g1.run _ sg _ Hg x u _ pinned rg (step x Hg yg)) fun _ sh ⟨σh, Hh, Ih, wh, qh⟩ => ?_
    refine thnF (g2.run _ sh σh Hh _ Ih qh) fun b si ⟨Hi, Ii, qi⟩ => ?_
    have ends : ∀ {s' : Shared} {H' : Hp}, Inv (X.blk sc Hc scope env fp) ([] ++ pinsAt fp sg.heap) σh H' s' → On H' →
        ∃ m, m < n ∧ ∃ i H', Inv (X.blk sc Hc scope env fp) [] (wipe σ (own.map (·.2))) H' s' ∧ tn i s'.heap ∧ (∀ b ∈ fp, H' b = none) ∧ W i m H' := fun {s' H'} I' on => by
      obtain ⟨m', lt, at'⟩ := next H' on
      have kept : ∀ b ∈ fp, ∀ o, sg.heap.get? b = some o → s'.heap.get? b = some o ∧ H' b = none := fun b hb o e => by
        have z := I'.pin (b, o) (List.mem_append_right _ (List.mem_append_right _ (mem_pinsAt hb e)))
        exact ⟨z.1, z.2.1⟩
      have len : (wipe σ (own.map (·.2))).length = σh.length := by
        rw [← wh, wipe_length]
      refine ⟨m', lt, i + 1, H', (I'.unpinned (pins := [])).weak len (fun j y e => ?_), T.keep _ _ _ tg' fun b hb o e => (kept b hb o e).1, fun b hb => ?_, at'⟩
      · rw [← wh] at e
        exact (wipe_some e).1
      · obtain ⟨o, e, _⟩ := T.obj _ _ tg' b hb
        exact (kept b hb o e).2
    cases b with
    | false =>
      simp only [Bool.false_eq_true, if_false] at qi ⊢
      exact ends Ii qi
    | true =>
      simp only [if_true] at qi ⊢
      refine thnF (g3.run _ si σh Hi _ Ii qi) fun _ sj ⟨yk, Hj, Ij, rj, qj⟩ => ?_
      refine thnF (g4.run _ sj σh Hj _ Ij qj) fun _ sk ⟨yv, Hk, Ik, rk, kvs, k, t, ek, et, eDk, few, on⟩ => ?_
      subst ek
      exact dictSet_tup (X := X.blk sc Hc scope env fp) (by show X.A.units < cLine; omega) Ik eDk et few rj rk fun _ Il => ends Il on
theorem ps_setDcT {i : Nat} {y : Str} {py : Pos} {kx vx tg iter : Expr} {ifs : List Expr} {scope : Scope} {own : List (Str × Nat)} {pos spos : Pos} {wi : TI} {g : TG} {tt : TT} {tk tv : TE} (hr : X.A.units + 64 < cLine) (hc : X.calm = true) (hN : X.N.Nodup) (hy : X.N[i]? = some y) (hyl : X.env.scope.names.lookup y = some .local)
    (hsw : swapsWith (.DictComp kx vx [⟨tg, iter, ifs, 0⟩] scope pos) (some (.Name y py)) spos.line X.env = pure true) (hi : PI X tg iter wi) (ok : BlkOk X.N X.env.scope scope own)
    (hg : ∀ (s : Shared) (H : Hp) (C : Addr) (cl : List (Str × Addr)) (fp : List Addr), PG (X.blk s H scope (compEnvC scope cl C X.env) fp) tg g) (ht : ∀ (s : Shared) (H : Hp) (C : Addr) (cl : List (Str × Addr)) (fp : List Addr), PTs (X.blk s H scope (compEnvC scope cl C X.env) fp) ifs tt)
    (hk : ∀ (s : Shared) (H : Hp) (C : Addr) (cl : List (Str × Addr)) (fp : List Addr), PE (X.blk s H scope (compEnvC scope cl C X.env) fp) kx tk)
    (he : ∀ (s : Shared) (H : Hp) (C : Addr) (cl : List (Str × Addr)) (fp : List Addr), PE (X.blk s H scope (compEnvC scope cl C X.env) fp) vx tv) (hs : ∀ x, foldedSetIterable iter X.env x = pure x := by intro _; rfl) :
    PS X (.Assign [.Name y py] (.DictComp kx vx [⟨tg, iter, ifs, 0⟩] scope pos) spos) (tAsg (tDcT wi g tt tk tv (own.map (·.2))) (gName i)) := by
  refine ⟨fun pins s σ H D I h => ?_⟩
  rw [exec_Assign_Name_used _ _ _ _ hsw]
  refine wpAny_bind (wpAny_standAt (wpAny_bind ?_))
  show wpAny _ X.A (do let _ ← comprehension (.DictComp kx vx [⟨tg, iter, ifs, 0⟩] scope pos) scope X.env (firstIterPos [⟨tg, iter, ifs, 0⟩] pos) newDict false (eval iter X.env) (some (assign (.Name y py) X.env))) _ _ s
  have h : tDcT wi g tt tk tv (own.map (·.2)) σ H (fun x H1 => gName i x σ H1 D.nx) := h
  refine wpAny_bind (thn (dc_coreT hr (Qf := fun _ s' => SP X pins D .next s') hc hN I hi ok hg ht hk he hs h fun L C s' m H' I' q hn f => ?_) fun _ s' hq => wpAny_pure (wpAny_pure hq))
  show wpAny _ _ (assign (.Name y py) X.env (.ref L)) _ _ _
  refine wpAny_assign_Name (store_ok2 (v := V.ref L) I' hN hy (.inl hyl) rfl (fun s2 I2 ⟨a, sb, ha⟩ => ?_) (.inr hyl))
  obtain ⟨f0, f1, f2, f3, f4, f5⟩ := f
  have haC : C ≠ a := by
    rcases ha with z | z
    · rw [z]; exact f1
    · exact fun e => f4 y a z e.symm
  refine ⟨m, hn.sameBut sb haC, fun h3 sb3 => ?_⟩
  exact ⟨_, H', I2.turned (t' := s2.toks) (fun b o hb e => (sb3.2 b hb).trans e) f0 f1 f3 f4 f5, q⟩
end
end L2
set_option pp.maxSteps 1500
namespace My
open PySem PySem.Spec PyProof.Rows L2 PySem.GX L2H NdefX LamX
/-! explored: the states behind rows, from one state on -/
/-- a state that came: its key, its row, where it stands -/
structure Nm where
  key : List Key
  row : Row
  addr : Addr
def numD : Nat → List Nm → List (List Key × V)
  | _, [] => []
  | i, e :: t => (e.key, V.int (i : Int)) :: numD (i + 1) t
abbrev exR (E : List Nm) : List V := E.map fun e => V.ref e.addr
abbrev exL (E : List Nm) : List (List Key × Row) := E.map fun e => (e.key, e.row)
theorem num_len : ∀ (i : Nat) (E : List Nm), (numD i E).length = E.length
  | _, [] => rfl
  | i, e :: t => by show (numD (i + 1) t).length + 1 = _; rw [num_len (i + 1) t]; rfl
theorem num_app (e : Nm) : ∀ (i : Nat) (E : List Nm), numD i (E ++ [e]) = numD i E ++ [(e.key, V.int ((i + E.length : Nat) : Int))]
  | _, [] => rfl
  | i, y :: t => by
    show (y.key, _) :: numD (i + 1) (t ++ [e]) = _
    rw [num_app e (i + 1) t, show i + (y :: t).length = i + 1 + t.length by rw [List.length_cons]; omega]
    rfl
theorem num_has (k : List Key) : ∀ (i : Nat) (E : List Nm), (valV (numD i E) k).isSome = true ↔ k ∈ E.map Nm.key
  | _, [] => ⟨fun h => (by cases h), fun h => (by cases h)⟩
  | i, y :: E => by
    have ih := num_has k (i + 1) E
    show (valV ((y.key, V.int (i : Int)) :: numD (i + 1) E) k).isSome = true ↔ _
    rw [List.map_cons, List.mem_cons]
    by_cases q : y.key = k
    · rw [valV_pos q]
      exact ⟨fun _ => .inl q.symm, fun _ => rfl⟩
    · rw [valV_neg q, ih]
      exact ⟨.inr, fun h => h.elim (fun z => absurd z.symm q) id⟩
theorem num_not {k : List Key} {i : Nat} {E : List Nm} (h : k ∉ E.map Nm.key) : (valV (numD i E) k).isSome = false := by
  rw [← Bool.not_eq_true]
  exact fun z => h ((num_has k i E).mp z)
theorem num_val : ∀ {i j : Nat} {E : List Nm} {e : Nm}, (E.map Nm.key).Nodup → E[j]? = some e → valV (numD i E) e.key = some (V.int ((i + j : Nat) : Int))
  | i, j, [], e, _, h => by simp at h
  | i, 0, y :: E, e, _, h => by
    obtain rfl : y = e := by simpa using h
    exact valV_pos rfl
  | i, j + 1, y :: E, e, nd, h => by
    rw [List.map_cons, List.nodup_cons] at nd
    rw [List.getElem?_cons_succ] at h
    show valV ((y.key, V.int (i : Int)) :: numD (i + 1) E) e.key = _
    have ne : ¬ y.key = e.key := fun q => nd.1 (by rw [q]; exact List.mem_map.mpr ⟨e, List.mem_of_getElem? h, rfl⟩)
    rw [valV_neg ne, num_val nd.2 h, show i + 1 + j = i + (j + 1) by omega]
/-- the numbers of the goals of a state -/
def Goes (E : List Nm) (step : List Key → Nat → List Key) (k : List Key) (cs js : List Nat) : Prop := js.length = cs.length ∧ ∀ (t c j : Nat), cs[t]? = some c → js[t]? = some j → ∃ e, E[j]? = some e ∧ e.key = step k c
theorem Goes.up {E : List Nm} {step : List Key → Nat → List Key} {k : List Key} {cs js : List Nat} (h : Goes E step k cs js) (F : List Nm) : Goes (E ++ F) step k cs js :=
  ⟨h.1, fun t c j a b => let ⟨e, q, z⟩ := h.2 t c j a b; ⟨e, by rw [List.getElem?_append_left (List.getElem?_eq_some_iff.mp q).1]; exact q, z⟩⟩
theorem Goes.more {E : List Nm} {step : List Key → Nat → List Key} {k : List Key} {cs js : List Nat} {c j : Nat} {e : Nm} (h : Goes E step k cs js) (ej : E[j]? = some e) (ek : e.key = step k c) : Goes E step k (cs ++ [c]) (js ++ [j]) := by
  refine ⟨by rw [List.length_append, List.length_append, h.1]; rfl, fun t c' j' a b => ?_⟩
  rw [List.getElem?_append] at a b
  rw [h.1] at b
  split at a
  · rename_i hi
    rw [if_pos hi] at b
    exact h.2 t c' j' a b
  · rename_i hi
    rw [if_neg hi] at b
    cases hz : t - cs.length with
    | zero =>
      rw [hz] at a b
      obtain rfl : c = c' := by simpa using a
      obtain rfl : j = j' := by simpa using b
      exact ⟨e, ej, ek⟩
    | succ m => rw [hz] at a; cases a
abbrev intsV (js : List Nat) : List V := js.map fun j : Nat => V.int (j : Int)
/-- how far it is -/
structure Exq (sg : Row) (step : List Key → Nat → List Key) (H1 H : Hp) (d l g : Addr) (E : List Nm) (Gs : List Addr) : Prop where
  ks : ∀ b o, b ≠ d → b ≠ l → b ≠ g → H1 b = some o → H b = some o
  lg : l ≠ g
  el : H l = some (.lst (exR E))
  ed : H d = some (.dT (numD 0 E))
  eg : H g = some (.lst (Gs.map V.ref))
  at_ : ∀ e ∈ E, H e.addr = some (stK e.key)
  nd : (E.map Nm.key).Nodup
  gn : ∀ z ∈ Gs, z ≠ l ∧ z ≠ g
  gs : ∀ (i : Nat) (z : Addr) (e : Nm), Gs[i]? = some z → E[i]? = some e → ∃ js, H z = some (.lst (intsV js)) ∧ Goes E step e.key sg js
section
variable {sg : Row} {step : List Key → Nat → List Key} {H1 H : Hp} {d l g : Addr} {E : List Nm} {Gs : List Addr}
theorem Exq.new (h : Exq sg step H1 H d l g E Gs) {H' : Hp} (s : Same H H') : Exq sg step H1 H' d l g E Gs :=
  ⟨fun b o n1 n2 n3 e => s _ _ (h.ks b o n1 n2 n3 e), h.lg, s _ _ h.el, s _ _ h.ed, s _ _ h.eg, fun e he => s _ _ (h.at_ e he), h.nd, h.gn, fun i z e a b => let ⟨js, q, r⟩ := h.gs i z e a b; ⟨js, s _ _ q, r⟩⟩
/-- a write to a list of its own -/
theorem Exq.wr (h : Exq sg step H1 H d l g E Gs) {p : Addr} {xs : List V} {o : HO} (hp : H1 p = none) (ep : H p = some (.lst xs)) (nl : p ≠ l) (ng : p ≠ g) (nz : p ∉ Gs) : Exq sg step H1 (upd H p o) d l g E Gs := by
  have nt : ∀ {b ys}, H b = some (.tup ys) → b ≠ p := fun e => ne_of e ep (by intro z; cases z)
  refine ⟨fun b o n1 n2 n3 e => ?_, h.lg, ?_, ?_, ?_, fun e he => ?_, h.nd, h.gn, fun i z e a b => ?_⟩
  · rw [upd_ne (ne_of_none e hp)]; exact h.ks b o n1 n2 n3 e
  · rw [upd_ne nl.symm]; exact h.el
  · rw [upd_ne (ne_of h.ed ep (by intro z; cases z))]; exact h.ed
  · rw [upd_ne ng.symm]; exact h.eg
  · rw [upd_ne (nt (h.at_ e he))]; exact h.at_ e he
  · obtain ⟨js, q, r⟩ := h.gs i z e a b
    exact ⟨js, by rw [upd_ne fun (y : z = p) => nz (y ▸ List.mem_of_getElem? a)]; exact q, r⟩
theorem exR_app (E : List Nm) (e : Nm) : exR (E ++ [e]) = exR E ++ [V.ref e.addr] := by
  show List.map _ _ = _
  rw [List.map_append]
  rfl
theorem exL_app (E : List Nm) (e : Nm) : exL (E ++ [e]) = exL E ++ [(e.key, e.row)] := by
  show List.map _ _ = _
  rw [List.map_append]
  rfl
theorem app_at {α : Type} {E : List α} {y : α} {i : Nat} {e : α} (h : (E ++ [y])[i]? = some e) : E[i]? = some e ∨ (i = E.length ∧ e = y) := by
  rw [List.getElem?_append] at h
  split at h
  · exact .inl h
  · rename_i hi
    cases hz : i - E.length with
    | zero => rw [hz] at h; exact .inr ⟨by omega, (Option.some.inj h).symm⟩
    | succ m => rw [hz] at h; cases h
/-- a new state -/
theorem Exq.add (h : Exq sg step H1 H d l g E Gs) (hg : Gs.length ≤ E.length) {k : List Key} (hn : k ∉ E.map Nm.key) {r : Addr} {w : Row} {H2 : Hp} (er : H2 r = some (stK k)) (s : ∀ b o, b ≠ d → b ≠ l → H b = some o → H2 b = some o) (el : H2 l = some (.lst (exR (E ++ [⟨k, w, r⟩])))) (ed : H2 d = some (.dT (numD 0 (E ++ [⟨k, w, r⟩])))) : Exq sg step H1 H2 d l g (E ++ [⟨k, w, r⟩]) Gs := by
  have tu : ∀ b xs, H b = some (.tup xs) → H2 b = some (.tup xs) := fun b xs e => s b _ (ne_of e h.ed (by intro z; cases z)) (ne_of e h.el (by intro z; cases z)) e
  have li : ∀ b xs, b ≠ l → H b = some (.lst xs) → H2 b = some (.lst xs) := fun b xs n e => s b _ (ne_of e h.ed (by intro z; cases z)) n e
  refine ⟨fun b o n1 n2 n3 e => s _ _ n1 n2 (h.ks b o n1 n2 n3 e), h.lg, el, ed, li _ _ h.lg.symm h.eg, fun e he => ?_, ?_, h.gn, fun i z e a b => ?_⟩
  · rcases List.mem_append.mp he with q | q
    · exact tu _ _ (h.at_ e q)
    · rw [List.mem_singleton.mp q]; exact er
  · rw [List.map_append, List.nodup_append]
    refine ⟨h.nd, by simp, fun x hx z hz q => ?_⟩
    have : z = k := by simpa using hz
    exact hn (this ▸ q ▸ hx)
  · have lt := (List.getElem?_eq_some_iff.mp a).1
    rcases app_at b with b | ⟨q, _⟩
    · obtain ⟨js, q, r⟩ := h.gs i z e a b
      exact ⟨js, li _ _ (h.gn z (List.mem_of_getElem? a)).1 q, r.up _⟩
    · omega
/-- a new row of goals -/
theorem Exq.push (h : Exq sg step H1 H d l g E Gs) {p : Addr} {js : List Nat} {e : Nm} (he : E[Gs.length]? = some e) (ep : H p = some (.lst (intsV js))) (gj : Goes E step e.key sg js) (nl : p ≠ l) (ng : p ≠ g) : Exq sg step H1 (upd H g (.lst ((Gs ++ [p]).map V.ref))) d l g E (Gs ++ [p]) := by
  have nt : ∀ {b ys}, H b = some (.tup ys) → b ≠ g := fun e => ne_of e h.eg (by intro z; cases z)
  refine ⟨fun b o n1 n2 n3 e => ?_, h.lg, ?_, ?_, upd_same, fun e he => ?_, h.nd, fun z hz => ?_, fun i z e' a b => ?_⟩
  · rw [upd_ne n3]; exact h.ks b o n1 n2 n3 e
  · rw [upd_ne h.lg]; exact h.el
  · rw [upd_ne (ne_of h.ed h.eg (by intro z; cases z))]; exact h.ed
  · rw [upd_ne (nt (h.at_ e he))]; exact h.at_ e he
  · rcases List.mem_append.mp hz with q | q
    · exact h.gn z q
    · rw [List.mem_singleton.mp q]; exact ⟨nl, ng⟩
  · rcases app_at a with a | ⟨rfl, rfl⟩
    · obtain ⟨js, q, r⟩ := h.gs i z e' a b
      exact ⟨js, by rw [upd_ne (h.gn z (List.mem_of_getElem? a)).2]; exact q, r⟩
    · obtain rfl : e = e' := Option.some.inj (he.symm.trans b)
      exact ⟨js, by rw [upd_ne ng]; exact ep, gj⟩
end
theorem Exq.fresh {sg : Row} {step : List Key → Nat → List Key} {H1 H : Hp} {d l g : Addr} {E : List Nm} {Gs : List Addr} (h : Exq sg step H1 H d l g E Gs) (hg : Gs.length ≤ E.length) {p : Addr} (hp : H p = none) : H1 p = none ∧ p ≠ l ∧ p ≠ g ∧ p ∉ Gs := by
  have a1 : p ≠ l := fun z => by rw [z, h.el] at hp; cases hp
  have a2 : p ≠ g := fun z => by rw [z, h.eg] at hp; cases hp
  have a3 : p ≠ d := fun z => by rw [z, h.ed] at hp; cases hp
  refine ⟨?_, a1, a2, fun m => ?_⟩
  · cases e : H1 p with
    | none => rfl
    | some o => rw [h.ks p o a3 a1 a2 e] at hp; cases hp
  · obtain ⟨i, hi⟩ := List.mem_iff_getElem?.mp m
    have lt := (List.getElem?_eq_some_iff.mp hi).1
    obtain ⟨js, q, _⟩ := h.gs i p E[i] hi (List.getElem?_eq_getElem (by omega))
    rw [q] at hp
    cases hp
/-- what is told at the end -/
structure Explored (sg : Row) (step : List Key → Nat → List Key) (k0 : List Key) (H : Hp) (l g : Addr) (E : List Nm) (Gs : List Addr) : Prop where
  el : H l = some (.lst (exR E))
  eg : H g = some (.lst (Gs.map V.ref))
  at_ : ∀ e ∈ E, H e.addr = some (stK e.key)
  nd : (E.map Nm.key).Nodup
  gl : Gs.length = E.length
  gs : ∀ (i : Nat) (z : Addr) (e : Nm), Gs[i]? = some z → E[i]? = some e → ∃ js, H z = some (.lst (intsV js)) ∧ Goes E step e.key sg js
  bfs : Bfs sg step k0 (exL E) E.length []
def spExplored (P : Program) (w : World) (K : PySem.W.Frag) (mg : Str → Option Value) (base : Heap) : Sp := fun vs H Q _ => ∃ (x : Str) (ls a fs : Addr) (k0 : List Key) (D : List (List Key)) (step : List Key → Nat → List Key) (m : Nat), vs = [.str x, .ref ls, .ref fs, .int (m : Int)] ∧ H ls = some (.lst [.ref a]) ∧ H a = some (stK k0) ∧ k0 ∈ D ∧ D.length ≤ m ∧ m ≤ 100000 ∧ (∀ k ∈ D, ∀ c ∈ x.cps.toList, step k c ∈ D) ∧ x.cps.toList.Pairwise (· < ·) ∧ x.cps.toList.length ≤ 1000 ∧
  CallT P w K mg base 1 H fs (spStepK D x.cps.toList step) ∧ ∀ (r l g : Addr) (E : List Nm) (Gs : List Addr) (H' : Hp), Same H H' → H' r = some (.tup [.ref l, .ref g]) → Explored x.cps.toList step k0 H' l g E Gs → (∀ e ∈ E, e.key ∈ D) → Q (.ref r) H'
end My
set_option pp.maxSteps 1500
namespace My
open PySem PySem.Spec PyProof.Rows L2 PySem.GX L2H NdefX LamX
section
variable {P : Program} {w : World} {K : PySem.W.Frag} {mg : Str → Option Value} {base : Heap}
abbrev nExplored : List Str := ["signs", "starts", "step", "most", "numbers", "states", "goals", "state", "places", "sign", "goal", "number", "start"]
theorem scExplored : FnScope nExplored ["signs", "starts", "step", "most"] (defScope sExplored) := ⟨rfl, rfl, rfl, by decide +kernel, rfl, by decide +kernel, by decide +kernel⟩
def atX (σ : List (Option V)) (H : Hp) : Nat := match σ[6]? with
  | some (some (V.ref l)) => (match H l with
    | some (.lst xs) => 200000 - xs.length
    | _ => 0)
  | _ => 0
theorem ok_explored {f : Addr} {fd : FuncData} (F : Fun K "explored" "explored" sExplored f fd) (hL : mg "len" = none) (hEn : mg "enumerate" = none) (hLi : mg "list" = none) : FnOk P w K mg base CX0 3 f fd ["signs", "starts", "step", "most"] (spExplored P w K mg base) := by
  refine F.ok scExplored (fun vs H Q E h => ?_) (fun cdv A outer s H vs Q E hr h => ?_)
  · obtain ⟨x, ls, a, fs, k0, D, step, m, rfl, _⟩ := h
    rfl
  · obtain ⟨x, ls, a, fs, k0, D, step, m, rfl, hls, ha, hk0, zD, zm, cl, asc, zx, hS, kk⟩ := h
    have hu := hu_of hr
    have hr1 := hr.mono (by decide : 1 ≤ 2)
    refine ⟨_, pss_cons (ps_setDcT (i := 4) (own := [("number", 11), ("start", 12)]) (g := gTup K 2 (gCons (gName 11) (gCons (gName 12) gNil))) (tt := tYes) hr.units rfl scExplored.nd rfl rfl (sw_trueD rfl rfl rfl (by decide +kernel)) (pi_enum rfl hEn (pa_cons (pv 1) pa_nil)) (blkOk_by (N := nExplored) (sc := defScope sExplored) (by decide +kernel))
          (fun _ _ _ _ _ => pg_tup rfl (pgs_cons (pg_name (i := 11) scExplored.nd rfl (Or.inl rfl)) (pgs_cons (pg_name (i := 12) scExplored.nd rfl (Or.inl rfl)) pgs_nil))) (fun _ _ _ _ _ => pts_nil) (fun _ _ _ _ _ => pv 12) (fun _ _ _ _ _ => pv 11))
      (pss_cons (ps_set (i := 5) scExplored.nd rfl (Or.inl rfl) (pe_callTy call_list_of (by rfl) hLi (by decide +kernel) (pa_cons (pv 1) pa_nil)))
      (pss_cons (ps_set (i := 6) scExplored.nd rfl (Or.inl rfl) (pe_lst pa_nil))
      (pss_cons (ps_while PassesOwn.never (pt_cmpR op_lt (pe_callB call_len_seq (by rfl) hL PySem.boot_len (pa_cons (pv 6) pa_nil)) (pe_callB call_len_seq (by rfl) hL PySem.boot_len (pa_cons (pv 5) pa_nil)) (nomark _))
        (pss_cons (ps_set (i := 7) scExplored.nd rfl (Or.inl rfl) (pe_ix ix_list (pv 5) (pe_callB call_len_seq (by rfl) hL PySem.boot_len (pa_cons (pv 6) pa_nil)) (fun _ _ => rfl)))
        (pss_cons (ps_set (i := 8) scExplored.nd rfl (Or.inl rfl) (pe_lst pa_nil))
        (pss_cons (ps_for PassesOwn.never rfl (pi_str (pv 0)) (pg_name (i := 9) scExplored.nd rfl (Or.inl rfl))
          (pss_cons (ps_set (i := 10) scExplored.nd rfl (Or.inl rfl) (pe_callT (k := 1) (i := 2) (P := P) (w := w) (K := K) (mg := mg) (base := base) rfl rfl rfl rfl rfl hr1 rfl (Or.inl rfl) (pa_cons (pv 7) (pa_cons (pv 9) pa_nil))))
          (pss_cons (ps_if (pt_cmp (pc_dnotin hu (pv 10) (pv 4))) (pss_cons (ps_dput hu (pv 4) (pv 10) (pe_callB call_len_seq (by rfl) hL PySem.boot_len (pa_cons (pv 5) pa_nil)) rfl) (pss_one (ps_expr (pe_bm PySem.F.plainAttrs_list PySem.F.slot_list_append PySem.F.type_list_append mt_append (pv 5) (pa_cons (pv 10) pa_nil))))) pss_nil)
          (pss_one (ps_expr (pe_bm PySem.F.plainAttrs_list PySem.F.slot_list_append PySem.F.type_list_append mt_append (pv 8) (pa_cons (pe_dget hu (pv 4) (pv 10) (fun _ _ => rfl)) pa_nil)))))))
        (pss_cons (ps_expr (pe_bm PySem.F.plainAttrs_list PySem.F.slot_list_append PySem.F.type_list_append mt_append (pv 6) (pa_cons (pv 8) pa_nil)))
        (pss_one (ps_if (pt_cmpR op_gt (pe_callB call_len_seq (by rfl) hL PySem.boot_len (pa_cons (pv 5) pa_nil)) (pv 3) (nomark _)) (pss_one ps_never) pss_nil)))))))
      (pss_one (ps_ret (pe_tup (pa_cons (pv 5) (pa_cons (pv 6) pa_nil)))))))), ?_⟩
    refine ⟨_, rfl, ls, _, rfl, SqL.of hls, fun d hd => ?_⟩
    refine dcGT [k0] id (fun _ => V.int 0) (walk_enum (K := K) (a := ls) (xs := [.ref a])) (by show 1 ≤ 16000000; decide) hd (fun i H x H' hy => ?_) (fun H' s => SqL.of (s _ _ hls)) (fun i e y H' H'' k1 k2 he s hy q => ?_) (fun H0 s0 ed => ?_)
    · obtain ⟨T, x, y, rfl, hT, rfl, _⟩ := hy
      exact same_new hT
    · obtain ⟨T, x', y', rfl, hT, rfl, e1, e2⟩ := hy
      have hi : i = 0 := by have := (List.getElem?_eq_some_iff.mp he).1; simpa using this
      subst hi
      obtain rfl : V.int ((0 : Nat) : Int) = x' := Option.some.inj e1
      obtain rfl : V.ref a = y' := Option.some.inj e2
      obtain rfl : k0 = e := Option.some.inj he
      exact ⟨T, _, rfl, SqT.of upd_same, rfl, _, _, rfl, _, _, rfl, rfl, rfl, _, rfl, _, rfl, q a _ (Same.refl _) (same_new hT _ _ (s _ _ ha))⟩
    have ed : H0 d = some (.dT (numD 0 [⟨k0, [], a⟩])) := ed
    refine ⟨_, rfl, ls, _, rfl, .inl (SqL.of (s0 _ _ hls)), fun l hl => ?_⟩
    refine ⟨by show 0 ≤ sizeLine; decide, fun g hg => ?_⟩
    have sH := (s0.trans (same_new (o := .lst [.ref a]) hl)).trans (same_new (o := .lst []) hg)
    have el := keep1 (o := .lst []) (upd_same (a := l) (H := H0) (o := .lst [.ref a])) hg
    have eg := upd_same (a := g) (H := upd H0 l (.lst [.ref a])) (o := .lst [])
    have ed := keep1 (o := .lst []) (keep1 (o := .lst [.ref a]) ed hl) hg
    have nlg : l ≠ g := ne_of_none (upd_same (a := l) (H := H0) (o := .lst [.ref a])) hg
    have fd' : ∀ b o, H b = some o → b ≠ d := fun b o e => ne_of_none e hd
    have fl' : ∀ b o, H b = some o → b ≠ l := fun b o e => ne_of_none (s0 _ _ e) hl
    have fg' : ∀ b o, H b = some o → b ≠ g := fun b o e => ne_of_none (keep1 (o := .lst [.ref a]) (s0 _ _ e) hl) hg
    generalize upd (upd H0 l (.lst [.ref a])) g (.lst []) = H1 at sH el eg ed ⊢
    clear hd hl hg
    have b0 : Exq x.cps.toList step H1 H1 d l g [⟨k0, [], a⟩] [] := ⟨fun _ _ _ _ _ e => e, nlg, el, ed, eg, fun e he => by rw [List.mem_singleton.mp he]; exact sH _ _ ha, by simp, fun z hz => (by cases hz), fun i z e h => (by cases h)⟩
    have fin : ∀ {H' : Hp} {E : List Nm} {Gs : List Addr}, Exq x.cps.toList step H1 H' d l g E Gs → Same H H' := fun S b o e => S.ks _ _ (fd' _ _ e) (fl' _ _ e) (fg' _ _ e) (sH _ _ e)
    have few : ∀ {H' : Hp} {E : List Nm} {Gs : List Addr}, Exq x.cps.toList step H1 H' d l g E Gs → (∀ e ∈ E, e.key ∈ D) → E.length ≤ m := fun {H' E Gs} S hD => by
      have := nodup_len S.nd (m := D) (fun k hk => by obtain ⟨e, he, rfl⟩ := List.mem_map.mp hk; exact hD e he)
      rw [List.length_map] at this
      omega
    refine while_by (fun σ H' => ∃ (v7 v8 v9 v10 : Option V) (E : List Nm) (Gs : List Addr), σ = [some (.str x), some (.ref ls), some (.ref fs), some (.int (m : Int)), some (.ref d), some (.ref l), some (.ref g), v7, v8, v9, v10, none, none] ∧ Exq x.cps.toList step H1 H' d l g E Gs ∧ Gs.length ≤ E.length ∧ (∀ e ∈ E, e.key ∈ D) ∧ Bfs x.cps.toList step k0 (exL E) Gs.length []) atX
      ⟨none, none, none, none, _, [], rfl, b0, Nat.zero_le _, fun e he => by rw [List.mem_singleton.mp he]; exact hk0, bfs_start⟩ (fun σ H2 h => ?_) ?mono
    case mono =>
      rintro σ H Q Q' m ⟨a1, a2, a3, a4, a5, a6, a7, a8, a9, a10, a11, a12, a13, a14, a15, a16, a17, a18, q⟩
      exact ⟨a1, a2, a3, a4, a5, a6, a7, a8, a9, a10, a11, a12, a13, a14, a15, a16, a17, a18, m _ _ q⟩
    obtain ⟨v7, v8, v9, v10, E, Gs, rfl, S2, hn, hD, hB2⟩ := h
    have hfew := few S2 hD
    refine ⟨_, rfl, g, _, rfl, .inl (SqL.of S2.eg), _, rfl, l, _, rfl, .inl (SqL.of S2.el), _, _, rfl, rfl, _, rfl, ite2 (fun c => ?_) (fun c => ?_)⟩
    · have c1 : ((Gs.map V.ref).length : Int) < ((exR E).length : Int) := of_decide_eq_true c
      rw [List.length_map, List.length_map] at c1
      have hlt : Gs.length < E.length := by omega
      clear c c1
      have he : E[Gs.length]? = some E[Gs.length] := List.getElem?_eq_getElem hlt
      generalize E[Gs.length] = e at he
      refine ⟨_, rfl, _, rfl, g, _, rfl, .inl (SqL.of S2.eg), l, _, _, V.ref e.addr, rfl, rfl, SqL.of S2.el, atI_nat (by rw [List.length_map, List.getElem?_map, he]; rfl), ?_⟩
      refine ⟨by show 0 ≤ sizeLine; decide, fun p hp => ?_⟩
      obtain ⟨p0, npl, npg, npG⟩ := S2.fresh hn hp
      have S3 := S2.new (same_new (o := .lst []) hp)
      have ep3 := upd_same (a := p) (H := H2) (o := .lst [])
      generalize eH3 : upd H2 p (.lst []) = H3 at S3 ep3 ⊢
      have s23 : Same H2 H3 := by rw [← eH3]; exact same_new hp
      refine ⟨_, rfl, x, rfl, ?_⟩
      refine for_it walk_str (fun i σ H' => ∃ (v9 v10 : Option V) (E' : List Nm) (js : List Nat), σ = [some (.str x), some (.ref ls), some (.ref fs), some (.int (m : Int)), some (.ref d), some (.ref l), some (.ref g), some (.ref e.addr), some (.ref p), v9, v10, none, none] ∧ Exq x.cps.toList step H1 H' d l g E' Gs ∧ H' p = some (.lst (intsV js)) ∧ Goes E' step e.key (x.cps.toList.take i) js ∧ (∀ e ∈ E', e.key ∈ D) ∧ Bfs x.cps.toList step k0 (exL E') Gs.length (x.cps.toList.take i) ∧ E'[Gs.length]? = some e)
        ⟨v9, v10, E, [], rfl, S3, ep3, ⟨by rw [List.take_zero], fun t c j h => by rw [List.take_zero] at h; cases h⟩, hD, by simpa using hB2, he⟩ (fun _ _ _ _ _ => trivial) (fun i y σ H4 H5 hi h hy => ?_) (fun σ H4 h => ?_)
      · obtain ⟨rfl, c, hc, rfl⟩ := hy
        obtain ⟨v9, v10, E', js, rfl, S5, ep5, gj5, hD5, hB5, he5⟩ := h
        rw [← Array.getElem?_toList] at hc
        have hc1 : c ∈ x.cps.toList := List.mem_of_getElem? hc
        have em5 := List.mem_of_getElem? he5
        have ea5 := S5.at_ e em5
        have hLn5 : (exL E')[Gs.length]? = some (e.key, e.row) := by rw [List.getElem?_map, he5]; rfl
        have etake : x.cps.toList.take (i + 1) = x.cps.toList.take i ++ [c] := by rw [List.take_add_one, hc]; rfl
        have ljs : js.length ≤ 1000000 := by
          have := gj5.1
          rw [List.length_take] at this
          omega
        have low : ∀ b ∈ x.cps.toList.take i, b < c := fun b hb => by
          obtain ⟨j, hj⟩ := List.mem_iff_getElem?.mp hb
          have hji : j < i := by
            have := (List.getElem?_eq_some_iff.mp hj).1
            rw [List.length_take] at this
            omega
          rw [List.getElem?_take_of_lt hji] at hj
          obtain ⟨q1, q2⟩ := List.getElem?_eq_some_iff.mp hj
          obtain ⟨q3, q4⟩ := List.getElem?_eq_some_iff.mp hc
          have := List.pairwise_iff_getElem.mp asc j i q1 q3 hji
          rw [q2, q4] at this
          exact this
        refine ⟨fs, H, spStepK D x.cps.toList step, rfl, hS, fin S5, _, rfl, _, rfl, fin S5, e.addr, e.key, c, rfl, ea5, hD5 e em5, hc1, fun r H6 s6 er => ?_⟩
        have S6 := S5.new s6
        have ep6 := s6 _ _ ep5
        have ck : step e.key c ∈ D := cl _ (hD5 e em5) c hc1
        generalize hk : step e.key c = k at er ck
        have hfew5 := few S6 hD5
        refine ⟨_, rfl, _, rfl, d, _, rfl, DGet.t (k := k) S6.ed er, _, rfl, ?_⟩
        by_cases hm : k ∈ E'.map Nm.key
        · rw [(num_has _ _ _).mpr hm]
          obtain ⟨z, hz, ez⟩ := List.mem_map.mp hm
          obtain ⟨j, ej⟩ := List.mem_iff_getElem?.mp hz
          have dg := DGet.t (k := k) S6.ed er
          rw [← ez, num_val S6.nd ej, Nat.zero_add] at dg
          refine iteF ⟨_, rfl, .inl ⟨rfl, _, SqL.of ep6⟩, _, rfl, _, rfl, d, V.int (j : Int), rfl, dg, p, _, _, rfl, rfl, ep6, by rw [List.length_map, sizeLine_eq]; omega, ?_⟩
          have S7 := S6.wr (o := .lst (intsV js ++ [V.int (j : Int)])) p0 ep6 npl npg npG
          refine ⟨_, _, E', js ++ [j], rfl, S7, by rw [upd_same, intsV, intsV, List.map_append]; rfl, ?_, hD5, ?_, he5⟩
          · rw [etake]
            exact gj5.more ej (ez.trans hk.symm)
          · rw [etake]
            exact hB5.old hLn5 low (z := (z.key, z.row)) (List.mem_map.mpr ⟨z, hz, rfl⟩) (ez.trans hk.symm)
        · have hnot := num_not (i := 0) hm
          rw [hnot]
          refine iteT ?_
          refine ⟨_, rfl, l, _, rfl, .inl (SqL.of S6.el), _, rfl, _, rfl, d, upd H6 d (.dT (numD 0 (E' ++ [⟨k, e.row ++ [c], r⟩]))), rfl, ?_, ?_⟩
          · have pk : putK (numD 0 E') k (V.int ((exR E').length : Int)) = numD 0 (E' ++ [⟨k, e.row ++ [c], r⟩]) := by
              rw [putK_new _ (Option.isNone_iff_eq_none.mp (by simpa using hnot)), num_app, Nat.zero_add, List.length_map]
            rw [← pk]
            exact DPut.t (k := k) S6.ed er (by rw [num_len, sizeLine_eq]; omega)
          have nr : r ≠ d := ne_of er S6.ed (by intro z; cases z)
          have nrl : r ≠ l := ne_of er S6.el (by intro z; cases z)
          have npd : p ≠ d := ne_of ep6 S6.ed (by intro z; cases z)
          have nld : l ≠ d := ne_of S6.el S6.ed (by intro z; cases z)
          have el8 : upd H6 d (.dT (numD 0 (E' ++ [⟨k, e.row ++ [c], r⟩]))) l = some (.lst (exR E')) := by rw [upd_ne nld]; exact S6.el
          refine ⟨_, rfl, .inl ⟨rfl, _, SqL.of el8⟩, _, rfl, l, _, _, rfl, rfl, el8, by rw [List.length_map, sizeLine_eq]; omega, ?_⟩
          have lt5 := (List.getElem?_eq_some_iff.mp he5).1
          have S8 := S6.add (k := k) (r := r) (w := e.row ++ [c]) (H2 := upd (upd H6 d (.dT (numD 0 (E' ++ [⟨k, e.row ++ [c], r⟩])))) l (.lst (exR E' ++ [V.ref r]))) (by omega) hm (by rw [upd_ne nrl, upd_ne nr]; exact er) (fun b o n1 n2 q => by rw [upd_ne n2, upd_ne n1]; exact q) (by rw [upd_same, exR_app]) (by rw [upd_ne nld.symm]; exact upd_same)
          have ep8 : upd (upd H6 d (.dT (numD 0 (E' ++ [⟨k, e.row ++ [c], r⟩])))) l (.lst (exR E' ++ [V.ref r])) p = some (.lst (intsV js)) := by rw [upd_ne npl, upd_ne npd]; exact ep6
          have er8 : upd (upd H6 d (.dT (numD 0 (E' ++ [⟨k, e.row ++ [c], r⟩])))) l (.lst (exR E' ++ [V.ref r])) r = some (stK k) := by rw [upd_ne nrl, upd_ne nr]; exact er
          have ej : (E' ++ [⟨k, e.row ++ [c], r⟩])[E'.length]? = some ⟨k, e.row ++ [c], r⟩ := by simp
          show ∃ _, _
          generalize upd (upd H6 d (.dT (numD 0 (E' ++ [⟨k, e.row ++ [c], r⟩])))) l (.lst (exR E' ++ [V.ref r])) = H8 at S8 ep8 er8 ⊢
          have dg := DGet.t (k := k) S8.ed er8
          rw [show valV (numD 0 (E' ++ [⟨k, e.row ++ [c], r⟩])) k = _ from num_val S8.nd ej, Nat.zero_add] at dg
          refine ⟨_, rfl, .inl ⟨rfl, _, SqL.of ep8⟩, _, rfl, _, rfl, d, V.int (E'.length : Int), rfl, dg, p, _, _, rfl, rfl, ep8, by rw [List.length_map, sizeLine_eq]; omega, ?_⟩
          have S9 := S8.wr (o := .lst (intsV js ++ [V.int (E'.length : Int)])) p0 ep8 npl npg npG
          refine ⟨_, _, E' ++ [⟨k, e.row ++ [c], r⟩], js ++ [E'.length], rfl, S9, by rw [upd_same, intsV, intsV, List.map_append]; rfl, ?_, fun e' he' => ?_, ?_, ?_⟩
          · rw [etake]
            exact (gj5.up _).more ej hk.symm
          · rcases List.mem_append.mp he' with q | q
            · exact hD5 e' q
            · rw [List.mem_singleton.mp q]; exact ck
          · rw [etake, exL_app]
            have := hB5.new hLn5 low hc1
            rw [hk] at this
            exact this
          · rw [List.getElem?_append_left lt5]; exact he5
      · obtain ⟨v9, v10, E', js, rfl, S5, ep5, gj5, hD5, hB5, he5⟩ := h
        have lt5 := (List.getElem?_eq_some_iff.mp he5).1
        have hfew5 := few S5 hD5
        rw [show x.cps.size = x.cps.toList.length from (Array.length_toList ..).symm, List.take_length] at hB5 gj5
        refine ⟨_, rfl, .inl ⟨rfl, _, SqL.of S5.eg⟩, _, rfl, g, _, _, rfl, rfl, S5.eg, by rw [List.length_map, sizeLine_eq]; omega, ?_⟩
        have S6 := S5.push he5 ep5 gj5 npl npg
        rw [List.map_append] at S6
        refine ⟨_, rfl, l, _, rfl, .inl (SqL.of S6.el), _, rfl, _, _, rfl, rfl, _, rfl, ite2 (fun c => ?_) (fun _ => ?_)⟩
        · have c1 : ((exR E').length : Int) > (m : Int) := of_decide_eq_true c
          rw [List.length_map] at c1
          omega
        · refine ⟨⟨_, _, _, _, E', Gs ++ [p], rfl, S6, by rw [List.length_append]; exact lt5, hD5, ?_⟩, ?_⟩
          · rw [List.length_append]
            exact hB5.next fun c hc => hc
          · show (match upd H4 g (.lst (Gs.map V.ref ++ [V.ref p])) g with | some (.lst xs) => 200000 - xs.length | _ => 0) < (match H2 g with | some (.lst xs) => 200000 - xs.length | _ => 0)
            rw [upd_same, S2.eg]
            show 200000 - (Gs.map V.ref ++ [V.ref p]).length < 200000 - (Gs.map V.ref).length
            rw [List.length_append, List.length_map]
            show 200000 - (Gs.length + 1) < _
            omega
    · have hge : E.length ≤ Gs.length := by
        have : ¬ (((Gs.map V.ref).length : Int) < ((exR E).length : Int)) := of_decide_eq_false (by simpa using c)
        rw [List.length_map, List.length_map] at this
        omega
      have hl : Gs.length = E.length := by omega
      refine ⟨_, rfl, _, rfl, by show 2 ≤ sizeLine; decide, fun r hr' => ?_⟩
      have sr := same_new (o := .tup [.ref l, .ref g]) hr'
      have S3 := S2.new sr
      rw [hl] at hB2
      exact kk r l g E Gs _ (fin S3) upd_same ⟨S3.el, S3.eg, S3.at_, S3.nd, hl, S3.gs, hB2⟩ hD
end
end My
namespace L2
open PySem PySem.Spec PyProof.Rows PySem.GX
/-- these addresses hold these pairs of texts -/
def Pr2 (H : Hp) : List Addr → List (Str × Str) → Prop
  | [], [] => True
  | a :: as, p :: ps => H a = some (.tup [.str p.1, .str p.2]) ∧ Pr2 H as ps
  | _, _ => False
theorem Pr2.same {H H' : Hp} (s : ∀ b o, H b = some o → H' b = some o) : ∀ {as : List Addr} {ps : List (Str × Str)}, Pr2 H as ps → Pr2 H' as ps
  | [], [], _ => trivial
  | _ :: _, _ :: _, h => ⟨s _ _ h.1, Pr2.same s h.2⟩
  | [], _ :: _, h => h.elim
  | _ :: _, [], h => h.elim
theorem Pr2.keep {H H' : Hp} (s : ∀ b u v, H b = some (.tup [.str u, .str v]) → H' b = some (.tup [.str u, .str v])) : ∀ {as : List Addr} {ps : List (Str × Str)}, Pr2 H as ps → Pr2 H' as ps
  | [], [], _ => trivial
  | _ :: _, _ :: _, h => ⟨s _ _ _ h.1, Pr2.keep s h.2⟩
  | [], _ :: _, h => h.elim
  | _ :: _, [], h => h.elim
theorem Pr2.len {H : Hp} : ∀ {as : List Addr} {ps : List (Str × Str)}, Pr2 H as ps → as.length = ps.length
  | [], [], _ => rfl
  | _ :: _, _ :: _, h => by rw [List.length_cons, List.length_cons, Pr2.len h.2]
  | [], _ :: _, h => h.elim
  | _ :: _, [], h => h.elim
theorem Pr2.app {H : Hp} : ∀ {as bs : List Addr} {ps qs : List (Str × Str)}, Pr2 H as ps → Pr2 H bs qs → Pr2 H (as ++ bs) (ps ++ qs)
  | [], _, [], _, _, h => h
  | _ :: _, _, _ :: _, _, h, g => ⟨h.1, Pr2.app h.2 g⟩
  | [], _, _ :: _, _, h, _ => h.elim
  | _ :: _, _, [], _, h, _ => h.elim
theorem Pr2.get {H : Hp} : ∀ {as : List Addr} {ps : List (Str × Str)} {i : Nat} {a : Addr}, Pr2 H as ps → as[i]? = some a → ∃ p, ps[i]? = some p ∧ H a = some (.tup [.str p.1, .str p.2])
  | _ :: _, p :: _, 0, _, h, e => by
    obtain rfl := Option.some.inj e
    exact ⟨p, rfl, h.1⟩
  | _ :: as, _ :: ps, i + 1, a, h, e => Pr2.get (as := as) (ps := ps) (i := i) h.2 e
  | [], [], _, _, _, e => by cases e
  | [], _ :: _, _, _, h, _ => h.elim
  | _ :: _, [], _, _, h, _ => h.elim
theorem Pr2.drop {H : Hp} : ∀ {as : List Addr} {ps : List (Str × Str)} (n : Nat), Pr2 H as ps → Pr2 H (as.drop n) (ps.drop n)
  | _, _, 0, h => h
  | [], [], _ + 1, _ => trivial
  | _ :: _, _ :: _, n + 1, h => Pr2.drop n h.2
  | [], _ :: _, _, h => h.elim
  | _ :: _, [], _, h => h.elim
theorem Pr2.take {H : Hp} : ∀ {as : List Addr} {ps : List (Str × Str)} (n : Nat), Pr2 H as ps → Pr2 H (as.take n) (ps.take n)
  | _, _, 0, _ => trivial
  | [], [], _ + 1, _ => trivial
  | _ :: _, _ :: _, n + 1, h => ⟨h.1, Pr2.take n h.2⟩
  | [], _ :: _, _, h => h.elim
  | _ :: _, [], _, h => h.elim
/-- is the value at v a pair of such parts -/
def hitP (H : Hp) (d1 d2 : PyData) : Value → Bool
  | .ref a => match H a with
    | some (.tup [.str u, .str v]) => isTx u d1 && isTx v d2
    | _ => false
  | _ => false
theorem hit_at {H : Hp} {a : Addr} {u v : Str} {d1 d2 : PyData} (e : H a = some (.tup [.str u, .str v])) : hitP H d1 d2 (.ref a) = (isTx u d1 && isTx v d2) := by
  simp only [hitP, e]
theorem hit_any {H : Hp} {d1 d2 : PyData} : ∀ {as : List Addr} {ps : List (Str × Str)} {its : List Value}, Pr2 H as ps → Vals (as.map V.ref) its → its.any (hitP H d1 d2) = ps.any fun p => isTx p.1 d1 && isTx p.2 d2
  | [], [], _, _, r => by cases r; rfl
  | a :: as, p :: ps, _, h, r => by
    cases r with
    | cons r1 r2 =>
      cases r1
      rw [List.any_cons, List.any_cons, hit_any h.2 r2, hit_at h.1]
  | [], _ :: _, _, h, _ => h.elim
  | _ :: _, [], _, h, _ => h.elim
theorem hit_mem {H : Hp} : ∀ {as : List Addr} {ps : List (Str × Str)} {its : List Value} {y : Value}, Pr2 H as ps → Vals (as.map V.ref) its → y ∈ its → ∃ a u v, y = .ref a ∧ H a = some (.tup [.str u, .str v])
  | [], [], _, _, _, r, m => by cases r; cases m
  | a :: as, p :: ps, _, _, h, r, m => by
    cases r with
    | cons r1 r2 =>
      cases r1
      rcases List.mem_cons.mp m with e | m
      · exact ⟨a, p.1, p.2, e, h.1⟩
      · exact hit_mem h.2 r2 m
  | [], _ :: _, _, _, h, _, _ => h.elim
  | _ :: _, [], _, _, h, _, _ => h.elim
section
variable {X : Cx}
theorem pair_eqAt {pins : List (Addr × Obj)} {σ : St} {H : Hp} {s : Shared} (I : Inv X pins σ H s) {a t : Addr} {u v : Str} {x1 x2 : V} {d1 d2 : PyData} (ea : H a = some (.tup [.str u, .str v])) (et : SqT X.K H t [x1, x2]) (h1 : Sh X.K H x1 d1) (h2 : Sh X.K H x2 d2) {A : Around} (hu : A.units + 1 < cLine) :
    SeqAt.EqAt A s (.ref a) (.ref t) (isTx u d1 && isTx v d2) := by
  have ha : SqT X.K H a [.str u, .str v] := SqT.of ea
  by_cases e : a = t
  · subst e
    obtain ⟨its, rv, ⟨o, ho, hc, n, hd⟩, _⟩ := I.tuple ha
    obtain ⟨its', rv', ⟨o', ho', hc', n', hd'⟩, _⟩ := I.tuple et
    rw [ho] at ho'
    obtain rfl := Option.some.inj ho'
    rw [hd] at hd'
    have : its = its' := by
      have h3 : its.toArray = its'.toArray := by injection hd'
      simpa using h3
    subst this
    cases rv with
    | cons r1 r2 =>
      cases r2 with
      | cons r2 r3 =>
        cases r3
        cases rv' with
        | cons q1 q2 =>
          cases q2 with
          | cons q2 q3 =>
            cases q3
            obtain ⟨k1, rfl⟩ := r1
            obtain ⟨k2, rfl⟩ := r2
            have g : ∀ (z : Str) (tk : Tok) (x : V) (d : PyData), Sh X.K H x d → RelV x (.str z tk) → isTx z d = true := by
              intro z tk x d h r
              cases h with
              | fl f =>
                cases f with
                | non => cases r
                | bl b => cases r
                | int i => obtain ⟨_, r⟩ := r; cases r
                | str y =>
                  obtain ⟨_, r⟩ := r
                  injection r with r1 _
                  subst r1
                  exact decide_eq_true rfl
              | lst _ _ => cases r
              | tup _ _ => cases r
              | dic _ _ _ => cases r
            rw [g u k1 x1 d1 h1 q1, g v k2 x2 d2 h2 q2]
            exact SeqAt.EqAt.same _
  · obtain ⟨its, rv, ho1, _⟩ := I.tuple ha
    obtain ⟨its', rv', ho2, _⟩ := I.tuple et
    cases rv with
    | cons r1 r2 =>
      cases r2 with
      | cons r2 r3 =>
        cases r3
        cases rv' with
        | cons q1 q2 =>
          cases q2 with
          | cons q2 q3 =>
            cases q3
            obtain ⟨k1, rfl⟩ := r1
            obtain ⟨k2, rfl⟩ := r2
            have := SeqAt.RcAt.tuples (A := A) (s := s) (e := fun j => if j = 0 then isTx u d1 else isTx v d2) (by obtain ⟨o, ho, hc, n, hd⟩ := ho1; exact ⟨o, ho, hc, n, hd⟩) (by obtain ⟨o, ho, hc, n, hd⟩ := ho2; exact ⟨o, ho, hc, n, hd⟩) (by omega) (fun j g1 g2 => by
              match j, g1 with
              | 0, _ => exact sh_eqAt I h1 q1 (by show A.units + 1 < cLine; exact hu) u k1
              | 1, _ => exact sh_eqAt I h2 q2 (by show A.units + 1 < cLine; exact hu) v k2
              | j + 2, g1 => exact absurd g1 (by simp))
            have e2 : ((List.range (min 2 2)).all (fun j => if j = 0 then isTx u d1 else isTx v d2) && (2 == 2)) = (isTx u d1 && isTx v d2) := by
              show ((isTx u d1 && (isTx v d2 && true)) && true) = _
              simp
            have this := SeqAt.EqAt.of_refs e this
            rw [← e2]
            exact this
/-- x in (..), x a pair of any two parts, the other a list or a tuple of pairs of texts -/
def rInP (K : PySem.W.Frag) (neg : Bool) : R2 := fun x y H Q => ∃ (t c : Addr) (x1 x2 : V) (d1 d2 : PyData) (as : List Addr) (ps : List (Str × Str)), x = .ref t ∧ y = .ref c ∧ SqT K H t [x1, x2] ∧ Sh K H x1 d1 ∧ Sh K H x2 d2 ∧
  (SqL K H c (as.map V.ref) ∨ SqT K H c (as.map V.ref)) ∧ Pr2 H as ps ∧ Q (.bl (xor neg (ps.any fun p => isTx p.1 d1 && isTx p.2 d2))) H
theorem op_inP (hu : X.A.units + 2 < cLine) : OpR X (compareOp .In) (rInP X.K false) := by
  intro pins s σ H x y v u Q I rx ry ⟨t, c, x1, x2, d1, d2, as, ps, ex, ey, ht, h1, h2, hc, hp, q⟩
  subst ex ey
  cases rx
  cases ry
  rw [Bool.false_xor] at q
  rcases hc with hc | hc
  · obtain ⟨its, rv, ⟨o, n, ho, hcl, hnn, hdd⟩, _⟩ := I.list hc
    refine SeqAt.in_listAt (hitP H d1 d2) ⟨o, ho, hcl, n, hdd⟩ (fun y hy => ?_) ?_
    · obtain ⟨a, u, v, rfl, ea⟩ := hit_mem hp rv (by simpa using hy)
      rw [hit_at ea]
      exact pair_eqAt I ea ht h1 h2 (by show X.A.units + 1 + 1 < cLine; omega)
    · rw [List.any_toArray, hit_any hp rv]
      exact ⟨.bl _, H, I, rfl, q⟩
  · obtain ⟨its, rv, ⟨o, ho, hcl, n, hdd⟩, _⟩ := I.tuple hc
    refine SeqAt.in_tupleAt (hitP H d1 d2) ⟨o, ho, hcl, n, hdd⟩ (fun y hy => ?_) ?_
    · obtain ⟨a, u, v, rfl, ea⟩ := hit_mem hp rv (by simpa using hy)
      rw [hit_at ea]
      exact pair_eqAt I ea ht h1 h2 (by show X.A.units + 1 + 1 < cLine; omega)
    · rw [List.any_toArray, hit_any hp rv]
      exact ⟨.bl _, H, I, rfl, q⟩
theorem op_notInP (hu : X.A.units + 2 < cLine) : OpR X (compareOp .NotIn) (rInP X.K true) := by
  intro pins s σ H x y v u Q I rx ry ⟨t, c, x1, x2, d1, d2, as, ps, ex, ey, ht, h1, h2, hc, hp, q⟩
  subst ex ey
  cases rx
  cases ry
  rw [Bool.true_xor] at q
  rcases hc with hc | hc
  · obtain ⟨its, rv, ⟨o, n, ho, hcl, hnn, hdd⟩, _⟩ := I.list hc
    refine SeqAt.notIn_listAt (hitP H d1 d2) ⟨o, ho, hcl, n, hdd⟩ (fun y hy => ?_) ?_
    · obtain ⟨a, u, v, rfl, ea⟩ := hit_mem hp rv (by simpa using hy)
      rw [hit_at ea]
      exact pair_eqAt I ea ht h1 h2 (by show X.A.units + 1 + 1 < cLine; omega)
    · rw [List.any_toArray, hit_any hp rv]
      exact ⟨.bl _, H, I, rfl, q⟩
  · obtain ⟨its, rv, ⟨o, ho, hcl, n, hdd⟩, _⟩ := I.tuple hc
    refine SeqAt.notIn_tupleAt (hitP H d1 d2) ⟨o, ho, hcl, n, hdd⟩ (fun y hy => ?_) ?_
    · obtain ⟨a, u, v, rfl, ea⟩ := hit_mem hp rv (by simpa using hy)
      rw [hit_at ea]
      exact pair_eqAt I ea ht h1 h2 (by show X.A.units + 1 + 1 < cLine; omega)
    · rw [List.any_toArray, hit_any hp rv]
      exact ⟨.bl _, H, I, rfl, q⟩
end
theorem any_pair {a b : Str} : ∀ ps : List (Str × Str), (ps.any fun p => isTx p.1 (.str a) && isTx p.2 (.str b)) = decide ((a, b) ∈ ps)
  | [] => rfl
  | (c, d) :: t => by
    rw [List.any_cons, any_pair t]
    show (decide (a = c) && decide (b = d) || decide ((a, b) ∈ t)) = _
    rw [Bool.eq_iff_iff]
    simp only [Bool.or_eq_true, Bool.and_eq_true, decide_eq_true_eq, List.mem_cons, Prod.mk.injEq]
end L2
namespace My
open PySem PySem.Spec PyProof.Rows L2 PySem.GX L2H LamX
/-- a part of an item: a text, or another thing -/
inductive PtAt (H : Hp) : V → Option Str → Prop
  | tx (s : Str) : PtAt H (.str s) (some s)
  | non : PtAt H .non none
  | int (i : Int) : PtAt H (.int i) none
  | lst {a : Addr} (e : H a = some (.lst [])) : PtAt H (.ref a) none
  | dic {a : Addr} (e : H a = some (.dK [])) : PtAt H (.ref a) none
/-- all but dicts of pairs stays -/
def KsT (H H' : Hp) : Prop := ∀ b o, (∀ kvs, o ≠ .dT kvs) → H b = some o → H' b = some o
theorem KsT.of {H H' : Hp} (s : Same H H') : KsT H H' := fun b o _ e => s b o e
theorem PtAt.keep {H H' : Hp} (s : KsT H H') {v : V} {o : Option Str} (h : PtAt H v o) : PtAt H' v o := by
  cases h with
  | tx r => exact .tx r
  | non => exact .non
  | int i => exact .int i
  | lst e => exact .lst (s _ _ (fun _ z => by cases z) e)
  | dic e => exact .dic (s _ _ (fun _ z => by cases z) e)
theorem PtAt.same {H H' : Hp} (s : Same H H') {v : V} {o : Option Str} (h : PtAt H v o) : PtAt H' v o := h.keep (.of s)
theorem PtAt.sh {K : PySem.W.Frag} {H : Hp} {v : V} {o : Option Str} (h : PtAt H v o) : ∃ d, Sh K H v d ∧ ∀ z, isTx z d = decide (o = some z) := by
  cases h with
  | tx r => exact ⟨.str r, .fl (.str r), fun z => by
      show decide (r = z) = decide (some r = some z)
      rw [Bool.eq_iff_iff, decide_eq_true_eq, decide_eq_true_eq]
      exact ⟨fun h => by rw [h], fun h => Option.some.inj h⟩⟩
  | non => exact ⟨_, .fl .non, fun z => rfl⟩
  | int i => exact ⟨_, .fl (.int i), fun z => rfl⟩
  | lst e => exact ⟨_, .lst (SqL.of e) .nil, fun z => rfl⟩
  | dic e => exact ⟨.dict [], .dic e .nil .nil, fun z => rfl⟩
theorem PtAt.kit {K : PySem.W.Frag} {H : Hp} {v : V} {o : Option Str} (h : PtAt H v o) : ∃ ty, TyX K H v ty ∧ PySem.W.kitOne K ty (.type "str") = some o.isSome := by
  cases h with
  | tx r => exact ⟨_, .base (.str r), kit_ty (show _ = some true by decide +kernel)⟩
  | non => exact ⟨_, .base .non, kit_ty (show _ = some false by decide +kernel)⟩
  | int i => exact ⟨_, .base (.int i), kit_ty (show _ = some false by decide +kernel)⟩
  | lst e => exact ⟨_, .base (.lst e), kit_ty (show _ = some false by decide +kernel)⟩
  | dic e => exact ⟨_, .base (.dK e), kit_ty (show _ = some false by decide +kernel)⟩
theorem PtAt.tx_of {H : Hp} {v : V} {s : Str} (h : PtAt H v (some s)) : v = .str s := by
  cases h
  rfl
inductive Itm
  | two (a b : Option Str)
  | no
/-- an item of a paper -/
inductive ItAt (H : Hp) : V → Itm → Prop
  | two {t : Addr} {x1 x2 : V} {o1 o2 : Option Str} (e : H t = some (.tup [x1, x2])) (h1 : PtAt H x1 o1) (h2 : PtAt H x2 o2) : ItAt H (.ref t) (.two o1 o2)
  | tup {t : Addr} {xs : List V} (e : H t = some (.tup xs)) (n : xs.length ≠ 2) : ItAt H (.ref t) .no
  | lst {t : Addr} {xs : List V} (e : H t = some (.lst xs)) (n : xs.length ≠ 3) : ItAt H (.ref t) .no
  | non : ItAt H .non .no
  | str (s : Str) : ItAt H (.str s) .no
theorem ItAt.keep {H H' : Hp} (s : KsT H H') {v : V} {o : Itm} (h : ItAt H v o) : ItAt H' v o := by
  cases h with
  | two e h1 h2 => exact .two (s _ _ (fun _ z => by cases z) e) (h1.keep s) (h2.keep s)
  | tup e n => exact .tup (s _ _ (fun _ z => by cases z) e) n
  | lst e n => exact .lst (s _ _ (fun _ z => by cases z) e) n
  | non => exact .non
  | str r => exact .str r
theorem ItAt.same {H H' : Hp} (s : Same H H') {v : V} {o : Itm} (h : ItAt H v o) : ItAt H' v o := h.keep (.of s)
theorem ItAt.kit {K : PySem.W.Frag} {H : Hp} {v : V} {o : Itm} (h : ItAt H v o) : ∃ ty b, TyX K H v ty ∧ PySem.W.kitOne K ty (.type "tuple") = some b ∧ (b = false → o = .no) ∧ (b = true → ∃ t xs, v = .ref t ∧ H t = some (.tup xs) ∧ (xs.length ≠ 2 → o = .no)) := by
  cases h with
  | two e h1 h2 => exact ⟨_, true, .base (.tup e), kit_ty (show _ = some true by decide +kernel), (fun z => by cases z), fun _ => ⟨_, _, rfl, e, fun n => absurd rfl n⟩⟩
  | tup e n => exact ⟨_, true, .base (.tup e), kit_ty (show _ = some true by decide +kernel), (fun z => by cases z), fun _ => ⟨_, _, rfl, e, fun _ => rfl⟩⟩
  | lst e n => exact ⟨_, false, .base (.lst e), kit_ty (show _ = some false by decide +kernel), (fun _ => rfl), fun z => by cases z⟩
  | non => exact ⟨_, false, .base .non, kit_ty (show _ = some false by decide +kernel), (fun _ => rfl), fun z => by cases z⟩
  | str r => exact ⟨_, false, .base (.str r), kit_ty (show _ = some false by decide +kernel), (fun _ => rfl), fun z => by cases z⟩
theorem ItAt.pair {H : Hp} {t : Addr} {xs : List V} {o : Itm} (h : ItAt H (.ref t) o) (e : H t = some (.tup xs)) (n : xs.length = 2) : ∃ x1 x2 o1 o2, xs = [x1, x2] ∧ o = .two o1 o2 ∧ PtAt H x1 o1 ∧ PtAt H x2 o2 := by
  cases h with
  | two e' h1 h2 =>
    rw [e'] at e
    injection e with e
    injection e with e
    subst e
    exact ⟨_, _, _, _, rfl, rfl, h1, h2⟩
  | tup e' n' =>
    rw [e'] at e
    injection e with e
    injection e with e
    subst e
    exact absurd n n'
  | lst e' n' =>
    rw [e'] at e
    injection e with e
    cases e
abbrev twP (p : Str × Str) : Itm := .two (some p.1) (some p.2)
/-- a paper: a tuple of items, or another thing -/
def Pap (H : Hp) (v : V) (o : Option (List Itm)) : Prop :=
  (∃ (c : Addr) (vs : List V) (its : List Itm), v = .ref c ∧ o = some its ∧ H c = some (.tup vs) ∧ vs.length = its.length ∧ vs.length ≤ 1000 ∧ ∀ (i : Nat) (x : V) (it : Itm), vs[i]? = some x → its[i]? = some it → ItAt H x it) ∨
  (o = none ∧ (v = .non ∨ (∃ s, v = .str s) ∨ ∃ a xs, v = .ref a ∧ H a = some (.lst xs)))
theorem Pap.same {H H' : Hp} (s : Same H H') {v : V} {o : Option (List Itm)} (h : Pap H v o) : Pap H' v o := by
  rcases h with ⟨c, vs, its, e1, e2, e3, e4, e5, e6⟩ | ⟨e1, e2⟩
  · exact .inl ⟨c, vs, its, e1, e2, s _ _ e3, e4, e5, fun i x it a b => (e6 i x it a b).same s⟩
  · refine .inr ⟨e1, ?_⟩
    rcases e2 with e | e | ⟨a, xs, e3, e4⟩
    · exact .inl e
    · exact .inr (.inl e)
    · exact .inr (.inr ⟨a, xs, e3, s _ _ e4⟩)
theorem Pap.kit {K : PySem.W.Frag} {H : Hp} {v : V} {o : Option (List Itm)} (h : Pap H v o) : ∃ ty, TyX K H v ty ∧ PySem.W.kitOne K ty (.type "tuple") = some o.isSome := by
  rcases h with ⟨c, vs, its, rfl, rfl, e, _⟩ | ⟨rfl, rfl | ⟨s, rfl⟩ | ⟨a, xs, rfl, e⟩⟩
  · exact ⟨_, .base (.tup e), kit_ty (show _ = some true by decide +kernel)⟩
  · exact ⟨_, .base .non, kit_ty (show _ = some false by decide +kernel)⟩
  · exact ⟨_, .base (.str s), kit_ty (show _ = some false by decide +kernel)⟩
  · exact ⟨_, .base (.lst e), kit_ty (show _ = some false by decide +kernel)⟩
/-- the pairs that a paper tells -/
structure GoodP (p1 p2 : Parts) (ps : List (Str × Str)) : Prop where
  nd : ps.Nodup
  inn : ∀ ab ∈ ps, ab.1 ∈ p1.ms ∧ ab.2 ∈ p2.ms
/-- the paper holds -/
def Holds (p1 p2 : Parts) (o : Option (List Itm)) : Prop := p1.sg = p2.sg ∧ ∃ ps : List (Str × Str), o = some (ps.map twP) ∧ GoodP p1 p2 ps ∧ (∀ ab ∈ ps, ab.1 ∈ p1.gs → ab.2 ∈ p2.gs) ∧ (∀ ab ∈ ps, ∀ c ∈ p1.sg.cps.toList, (ledL p1 ab.1 c, ledL p2 ab.2 c) ∈ ps) ∧ (firstL p1, firstL p2) ∈ ps
theorem map_tw {ps qs : List (Str × Str)} (h : ps.map twP = qs.map twP) : ps = qs := by
  induction ps generalizing qs with
  | nil => cases qs with
    | nil => rfl
    | cons b t => cases h
  | cons a t ih => cases qs with
    | nil => cases h
    | cons b u =>
      injection h with h1 h2
      injection h1 with h3 h4
      rw [ih h2]
      have e : a = b := Prod.ext (Option.some.inj h3) (Option.some.inj h4)
      rw [e]
/-- what was read of a paper so far -/
def SoFar (p1 p2 : Parts) (its : List Itm) (i : Nat) (ps : List (Str × Str)) : Prop := its.take i = ps.map twP ∧ GoodP p1 p2 ps
theorem SoFar.snoc {p1 p2 : Parts} {its : List Itm} {i : Nat} {ps : List (Str × Str)} (h : SoFar p1 p2 its i ps) {a b : Str} (e : its[i]? = some (.two (some a) (some b))) (ha : a ∈ p1.ms) (hb : b ∈ p2.ms) (n : (a, b) ∉ ps) : SoFar p1 p2 its (i + 1) (ps ++ [(a, b)]) := by
  refine ⟨by rw [List.take_add_one, e, h.1, List.map_append]; rfl, ?_, fun ab m => ?_⟩
  · rw [List.nodup_append]
    refine ⟨h.2.nd, by simp, fun x hx y hy z => ?_⟩
    rw [List.mem_singleton] at hy
    exact n (hy ▸ z ▸ hx)
  · rcases List.mem_append.mp m with m | m
    · exact h.2.inn ab m
    · rw [List.mem_singleton] at m
      subst m
      exact ⟨ha, hb⟩
theorem SoFar.bad {p1 p2 : Parts} {its : List Itm} {i : Nat} {ps : List (Str × Str)} (h : SoFar p1 p2 its i ps) {it : Itm} (e : its[i]? = some it) (n : ∀ a b, it = .two (some a) (some b) → a ∈ p1.ms → b ∈ p2.ms → (a, b) ∉ ps → False) : ¬ ∃ qs, some its = some (qs.map twP) ∧ GoodP p1 p2 qs := by
  rintro ⟨qs, eq, g⟩
  obtain rfl := Option.some.inj eq
  rw [List.getElem?_map] at e
  cases hq : qs[i]? with
  | none => rw [hq] at e; cases e
  | some ab =>
    rw [hq] at e
    have e := (Option.some.inj e).symm
    have ht : qs.take i = ps := map_tw (by rw [← h.1, List.map_take])
    have hm := g.inn ab (List.mem_of_getElem? hq)
    refine n ab.1 ab.2 e hm.1 hm.2 fun z => ?_
    have e2 : qs = qs.take i ++ ab :: qs.drop (i + 1) := by
      have hi := (List.getElem?_eq_some_iff.mp hq)
      obtain ⟨h1, h2⟩ := hi
      rw [← h2, ← List.drop_eq_getElem_cons h1, List.take_append_drop]
    have nd := g.nd
    rw [e2, List.nodup_append] at nd
    exact nd.2.2 (ab.1, ab.2) (by rw [ht]; exact z) ab (by simp) rfl
theorem holds_iff {p1 p2 : Parts} {o : Option (List Itm)} {qs : List (Str × Str)} (hs : p1.sg = p2.sg) (e : o = some (qs.map twP)) (g : GoodP p1 p2 qs) : Holds p1 p2 o ↔ (∀ ab ∈ qs, ab.1 ∈ p1.gs → ab.2 ∈ p2.gs) ∧ (∀ ab ∈ qs, ∀ c ∈ p1.sg.cps.toList, (ledL p1 ab.1 c, ledL p2 ab.2 c) ∈ qs) ∧ (firstL p1, firstL p2) ∈ qs := by
  constructor
  · rintro ⟨_, ps, e2, _, h1, h2, h3⟩
    rw [e] at e2
    obtain rfl := map_tw (Option.some.inj e2)
    exact ⟨h1, h2, h3⟩
  · rintro ⟨h1, h2, h3⟩
    exact ⟨hs, qs, e, g, h1, h2, h3⟩
theorem seen_len (qs : List (Str × Str)) : (seenL qs).length = qs.length := by
  unfold seenL
  rw [List.length_map]
theorem seen_get {qs : List (Str × Str)} {i : Nat} {k : List Key} {v : V} {ab : Str × Str} (h : (seenL qs)[i]? = some (k, v)) (e : qs[i]? = some ab) : k = k2 ab.1 ab.2 := by
  unfold seenL at h
  rw [List.getElem?_map, e] at h
  injection h with h
  injection h with h _
  exact h.symm
theorem unlock {H H7 : Hp} {d : Addr} {od : Obj} {u : HO} (e : H d = some u) (s : Same (upd H d (.frz od u)) H7) : Same H (upd H7 d u) := fun b o eb => by
  by_cases n : b = d
  · subst n
    rw [upd_same]
    rw [e] at eb
    exact eb
  · rw [upd_ne n]
    exact s b o (by rw [upd_ne n]; exact eb)
theorem no_holds {p1 p2 : Parts} {o : Option (List Itm)} (n : ¬ ∃ qs, o = some (qs.map twP) ∧ GoodP p1 p2 qs) : ¬ Holds p1 p2 o := fun ⟨_, qs, e, g, _⟩ => n ⟨qs, e, g⟩
end My
namespace My
open PySem PySem.Spec PyProof.Rows L2 PySem.GX L2H LamX
section
variable {P : Program} {w : World} {K : PySem.W.Frag} {mg : Str → Option Value} {base : Heap}
abbrev nEndB : List Str := ["_law_box_here", "_law_begin", "_law_line", "_law_here", "_law_letter"]
theorem scEndB : FnScope nEndB ["_law_box_here", "_law_begin", "_law_line"] (defScope sEnd) := ⟨rfl, rfl, rfl, by decide +kernel, rfl, by decide +kernel, by decide +kernel⟩
theorem ok_endB {f : Addr} {fd : FuncData} (F : Fun K "_law_end" "_law_end" sEnd f fd) : FnOk P w K mg base CX0 1 f fd ["_law_box_here", "_law_begin", "_law_line"] spEndB := by
  refine F.ok scEndB (fun vs H Q E h => ?_) (fun cdv A outer s H vs Q E hr h => ?_)
  · obtain ⟨q, p, ws, t, r, rfl, _⟩ := h
    rfl
  · obtain ⟨q, p, ws, t, r, rfl, ⟨lw, lf, g, kvs, eq, ew, ef, eg, cv⟩, ok, ht, hin, k⟩ := h
    refine ⟨_, pss_cons (ps_set (i := 3) scEndB.nd rfl (Or.inl rfl) (pv 1))
      (pss_cons (ps_for PassesOwn.never rfl (pi_str (pv 2)) (pg_name (i := 4) scEndB.nd rfl (Or.inl rfl)) (pss_one (ps_set (i := 3) scEndB.nd rfl (Or.inl rfl) (pe_dget (hu_of hr) (pe_ix ix_tup (pv 0) pe_int (fun _ _ => rfl)) (pe_tup (pa_cons (pv 3) (pa_cons (pv 4) pa_nil))) (fun _ _ => rfl)))))
      (pss_one (ps_ret (pv 3)))), ?_⟩
    refine ⟨_, rfl, _, rfl, r, rfl, ?_⟩
    refine for_it walk_str (fun i σ H' => ∃ v4, σ = [some (.ref q), some (.str t), some (.str r), some (.str (walkL p t (r.cps.toList.take i))), v4] ∧ Same H H') ⟨none, rfl, Same.refl _⟩ (fun _ _ _ _ _ => trivial) (fun i y σ H2 H3 hi h hy => ?_) (fun σ H2 h => ?_)
    · obtain ⟨rfl, c, hc, rfl⟩ := hy
      obtain ⟨v4, rfl, s2⟩ := h
      have hc' : r.cps.toList[i]? = some c := by rw [Array.getElem?_toList]; exact hc
      have hm := walk_mem ok (r.cps.toList.take i) t ht fun d hd => hin d (List.mem_of_mem_take hd)
      have hg := cv _ hm c (hin c (List.mem_of_getElem? hc'))
      refine ⟨_, rfl, q, _, _, V.ref g, rfl, rfl, SqT.of (s2 _ _ eq), atI_nat (j := 3) rfl, _, rfl, _, rfl, (by show 2 ≤ sizeLine; decide), fun t' ht' => ⟨g, .str (ledL p (walkL p t (r.cps.toList.take i)) c), rfl, ?_, ?_⟩⟩
      · have := DGet.t (k := kT (walkL p t (r.cps.toList.take i)) c) (keep1 (s2 _ _ eg) ht') (upd_same (o := .tup ((kT (walkL p t (r.cps.toList.take i)) c).map kV)))
        rw [hg] at this
        exact this
      · refine ⟨some (.str (sg c)), ?_, s2.trans (same_new ht')⟩
        rw [List.take_add_one, hc']
        show _ = [_, _, _, some (V.str (walkL p t (r.cps.toList.take i ++ [c]))), _]
        unfold walkL
        rw [List.foldl_append]
        rfl
    · obtain ⟨v4, rfl, s2⟩ := h
      refine ⟨_, rfl, ?_⟩
      have : r.cps.toList.take r.cps.size = r.cps.toList := by rw [← Array.length_toList, List.take_length]
      rw [this]
      exact k _ s2
end
end My
namespace My
open PySem PySem.Spec PyProof.Rows L2 PySem.GX L2H LamX
theorem in_natsI (n : Nat) : ∀ ns : List Nat, inV (.int (n : Int)) (natsI ns) = decide (n ∈ ns)
  | [] => rfl
  | m :: t => by
    have ih := in_natsI n t
    unfold inV natsI at *
    rw [List.map_cons, List.any_cons, ih]
    have e : eqV (V.int (m : Int)) (V.int (n : Int)) = decide (n = m) := by
      show decide ((m : Int) = (n : Int)) = _
      rw [Bool.eq_iff_iff, decide_eq_true_eq, decide_eq_true_eq]
      omega
    rw [e, Bool.eq_iff_iff, Bool.or_eq_true_iff, decide_eq_true_eq, decide_eq_true_eq, decide_eq_true_eq, List.mem_cons]
theorem flat_natsI (ns : List Nat) : (natsI ns).all flatV = true := by
  rw [List.all_eq_true]
  intro v hv
  obtain ⟨n, _, rfl⟩ := List.mem_map.mp hv
  rfl
def rowOkB (x : Str) : Option Str → Bool
  | some r => r.cps.toList.all fun c => decide (c ∈ x.cps.toList)
  | none => false
def fullAt (its : List (Option Str)) (n : Nat) : Bool := match its[n]? with
  | some (some r) => decide (0 < r.length)
  | _ => true
def areL (x : Str) (o : Option (List (Option Str))) (sizes filled : List Nat) : Bool := match o with
  | none => false
  | some its => (decide (its.length ∈ sizes) && its.all (rowOkB x)) && filled.all (fullAt its)
theorem rowOkB_in {x r : Str} (h : rowOkB x (some r) = true) : ∀ c ∈ r.cps.toList, c ∈ x.cps.toList := fun c hc => of_decide_eq_true (List.all_eq_true.mp h c hc)
theorem row_glyphs (x r : Str) : (r.cps.toList.filter fun c => !decide (c ∈ x.cps.toList)).isEmpty = rowOkB x (some r) := by
  rw [Bool.eq_iff_iff, List.isEmpty_iff, others_nil]
  exact ⟨fun h => List.all_eq_true.mpr fun c hc => decide_eq_true (h c hc), rowOkB_in⟩
theorem empty_is (r : Str) : decide (V.str r = V.str (Str.ofString "")) = !decide (0 < r.length) := by
  rw [Bool.eq_iff_iff, decide_eq_true_eq, Bool.not_eq_true', decide_eq_false_iff_not]
  constructor
  · intro h
    injection h with h
    rw [h]
    decide
  · intro h
    have : r = Str.ofString "" := str_ext (by
      have e : r.cps.toList.length = 0 := by
        rw [Array.length_toList]
        show r.length = 0
        omega
      rw [List.eq_nil_of_length_eq_zero e]
      rfl)
    rw [this]
theorem empties_isB (its : List (Option Str)) : ∀ (ns : List Nat), (ns.filterMap fun n => if fullAt its n = true then none else some (V.int (n : Int))).isEmpty = ns.all (fullAt its)
  | [] => rfl
  | n :: t => by
    have ih := empties_isB its t
    rw [List.filterMap_cons, List.all_cons]
    cases hn : fullAt its n with
    | true => rw [if_pos rfl, Bool.true_and]; exact ih
    | false => rw [if_neg Bool.false_ne_true, Bool.false_and]; rfl
end My
namespace My
open PySem PySem.Spec PyProof.Rows L2 PySem.GX L2H LamX
theorem dec_str (a b : Str) : decide (V.str a = V.str b) = decide (a = b) := by
  rw [Bool.eq_iff_iff, decide_eq_true_eq, decide_eq_true_eq]
  exact ⟨fun h => by injection h, fun h => by rw [h]⟩
def spTwoR (C : Addr) : Sp := fun vs H Q _ => ∃ (t1 t2 : Str) (p1 p2 : Parts), vs = [.str t1, .str t2] ∧ t1.length ≤ 1000000 ∧ PyData.strOk t1 = true ∧ parseL t1 = some p1 ∧ t2.length ≤ 1000000 ∧ PyData.strOk t2 = true ∧ parseL t2 = some p2 ∧
  (p1.sg ≠ p2.sg → ∀ H', Same H H' → Q .non H') ∧ (p1.sg = p2.sg → ∀ (T a1 a2 : Addr) (H' : Hp), Same H H' → H' T = some (.tup [.ref a1, .ref a2]) → RuleAt H' C a1 t1 p1 → RuleAt H' C a2 t2 p2 → Q (.ref T) H')
section
variable {P : Program} {w : World} {K : PySem.W.Frag} {mg : Str → Option Value} {base : Heap}
theorem scTwoR : FnScope ["one", "other", "rules"] ["one", "other"] (defScope sTwoR) := ⟨rfl, rfl, rfl, by decide +kernel, rfl, by decide +kernel, by decide +kernel⟩
theorem ok_twoR {f C : Addr} {fd : FuncData} (F : Fun K "two_rules" "two_rules" sTwoR f fd) (T : RuC K C) (hRo : Hv P w K mg base 7 "rule_of" ["text"] (spRuleOf C)) (pS : PrF P w K mg base C "signs" "letters") : FnOk P w K mg base CX0 8 f fd ["one", "other"] (spTwoR C) := by
  obtain ⟨pp, gp, fdp, PP, GP, bP⟩ := pS
  refine F.ok scTwoR (fun vs H Q E h => ?_) (fun cdv A outer s H vs Q E hr h => ?_)
  · obtain ⟨t1, t2, p1, p2, rfl, _⟩ := h
    rfl
  · obtain ⟨t1, t2, p1, p2, rfl, zt1, ot1, pt1, zt2, ot2, pt2, k1, k2⟩ := h
    have hr2 : Room 2 (A.deeper (envOfC "two_rules" (defScope sTwoR) s.heap.objs.size f cdv)) := hr.mono (by decide)
    refine ⟨_, pss_cons (ps_set (i := 2) scTwoR.nd rfl (Or.inl rfl) (pe_tup (pa_cons (pe_cl hRo hr rfl pass0 (pa_cons (pv 0) pa_nil)) (pa_cons (pe_cl hRo hr rfl pass0 (pa_cons (pv 1) pa_nil)) pa_nil))))
      (pss_cons (ps_if (PW.pt (pw_or (pt_cmpR op_isN (pe_ix ix_tup (pv 2) pe_int (fun _ _ => rfl)) pe_non (nomark _)) (pw_or (pt_cmpR op_isN (pe_ix ix_tup (pv 2) pe_int (fun _ _ => rfl)) pe_non (nomark _)) (pw_or1 (pt_cmpR op_ne (pe_prop (pe_ix ix_tup (pv 2) pe_int (fun _ _ => rfl)) T.cl PP GP hr2 bP .nil pass0 (by rfl)) (pe_prop (pe_ix ix_tup (pv 2) pe_int (fun _ _ => rfl)) T.cl PP GP hr2 bP .nil pass0 (by rfl)) (nomark _)))))) (pss_one (ps_ret pe_non)) pss_nil)
      (pss_one (ps_ret (pv 2)))), ?_⟩
    refine ⟨_, rfl, t1, p1, rfl, zt1, ot1, pt1, fun a1 H1 s1 hA1 => ⟨_, rfl, t2, p2, rfl, zt2, ot2, pt2, fun a2 H2 s2 hA2 => ⟨by show 2 ≤ sizeLine; decide, fun Tt hT => ?_⟩⟩⟩
    have sA := (s1.trans s2).trans (same_new (o := .tup [.ref a1, .ref a2]) hT)
    have hA1 := (hA1.same s2).same (same_new (o := .tup [.ref a1, .ref a2]) hT)
    have hA2 := hA2.same (same_new (o := .tup [.ref a1, .ref a2]) hT)
    have eT := upd_same (a := Tt) (H := H2) (o := .tup [.ref a1, .ref a2])
    generalize upd H2 Tt (.tup [.ref a1, .ref a2]) = H3 at sA hA1 hA2 eT ⊢
    obtain ⟨dx1, M1, G1, D1, e1, _⟩ := id hA1
    obtain ⟨dx2, M2, G2, D2, e2, _⟩ := id hA2
    refine ⟨_, rfl, Tt, _, _, V.ref a1, rfl, rfl, SqT.of eT, atI_nat (j := 0) rfl, rfl, _, rfl, iteF ?_⟩
    refine ⟨_, rfl, Tt, _, _, V.ref a2, rfl, rfl, SqT.of eT, atI_nat (j := 1) rfl, rfl, _, rfl, iteF ?_⟩
    refine ⟨_, rfl, Tt, _, _, V.ref a1, rfl, rfl, SqT.of eT, atI_nat (j := 0) rfl, a1, dx1, _, rfl, e1, a1, dx1, _, .str p1.sg, rfl, e1, rfl, _, rfl, Tt, _, _, V.ref a2, rfl, rfl, SqT.of eT, atI_nat (j := 1) rfl, a2, dx2, _, rfl, e2, a2, dx2, _, .str p2.sg, rfl, e2, rfl, rfl, _, rfl, ?_⟩
    rw [dec_str]
    by_cases hsg : p1.sg = p2.sg
    · rw [decide_eq_true hsg]
      exact iteF ⟨_, rfl, k2 hsg Tt a1 a2 H3 sA eT hA1 hA2⟩
    · rw [decide_eq_false hsg]
      exact iteT (k1 hsg H3 sA)
end
end My
namespace My
open PySem PySem.Spec PyProof.Rows L2 PySem.GX L2H LamX
/-- a paper: a text, or no text -/
def ItG (H : Hp) (v : V) (o : Option Str) : Prop := (∃ r, v = .str r ∧ o = some r ∧ r.length ≤ 3000) ∨ (o = none ∧ (v = .non ∨ (∃ i, v = .int i) ∨ (∃ b, v = .bl b) ∨ (∃ a, ∃ ws : List Str, v = .ref a ∧ (H a = some (.lst (ws.map V.str)) ∨ H a = some (.tup (ws.map V.str)))) ∨ ∃ a, v = .ref a ∧ H a = some (.dK [])))
theorem ItG.same {H H' : Hp} {v : V} {o : Option Str} (h : ItG H v o) (s : Same H H') : ItG H' v o := by
  rcases h with h | ⟨e, h | h | h | ⟨a, ws, e2, h | h⟩ | ⟨a, e2, h⟩⟩
  · exact .inl h
  · exact .inr ⟨e, .inl h⟩
  · exact .inr ⟨e, .inr (.inl h)⟩
  · exact .inr ⟨e, .inr (.inr (.inl h))⟩
  · exact .inr ⟨e, .inr (.inr (.inr (.inl ⟨a, ws, e2, .inl (s _ _ h)⟩)))⟩
  · exact .inr ⟨e, .inr (.inr (.inr (.inl ⟨a, ws, e2, .inr (s _ _ h)⟩)))⟩
  · exact .inr ⟨e, .inr (.inr (.inr (.inr ⟨a, e2, s _ _ h⟩)))⟩
theorem ItG.kit {K : PySem.W.Frag} {H : Hp} {v : V} {o : Option Str} (h : ItG H v o) : ∃ ty, TyX K H v ty ∧ PySem.W.kitOne K ty (.type "str") = some o.isSome := by
  rcases h with ⟨r, rfl, rfl, _⟩ | ⟨rfl, rfl | ⟨i, rfl⟩ | ⟨b, rfl⟩ | ⟨a, ws, rfl, h | h⟩ | ⟨a, rfl, h⟩⟩
  · exact ⟨_, .base (.str r), kit_ty (show _ = some true by decide +kernel)⟩
  · exact ⟨_, .base .non, kit_ty (show _ = some false by decide +kernel)⟩
  · exact ⟨_, .base (.int i), kit_ty (show _ = some false by decide +kernel)⟩
  · exact ⟨_, .base (.bl b), kit_ty (show _ = some false by decide +kernel)⟩
  · exact ⟨_, .base (.lst h), kit_ty (show _ = some false by decide +kernel)⟩
  · exact ⟨_, .base (.tup h), kit_ty (show _ = some false by decide +kernel)⟩
  · exact ⟨_, .base (.dK h), kit_ty (show _ = some false by decide +kernel)⟩
def goodL (p : Parts) (r : Str) : Bool := decide (walkL p (firstL p) r.cps.toList ∈ p.gs)
/-- is it a row that parts two rules -/
def apartL (p1 p2 : Parts) : Option Str → Bool
  | some r => (decide (p1.sg = p2.sg) && rowOkB p1.sg (some r)) && !decide (V.bl (goodL p1 r) = V.bl (goodL p2 r))
  | none => false
def spIsRowG (C : Addr) : Sp := fun vs H Q _ => ∃ (a : Addr) (tx : Str) (p : Parts) (v : V) (o : Option Str), vs = [.ref a, v] ∧ RuleAt H C a tx p ∧ ItG H v o ∧ ∀ H', Same H H' → Q (.bl (rowOkB p.sg o)) H'
def spApart (C : Addr) : Sp := fun vs H Q _ => ∃ (t1 t2 : Str) (p1 p2 : Parts) (v : V) (o : Option Str), vs = [.str t1, .str t2, v] ∧ t1.length ≤ 1000000 ∧ PyData.strOk t1 = true ∧ parseL t1 = some p1 ∧ t2.length ≤ 1000000 ∧ PyData.strOk t2 = true ∧ parseL t2 = some p2 ∧ ItG H v o ∧ ∀ H', Same H H' → Q (.bl (apartL p1 p2 o)) H'
def spAccA (C : Addr) : Sp := fun vs H Q _ => ∃ (c : Addr) (t1 t2 : Str) (p1 p2 : Parts) (v : V) (o : Option Str), vs = [.ref c, v] ∧ H c = some (.tup [.str "apart", .str t1, .str t2]) ∧ t1.length ≤ 1000000 ∧ PyData.strOk t1 = true ∧ parseL t1 = some p1 ∧ t2.length ≤ 1000000 ∧ PyData.strOk t2 = true ∧ parseL t2 = some p2 ∧ ItG H v o ∧ ∀ H', Same H H' → Q (.bl (apartL p1 p2 o)) H'
section
variable {P : Program} {w : World} {K : PySem.W.Frag} {mg : Str → Option Value} {base : Heap}
theorem scIsRowG : FnScope ["rule", "value"] ["rule", "value"] (defScope sIsRow) := ⟨rfl, rfl, rfl, by decide +kernel, rfl, by decide +kernel, by decide +kernel⟩
theorem ok_isRowG {f C : Addr} {fd : FuncData} (F : Fun K "is_row" "is_row" sIsRow f fd) (T : RuC K C) (hO : Hv P w K mg base 1 "made_of" ["text", "letters"] spMade) (pS : PrF P w K mg base C "signs" "letters") (hIs : mg "isinstance" = none) (hSt : mg "str" = none) : FnOk P w K mg base CX0 3 f fd ["rule", "value"] (spIsRowG C) := by
  obtain ⟨pp, gp, fdp, PP, GP, bP⟩ := pS
  refine F.ok scIsRowG (fun vs H Q E h => ?_) (fun cdv A outer s H vs Q E hr h => ?_)
  · obtain ⟨a, tx, p, v, o, rfl, _⟩ := h
    rfl
  · obtain ⟨a, tx, p, v, o, rfl, hA, hI, k⟩ := h
    refine ⟨_, pss_one (ps_ret (pe_and (pe_callB call_isi (by rfl) hIs (by decide +kernel) (pa_cons (pv 1) (pa_cons (pe_bltn (v := .ty "str") (by rfl) hSt (by decide +kernel) rfl) pa_nil))) (pe_one (pe_cl hO (hr.mono (by decide)) rfl pass0 (pa_cons (pv 1) (pa_cons (pe_prop (pv 0) T.cl PP GP hr bP .nil pass0 (by rfl)) pa_nil)))))), ?_⟩
    obtain ⟨ty, hty, k1⟩ := hI.kit (K := K)
    refine ⟨_, rfl, v, .ty "str", ty, .type "str", o.isSome, rfl, .ty _, hty, k1, _, rfl, ite2 (fun c => ?_) (fun c => ?_)⟩
    · rcases hI with ⟨r, rfl, rfl, lr⟩ | ⟨rfl, _⟩
      rotate_left
      · cases c
      obtain ⟨dx, M, G, D, e1, e2, e3, e4⟩ := id hA
      refine ⟨_, rfl, _, rfl, a, dx, _, rfl, e1, a, dx, _, .str p.sg, rfl, e1, rfl, r, p.sg, rfl, by omega, fun H' s' => ?_⟩
      have e : madeL r p.sg = rowOkB p.sg (some r) := by
        unfold madeL
        rw [List.all_map]
        rfl
      rw [e]
      exact k _ s'
    · have e : o = none := by
        cases o with
        | none => rfl
        | some z => exact absurd rfl c
      rw [e] at k
      exact k _ (Same.refl _)
abbrev nApart : List Str := ["one", "other", "paper", "rules", "flags", "rule"]
theorem scApart : FnScope nApart ["one", "other", "paper"] (defScope sApart) := ⟨rfl, rfl, rfl, by decide +kernel, rfl, by decide +kernel, by decide +kernel⟩
theorem ok_apart {f C : Addr} {fd : FuncData} (F : Fun K "shows_apart" "shows_apart" sApart f fd) (T : RuC K C) (hTw : Hv P w K mg base 8 "two_rules" ["one", "other"] (spTwoR C)) (hIr : Hv P w K mg base 3 "is_row" ["rule", "value"] (spIsRowG C)) (hG : Hv P w K mg base 3 "ends_good" ["rule", "mood", "rows"] (spEndsG C)) (pM : PrF P w K mg base C "moods" "words") :
    FnOk P w K mg base CX0 9 f fd ["one", "other", "paper"] (spApart C) := by
  obtain ⟨pp, gp, fdp, PP, GP, bP⟩ := pM
  refine F.ok scApart (fun vs H Q E h => ?_) (fun cdv A outer s H vs Q E hr h => ?_)
  · obtain ⟨t1, t2, p1, p2, v, o, rfl, _⟩ := h
    rfl
  · obtain ⟨t1, t2, p1, p2, v, o, rfl, zt1, ot1, pt1, zt2, ot2, pt2, hI, k⟩ := h
    have hr2 : Room 2 (A.deeper (envOfC "shows_apart" (defScope sApart) s.heap.objs.size f cdv)) := hr.mono (by decide)
    have hr3 : Room 3 (A.deeper (envOfC "shows_apart" (defScope sApart) s.heap.objs.size f cdv)) := hr.mono (by decide)
    refine ⟨_, pss_cons (ps_set (i := 3) scApart.nd rfl (Or.inl rfl) (pe_cl hTw hr rfl pass0 (pa_cons (pv 0) (pa_cons (pv 1) pa_nil))))
      (pss_cons (ps_if (PW.pt (pw_or (pt_cmpR op_isN (pv 3) pe_non (nomark _)) (pw_or1 (pt_not (pt_val (pe_cl hIr hr3 rfl pass0 (pa_cons (pe_ix ix_tup (pv 3) pe_int (fun _ _ => rfl)) (pa_cons (pv 2) pa_nil)))))))) (pss_one (ps_ret pe_bl)) pss_nil)
      (pss_cons (ps_setLc (i := 4) (own := [("rule", 5)]) (g := gName 5) (tt := tYes) (by rfl) scApart.nd rfl rfl (sw_true rfl rfl rfl (by decide +kernel)) (pi_tup (pv 3)) (blkOk_by (N := nApart) (sc := defScope sApart) (by decide +kernel)) (fun _ _ _ _ _ => pg_name (i := 5) scApart.nd rfl (Or.inl rfl)) (fun _ _ _ _ _ => pts_nil)
          (fun _ _ _ _ _ => pe_cl hG hr3 rfl pass0 (pa_cons (pv 5) (pa_cons (pe_ix (ix_tupK (K := K) rfl) (pe_prop (pv 5) T.cl PP GP hr2 bP .nil pass0 (by rfl)) pe_int (fun _ _ => rfl)) (pa_cons (pe_lst (pa_cons (pv 2) pa_nil)) pa_nil)))))
      (pss_one (ps_ret (pe_cmpR op_ne (pe_ix ix_list (pv 4) pe_int (fun _ _ => rfl)) (pe_ix ix_list (pv 4) pe_int (fun _ _ => rfl)) (nomark _)))))), ?_⟩
    have ok1 := parts_ok pt1
    have ok2 := parts_ok pt2
    refine ⟨_, rfl, _, rfl, t1, t2, p1, p2, rfl, zt1, ot1, pt1, zt2, ot2, pt2, fun hne H1 s1 => ?_, fun hsg Tt a1 a2 H1 s1 eT hA1 hA2 => ?_⟩
    · refine ⟨_, rfl, rfl, _, rfl, iteT ?_⟩
      have e : apartL p1 p2 o = false := by
        cases o with
        | none => rfl
        | some r =>
          show ((decide (p1.sg = p2.sg) && _) && _) = false
          rw [decide_eq_false hne, Bool.false_and, Bool.false_and]
      rw [e] at k
      exact k _ s1
    · refine ⟨_, rfl, rfl, _, rfl, iteF ?_⟩
      refine ⟨_, rfl, Tt, _, _, V.ref a1, rfl, rfl, SqT.of eT, atI_nat (j := 0) rfl, _, rfl, a1, t1, p1, v, o, rfl, hA1, hI.same s1, fun H2 s2 => ⟨_, rfl, ?_⟩⟩
      have sA := s1.trans s2
      cases hrow : rowOkB p1.sg o with
      | false =>
        refine iteT ?_
        have e : apartL p1 p2 o = false := by
          cases o with
          | none => rfl
          | some r =>
            show ((_ && rowOkB p1.sg (some r)) && _) = false
            rw [hrow, Bool.and_false, Bool.false_and]
        rw [e] at k
        exact k _ sA
      | true =>
        refine iteF ?_
        rcases hI with ⟨r, rfl, rfl, lr⟩ | ⟨rfl, _⟩
        rotate_left
        · cases hrow
        have i1 : InS p1 r := rowOkB_in hrow
        have i2 : InS p2 r := fun c hc => by rw [← hsg]; exact i1 c hc
        have ea : apartL p1 p2 (some r) = !decide (V.bl (goodL p1 r) = V.bl (goodL p2 r)) := by
          show ((decide (p1.sg = p2.sg) && rowOkB p1.sg (some r)) && _) = _
          rw [decide_eq_true hsg, hrow, Bool.true_and, Bool.true_and]
        rw [ea] at k
        have rl : ∀ m ∈ [(a1, t1, p1), (a2, t2, p2)], RuleAt H2 C m.1 m.2.1 m.2.2 ∧ PartsOk m.2.2 ∧ InS m.2.2 r := fun m hm => by
          simp only [List.mem_cons, List.not_mem_nil, or_false] at hm
          rcases hm with rfl | rfl
          · exact ⟨hA1.same s2, ok1, i1⟩
          · exact ⟨hA2.same s2, ok2, i2⟩
        have eT2 : H2 Tt = some (.tup ([(a1, t1, p1), (a2, t2, p2)].map fun m : Addr × Str × Parts => V.ref m.1)) := s2 _ _ eT
        refine ⟨_, rfl, Tt, rfl, ⟨_, SqT.of eT2⟩, fun D hD => ?_⟩
        refine lcG [(a1, t1, p1), (a2, t2, p2)] (fun m : Addr × Str × Parts => some (V.bl (goodL m.2.2 r))) (by exact walk_tup (xs := [(a1, t1, p1), (a2, t2, p2)].map fun m : Addr × Str × Parts => V.ref m.1)) (by show 2 ≤ 16000000; decide) hD (fun i H x H' h => by rw [h.1]; exact Same.refl _) (fun H' s' => SqT.of (s' _ _ eT2)) (fun i m y H' H'' k1 hm sj hy k2 => ?_) (fun H7 s7 e7 => ?_)
        · obtain ⟨rfl, hy⟩ := hy
          have ey := map_get hm hy
          subst ey
          obtain ⟨hA, ok, ir⟩ := rl m (List.mem_of_getElem? hm)
          obtain ⟨ms, em⟩ := ok.first
          have ef : (m.2.2.ms.map V.str)[0]? = some (.str (firstL m.2.2)) := by rw [em]; rfl
          have mf : firstL m.2.2 ∈ m.2.2.ms := by rw [em]; simp
          obtain ⟨dx, M, G, Dg, e1, e2, e3, e4⟩ := hA.same sj
          refine ⟨rfl, _, rfl, _, rfl, m.1, dx, _, rfl, e1, m.1, dx, _, .ref M, rfl, e1, rfl, M, _, _, V.str (firstL m.2.2), rfl, rfl, SqT.of e2, atI_nat (j := 0) ef, _, rfl, by show 1 ≤ sizeLine; decide, fun l1 h1 => ⟨m.1, l1, m.2.1, firstL m.2.2, m.2.2, [r], rfl, (hA.same sj).same (same_new h1), ok, mf, upd_same, fun z hz => by rw [List.mem_singleton.mp hz]; exact ir, fun H8 s8 => ?_⟩⟩
          exact k2 H8 ((same_new h1).trans s8)
        · have e7 : H7 D = some (.lst [V.bl (goodL p1 r), V.bl (goodL p2 r)]) := e7
          exact ⟨_, rfl, D, _, _, V.bl _, rfl, rfl, SqL.of e7, atI_nat (j := 0) rfl, _, rfl, D, _, _, V.bl _, rfl, rfl, SqL.of e7, atI_nat (j := 1) rfl, rfl, k _ (sA.trans s7)⟩
abbrev nAccA : List Str := ["claim", "paper", "check"]
theorem scAccA : FnScope nAccA ["claim", "paper"] (defScope sAccepts) := ⟨rfl, rfl, rfl, by decide +kernel, rfl, by decide +kernel, by decide +kernel⟩
theorem ok_accA {f C aC fN : Addr} {fd fdN : FuncData} {es : Array DictEntry} {n : Nat} (F : Fun K "accepts" "accepts" sAccepts f fd) (D : KDict K w aC es n) (gC : mg "CLAIMS" = some (.ref aC)) (eC : PySem.W.nsIn K aC "apart" = some (some (.ref fN)))
    (GN : FnOk P w K mg base CX0 9 fN fdN ["one", "other", "paper"] (spApart C)) (kN : PySem.W.keepIn K (.ref fN) = true) (bN : Binds K fdN ["one", "other", "paper"] [])
    (hIs : mg "isinstance" = none) (hSt : mg "str" = none) (hTu : mg "tuple" = none) (hL : mg "len" = none) : FnOk P w K mg base CX0 10 f fd ["claim", "paper"] (spAccA C) := by
  refine F.ok scAccA (fun vs H Q E h => ?_) (fun cdv A outer s H vs Q E hr h => ?_)
  · obtain ⟨c, t1, t2, p1, p2, v, o, rfl, _⟩ := h
    rfl
  · obtain ⟨c, t1, t2, p1, p2, v, o, rfl, ec, rest⟩ := h
    refine ⟨_, pss_cons (ps_if (pt_not (PW.pt (pw_and (pt_val (pe_callB call_isi (by rfl) hIs (by decide +kernel) (pa_cons (pv 0) (pa_cons (pe_bltn (v := .ty "tuple") (by rfl) hTu (by decide +kernel) rfl) pa_nil)))) (pw_and (pt_cmpR op_eq (pe_callB call_len_seq (by rfl) hL PySem.boot_len (pa_cons (pv 0) pa_nil)) pe_int (nomark _)) (pw_and (pt_val (pe_callB call_isi (by rfl) hIs (by decide +kernel) (pa_cons (pe_ix ix_tup (pv 0) pe_int (fun _ _ => rfl)) (pa_cons (pe_bltn (v := .ty "str") (by rfl) hSt (by decide +kernel) rfl) pa_nil)))) (pw_and1 (pt_cmpR (op_in_kd D) (pe_ix ix_tup (pv 0) pe_int (fun _ _ => rfl)) (pe_glob (v := .ref aC) rfl gC rfl) (by rfl)))))))) (pss_one (ps_ret pe_bl)) pss_nil)
      (pss_cons (ps_set (i := 2) scAccA.nd rfl (Or.inl rfl) (pe_ix ix_kdict (pe_glob (v := .ref aC) rfl gC rfl) (pe_ix ix_tup (pv 0) pe_int (fun _ _ => rfl)) (fun _ _ => rfl)))
      (pss_one (ps_ret (pe_callL (i := 2) GN hr rfl (.inl rfl) kN bN .nil pass0 (pa_cons (pe_ix ix_tup (pv 0) pe_int (fun _ _ => rfl)) (pa_cons (pe_ix ix_tup (pv 0) pe_int (fun _ _ => rfl)) (pa_cons (pv 1) pa_nil))))))), ?_⟩
    refine ⟨_, rfl, .ref c, .ty "tuple", _, .type "tuple", true, rfl, .ty _, .base (.tup ec), kit_ty (by decide +kernel), _, rfl, iteT ?_⟩
    refine ⟨_, rfl, c, _, rfl, .inr (SqT.of ec), rfl, _, rfl, iteT ?_⟩
    refine ⟨_, rfl, c, _, _, V.str "apart", rfl, rfl, SqT.of ec, atI_nat (j := 0) rfl, .str "apart", .ty "str", _, .type "str", true, rfl, .ty _, .base (.str "apart"), kit_ty (by decide +kernel), _, rfl, iteT ?_⟩
    refine ⟨_, rfl, c, _, _, V.str "apart", rfl, rfl, SqT.of ec, atI_nat (j := 0) rfl, "apart", some (.ref fN), rfl, rfl, eC, _, rfl, iteF ?_⟩
    refine ⟨_, rfl, c, _, _, V.str "apart", rfl, rfl, SqT.of ec, atI_nat (j := 0) rfl, aC, "apart", .ref fN, rfl, rfl, ⟨es, n, .ref fN, D.at_, D.lit, eC, rfl⟩, ?_⟩
    exact ⟨rfl, _, rfl, c, _, _, V.str t1, rfl, rfl, SqT.of ec, atI_nat (j := 1) rfl, _, rfl, c, _, _, V.str t2, rfl, rfl, SqT.of ec, atI_nat (j := 2) rfl, _, rfl, t1, t2, p1, p2, v, o, rfl, rest⟩
end
end My
set_option pp.maxSteps 1500
namespace My
open PySem PySem.Spec PyProof.Rows L2 PySem.GX L2H NdefX LamX
/-! certify_apart and certify_within -/
def spCertA (K : PySem.W.Frag) (P : Program) (w : World) (mg : Str → Option Value) (base : Heap) (T : List (Addr × Str)) (C : Addr) : Sp := fun vs H Q _ => ∃ (a b : Addr) (t1 t2 : Str) (p1 p2 : Parts), vs = [.ref a, .ref b] ∧ Tabs T H ∧ RuleAt H C a t1 p1 ∧ PartsOk p1 ∧ RuleAt H C b t2 p2 ∧ PartsOk p2 ∧ p1.sg = p2.sg ∧
  ∀ (o : Option Row) (H' : Hp), ExtN H H' → Tabs T H' → Shows p1 p2 ftNe o → (o = none → Q .non H') ∧ (∀ (r : Row) (c t : Addr) (H2 : Hp), o = some r → Same H' H2 → H2 t = some (.tup [.ref c, .str ⟨r.toArray⟩]) → H2 c = some (.tup [.str "apart", .str t1, .str t2]) → Q (.ref t) H2)
def spCertW (K : PySem.W.Frag) (P : Program) (w : World) (mg : Str → Option Value) (base : Heap) (T : List (Addr × Str)) (C : Addr) : Sp := fun vs H Q _ => ∃ (a b : Addr) (t1 t2 : Str) (p1 p2 : Parts), vs = [.ref a, .ref b] ∧ Tabs T H ∧ RuleAt H C a t1 p1 ∧ PartsOk p1 ∧ RuleAt H C b t2 p2 ∧ PartsOk p2 ∧ p1.sg = p2.sg ∧
  ∀ (o : Option Row) (H' : Hp), ExtN H H' → Tabs T H' → Shows p1 p2 ftAn o → (o ≠ none → Q .non H') ∧ (∀ (c pt t : Addr) (ps : List (Str × Str)) (as : List Addr), o = none → H' t = some (.tup [.ref c, .ref pt]) → H' c = some (.tup [.str "within", .str t1, .str t2]) → H' pt = some (.tup (as.map V.ref)) → Pr2 H' as ps → Holds p1 p2 (some (ps.map twP)) → Q (.ref t) H')
def pairOf : List Key → Str × Str
  | [Sum.inr a, Sum.inr b] => (a, b)
  | _ => (Str.empty, Str.empty)
abbrev pairsN (E : List Nm) : List (Str × Str) := E.map fun e => pairOf e.key
section
variable {p1 p2 : Parts} {H : Hp} {l g : Addr} {E : List Nm} {Gs : List Addr}
theorem pr2_of {H : Hp} : ∀ {E : List Nm}, (∀ e ∈ E, H e.addr = some (stK e.key)) → (∀ e ∈ E, e.key ∈ pairsD p1 p2) → Pr2 H (E.map Nm.addr) (pairsN E)
  | [], _, _ => trivial
  | e :: E, h, hD => by
    refine ⟨?_, pr2_of (fun y hy => h y (List.mem_cons_of_mem _ hy)) fun y hy => hD y (List.mem_cons_of_mem _ hy)⟩
    have e1 := h e (List.mem_cons_self ..)
    obtain ⟨a, _, b, _, ek⟩ := in_pairs.mp (hD e (List.mem_cons_self ..))
    have ep : pairOf e.key = (a, b) := by rw [ek]; rfl
    show H e.addr = some (.tup [.str (pairOf e.key).1, .str (pairOf e.key).2])
    rw [ep]
    rw [ek] at e1
    exact e1
theorem holds_of (ok1 : PartsOk p1) (ok2 : PartsOk p2) (es : p1.sg = p2.sg) (X : Explored p1.sg.cps.toList (stepP p1 p2) (k2 (firstL p1) (firstL p2)) H l g E Gs) (hD : ∀ e ∈ E, e.key ∈ pairsD p1 p2) (no : Shows p1 p2 ftAn none) : Holds p1 p2 (some ((pairsN E).map twP)) := by
  have ofK : ∀ e ∈ E, ∃ a ∈ p1.ms, ∃ b ∈ p2.ms, e.key = k2 a b ∧ pairOf e.key = (a, b) := fun e he => by
    obtain ⟨a, ha, b, hb, ek⟩ := in_pairs.mp (hD e he)
    exact ⟨a, ha, b, hb, ek, by rw [ek]; rfl⟩
  have inE : ∀ a b, (∃ e ∈ E, e.key = k2 a b) → (a, b) ∈ pairsN E := fun a b ⟨e, he, ek⟩ => List.mem_map.mpr ⟨e, he, by rw [ek]; rfl⟩
  refine ⟨es, pairsN E, rfl, ⟨?_, fun ab hm => ?_⟩, fun ab hm hg => ?_, fun ab hm c hc => ?_, ?_⟩
  · have nd := X.nd
    refine List.Pairwise.map _ (fun x y hxy => hxy) ?_ |> fun z => z
    rw [List.Nodup, List.pairwise_map] at nd
    refine List.Pairwise.imp_of_mem ?_ nd
    intro x y hx hy hxy e
    obtain ⟨a, _, b, _, ek, ep⟩ := ofK x hx
    obtain ⟨a', _, b', _, ek', ep'⟩ := ofK y hy
    rw [ep, ep'] at e
    injection e with e1 e2
    exact hxy (by rw [ek, ek', e1, e2])
  · obtain ⟨e, he, rfl⟩ := List.mem_map.mp hm
    obtain ⟨a, ha, b, hb, ek, ep⟩ := ofK e he
    rw [ep]
    exact ⟨ha, hb⟩
  · obtain ⟨e, he, rfl⟩ := List.mem_map.mp hm
    obtain ⟨a, ha, b, hb, ek, ep⟩ := ofK e he
    rw [ep] at hg ⊢
    obtain ⟨q1, q2⟩ := X.bfs.ok (e.key, e.row) (List.mem_map.mpr ⟨e, he, rfl⟩)
    have q1 : e.key = runL (stepP p1 p2) (k2 (firstL p1) (firstL p2)) e.row := q1
    rw [run_pair, ek] at q1
    injection q1 with z1 z2
    injection z1 with z1
    injection z2 with z2 _
    injection z2 with z2
    have this : ¬ ftAn (decide (walkL p1 (firstL p1) e.row ∈ p1.gs)) (decide (walkL p2 (firstL p2) e.row ∈ p2.gs)) = true := no e.row q2
    rw [← z1, ← z2, decide_eq_true hg] at this
    refine Classical.byContradiction fun n => this ?_
    rw [decide_eq_false n]
    rfl
  · obtain ⟨e, he, rfl⟩ := List.mem_map.mp hm
    obtain ⟨a, ha, b, hb, ek, ep⟩ := ofK e he
    rw [ep]
    obtain ⟨i, ei⟩ := List.mem_iff_getElem?.mp he
    have lt := (List.getElem?_eq_some_iff.mp ei).1
    obtain ⟨z, hz, ez, _⟩ := X.bfs.cl i (e.key, e.row) c (by rw [List.getElem?_map, ei]; rfl) hc (.inl lt)
    obtain ⟨e', he', rfl⟩ := List.mem_map.mp hz
    refine inE _ _ ⟨e', he', ?_⟩
    have ez : e'.key = stepP p1 p2 e.key c := ez
    rw [ez, ek]
    rfl
  · have h0 := List.mem_of_getElem? X.bfs.h0
    obtain ⟨e', he', q⟩ := List.mem_map.mp h0
    injection q with q1 q2
    exact inE _ _ ⟨e', he', q1⟩
end
section
variable {P : Program} {w : World} {K : PySem.W.Frag} {mg : Str → Option Value} {base : Heap} {C : Addr} {T : List (Addr × Str)}
abbrev nCertA : List Str := ["one", "other", "row"]
theorem scCertA : FnScope nCertA ["one", "other"] (defScope sCertA) := ⟨rfl, rfl, rfl, by decide +kernel, rfl, by decide +kernel, by decide +kernel⟩
theorem ok_certA {f : Addr} {fd : FuncData} (F : Fun K "certify_apart" "certify_apart" sCertA f fd) (R : RuC K C) (pT : PrF P w K mg base C "text" "written") (hPa : Hv P w K mg base 5 "parting" ["one", "other"] (spShow K P w mg base T C ftNe rowV)) : FnOk P w K mg base CX0 6 f fd ["one", "other"] (spCertA K P w mg base T C) := by
  obtain ⟨pp, gp, fdp, PP, GP, bP⟩ := pT
  refine F.ok scCertA (fun vs H Q E h => ?_) (fun cdv A outer s H vs Q E hr h => ?_)
  · obtain ⟨a, b, t1, t2, p1, p2, rfl, _⟩ := h
    rfl
  · obtain ⟨a, b, t1, t2, p1, p2, rfl, hT, hA, ok1, hB, ok2, es, k⟩ := h
    have hr1 := hr.mono (by decide : 2 ≤ 5)
    refine ⟨_, pss_cons (ps_set (i := 2) scCertA.nd rfl (Or.inl rfl) (pe_cl hPa hr rfl pass0 (pa_cons (pv 0) (pa_cons (pv 1) pa_nil))))
      (pss_cons (ps_if (pt_cmpR op_isN (pv 2) pe_non (nomark _)) (pss_one (ps_ret pe_non)) pss_nil)
      (pss_one (ps_ret (pe_tup (pa_cons (pe_tup (pa_cons pe_str (pa_cons (pe_prop (pv 0) R.cl PP GP hr1 bP .nil pass0 (by rfl)) (pa_cons (pe_prop (pv 1) R.cl PP GP hr1 bP .nil pass0 (by rfl)) pa_nil)))) (pa_cons (pv 2) pa_nil)))))), ?_⟩
    refine ⟨_, rfl, _, rfl, a, b, t1, t2, p1, p2, rfl, hT, hA, ok1, hB, ok2, es, fun o H1 eN T1 ho => ?_⟩
    obtain ⟨k1, k2⟩ := k o H1 eN T1 ho
    cases o with
    | none => exact ⟨_, rfl, rfl, _, rfl, iteT (k1 rfl)⟩
    | some r =>
      refine ⟨_, rfl, rfl, _, rfl, iteF ?_⟩
      obtain ⟨dx, M, G, D, e1, _⟩ := hA.ext eN
      obtain ⟨dx', M', G', D', g1, _⟩ := hB.ext eN
      refine ⟨_, rfl, a, dx, _, rfl, e1, a, dx, _, .str t1, rfl, e1, rfl, _, rfl, b, dx', _, rfl, g1, b, dx', _, .str t2, rfl, g1, rfl, by show 3 ≤ sizeLine; decide, fun c hc => ⟨_, rfl, by show 2 ≤ sizeLine; decide, fun t ht => ?_⟩⟩
      exact k2 r c t _ rfl ((same_new hc).trans (same_new ht)) upd_same (keep1 upd_same ht)
abbrev nCertW : List Str := ["one", "other", "most", "pairs", "goals"]
theorem scCertW : FnScope nCertW ["one", "other"] (defScope sCertW) := ⟨rfl, rfl, rfl, by decide +kernel, rfl, by decide +kernel, by decide +kernel⟩
theorem ok_certW {f : Addr} {fd : FuncData} (F : Fun K "certify_within" "certify_within" sCertW f fd) (R : RuC K C) (pT : PrF P w K mg base C "text" "written") (pM : PrF P w K mg base C "moods" "words") (pG : PrF P w K mg base C "signs" "letters") (hWi : Hv P w K mg base 5 "within" ["one", "other"] (spShow K P w mg base T C ftAn fun o => .bl o.isNone))
    (hEx : Hv P w K mg base 3 "explored" ["signs", "starts", "step", "most"] (spExplored P w K mg base)) (hFM : Hv P w K mg base 3 "first_moods" ["one", "other"] (spFirstMo C)) (hPS : Hv P w K mg base 1 "pair_step" ["one", "other"] (spPairStep K P w mg base T C)) (hL : mg "len" = none) (hTu : mg "tuple" = none) : FnOk P w K mg base CX0 6 f fd ["one", "other"] (spCertW K P w mg base T C) := by
  obtain ⟨ppT, gpT, fdpT, PT, GT, bT⟩ := pT
  obtain ⟨ppM, gpM, fdpM, PM, GM, bM⟩ := pM
  obtain ⟨ppG, gpG, fdpG, PG', GG, bG⟩ := pG
  refine F.ok scCertW (fun vs H Q E h => ?_) (fun cdv A outer s H vs Q E hr h => ?_)
  · obtain ⟨a, b, t1, t2, p1, p2, rfl, _⟩ := h
    rfl
  · obtain ⟨a, b, t1, t2, p1, p2, rfl, hT, hA, ok1, hB, ok2, es, k⟩ := h
    have hr1 := hr.mono (by decide : 1 ≤ 5)
    have hr2 := hr.mono (by decide : 2 ≤ 5)
    have hr3 := hr.mono (by decide : 3 ≤ 5)
    refine ⟨_, pss_cons (ps_if (pt_not (pt_val (pe_cl hWi hr rfl pass0 (pa_cons (pv 0) (pa_cons (pv 1) pa_nil))))) (pss_one (ps_ret pe_non)) pss_nil)
      (pss_cons (ps_set (i := 2) scCertW.nd rfl (Or.inl rfl) (pe_op op_mul (pe_callB call_len_seq (by rfl) hL PySem.boot_len (pa_cons (pe_prop (pv 0) R.cl PM GM hr2 bM .nil pass0 (by rfl)) pa_nil)) (pe_callB call_len_seq (by rfl) hL PySem.boot_len (pa_cons (pe_prop (pv 1) R.cl PM GM hr2 bM .nil pass0 (by rfl)) pa_nil))))
      (pss_cons (ps_asg (pe_cl hEx hr3 rfl pass0 (pa_cons (pe_prop (pv 0) R.cl PG' GG hr2 bG .nil pass0 (by rfl)) (pa_cons (pe_lst (pa_cons (pe_cl hFM hr3 rfl pass0 (pa_cons (pv 0) (pa_cons (pv 1) pa_nil))) pa_nil)) (pa_cons (pe_cl hPS hr1 rfl pass0 (pa_cons (pv 0) (pa_cons (pv 1) pa_nil))) (pa_cons (pv 2) pa_nil))))) (pg_tup (by rfl) (pgs_cons (pg_name (i := 3) scCertW.nd rfl (Or.inl rfl)) (pgs_cons (pg_name (i := 4) scCertW.nd rfl (Or.inl rfl)) pgs_nil))))
      (pss_one (ps_ret (pe_tup (pa_cons (pe_tup (pa_cons pe_str (pa_cons (pe_prop (pv 0) R.cl PT GT hr2 bT .nil pass0 (by rfl)) (pa_cons (pe_prop (pv 1) R.cl PT GT hr2 bT .nil pass0 (by rfl)) pa_nil)))) (pa_cons (pe_callTy call_tuple_of (by rfl) hTu (by decide +kernel) (pa_cons (pv 3) pa_nil)) pa_nil))))))), ?_⟩
    refine ⟨_, rfl, _, rfl, a, b, t1, t2, p1, p2, rfl, hT, hA, ok1, hB, ok2, es, fun o H1 eN T1 ho => ⟨_, rfl, ?_⟩⟩
    cases o with
    | some r => exact iteT ((k (some r) H1 eN T1 ho).1 (fun z => by cases z))
    | none =>
      refine iteF ?_
      have hA1 := hA.ext eN
      have hB1 := hB.ext eN
      obtain ⟨dx, M, G, D, e1, e2, e3, e4⟩ := id hA1
      obtain ⟨dx', M', G', D', g1, g2, g3, g4⟩ := id hB1
      have z1 := ok1.few
      have z2 := ok2.few
      have em : (fun i j : Int => V.int (i * j)) ((p1.ms.map V.str).length : Int) ((p2.ms.map V.str).length : Int) = V.int ((p1.ms.length * p2.ms.length : Nat) : Int) := by
        show V.int (_ * _) = _
        rw [List.length_map, List.length_map, Int.natCast_mul]
      refine ⟨_, rfl, a, dx, _, rfl, e1, a, dx, _, .ref M, rfl, e1, rfl, M, _, rfl, .inr (SqT.of e2), _, rfl, b, dx', _, rfl, g1, b, dx', _, .ref M', rfl, g1, rfl, M', _, rfl, .inr (SqT.of g2), _, _, rfl, rfl, .inl ⟨by show -(2 ^ 64 : Int) < ((p1.ms.map V.str).length : Int); omega, by show ((p1.ms.map V.str).length : Int) < 2 ^ 64; rw [List.length_map]; omega⟩, ?_⟩
      rw [em]
      refine ⟨_, rfl, a, dx, _, rfl, e1, a, dx, _, .str p1.sg, rfl, e1, rfl, _, rfl, _, rfl, a, b, t1, t2, p1, p2, rfl, hA1, ok1, hB1, ok2, fun r H2 s2 hr' er => ?_⟩
      refine ⟨by show 1 ≤ sizeLine; decide, fun ls hls => ?_⟩
      have s3 := s2.trans (same_new (o := .lst [.ref r]) hls)
      have els := upd_same (a := ls) (H := H2) (o := .lst [.ref r])
      have er3 := keep1 (o := .lst [.ref r]) er hls
      generalize upd H2 ls (.lst [.ref r]) = H3 at s3 els er3 ⊢
      refine ⟨_, rfl, _, rfl, a, b, rfl, T1.ext s3, fun g O F' H4 eN4 T4 nn clo => ?_⟩
      have hA3 := hA1.same s3
      have hB3 := hB1.same s3
      have cS := callT_step clo eN4 nn hA3 ok1 hB3 ok2 es
      obtain ⟨ms, em1⟩ := ok1.first
      obtain ⟨ms', em2⟩ := ok2.first
      have m1 : firstL p1 ∈ p1.ms := by rw [em1]; simp
      have m2 : firstL p2 ∈ p2.ms := by rw [em2]; simp
      refine ⟨_, rfl, p1.sg, ls, r, g, k2 (firstL p1) (firstL p2), pairsD p1 p2, stepP p1 p2, p1.ms.length * p2.ms.length, rfl, eN4 _ _ els (fun _ z => by cases z), eN4 _ _ er3 (fun _ z => by cases z), in_pairs.mpr ⟨_, m1, _, m2, rfl⟩, by rw [pairsD_len]; exact Nat.le_refl _, ?_, fun kx hk c hc => ?_, ok1.asc, ?_, cS, fun t l gg E Gs H5 s5 et X hD => ?_⟩
      · have : p1.ms.length * p2.ms.length ≤ 300 * 300 := Nat.mul_le_mul z1 z2
        omega
      · obtain ⟨x, hx, y, hy, rfl⟩ := in_pairs.mp hk
        exact in_pairs.mpr ⟨_, (ok1.goal hx hc).1, _, (ok2.goal hy (by rw [← es]; exact hc)).1, rfl⟩
      · have := ok1.sgs
        rw [areS1] at this
        simp only [Bool.and_eq_true, decide_eq_true_eq] at this
        have h3 : p1.sg.cps.size ≤ 3 := this.1.1.2
        rw [Array.length_toList]
        omega
      have x5 := ext_same (ext_trans (ext_trans eN (ext_of s3)) eN4) s5
      have T5 := T4.ext s5
      obtain ⟨dx, M, G, D, e1, _⟩ := hA.ext x5
      obtain ⟨dx', M', G', D', g1, _⟩ := hB.ext x5
      refine ⟨t, _, rfl, SqT.of et, rfl, _, _, rfl, _, _, rfl, rfl, ?_⟩
      refine ⟨_, rfl, a, dx, _, rfl, e1, a, dx, _, .str t1, rfl, e1, rfl, _, rfl, b, dx', _, rfl, g1, b, dx', _, .str t2, rfl, g1, rfl, by show 3 ≤ sizeLine; decide, fun c hc => ?_⟩
      have s6 := same_new (o := .tup [.str "within", .str t1, .str t2]) hc
      have ec := upd_same (a := c) (H := H5) (o := .tup [.str "within", .str t1, .str t2])
      show ∃ _, _
      generalize upd H5 c (.tup [.str "within", .str t1, .str t2]) = H6 at s6 ec ⊢
      refine ⟨_, rfl, l, _, rfl, .inl ⟨SqL.of (s6 _ _ X.el), fun pt hpt => ⟨by show 2 ≤ sizeLine; decide, fun t' ht' => ?_⟩⟩⟩
      have s8 := (same_new (o := .tup (exR E)) hpt).trans (same_new (o := .tup [.ref c, .ref pt]) ht')
      have s58 := s6.trans s8
      refine (k none _ (ext_same x5 s58) (T5.ext s58) ho).2 c pt t' (pairsN E) (E.map Nm.addr) rfl upd_same (s8 _ _ ec) ?_ (pr2_of (fun e he => s58 _ _ (X.at_ e he)) hD) (holds_of ok1 ok2 es X hD ho)
      rw [List.map_map]
      exact keep1 upd_same ht'
end
end My
namespace My
open PySem PySem.Spec PyProof.Rows L2 PySem.GX L2H LamX
theorem BxAt.same {H H' : Hp} {q : Addr} {x : Str} {ws fs : List Str} {kvs : List (List Key × V)} (h : BxAt H q x ws fs kvs) (s : Same H H') : BxAt H' q x ws fs kvs := by
  obtain ⟨lw, lf, g, a, b, c, d⟩ := h
  exact ⟨lw, lf, g, s _ _ a, s _ _ b, s _ _ c, s _ _ d⟩
theorem BxAt.sb {H H' : Hp} {q p0 : Addr} {x : Str} {ws fs : List Str} {kvs : List (List Key × V)} (h : BxAt H q x ws fs kvs) (w : Wl H p0) (s : Sb p0 H H') : BxAt H' q x ws fs kvs := by
  obtain ⟨lw, lf, g, a, b, c, d⟩ := h
  exact ⟨lw, lf, g, s _ _ (w.ne a fun _ _ _ z => by cases z) a, s _ _ (w.ne b (strs_ne3 _)) b, s _ _ (w.ne c (strs_ne3 _)) c, s _ _ (w.ne d fun _ _ _ z => by cases z) d⟩
abbrev abE : Str := "abcde"
def uL (k : Nat) : Str := ("u" : Str) ++ sg (97 + k)
def vL (k : Nat) : Str := ("v" : Str) ++ sg (97 + k)
def twL (n : Nat) : List Str := ((List.range n).map uL) ++ (List.range n).map fun k => vL (n - 1 - k)
theorem tw_len (n : Nat) : (twL n).length = n + n := by unfold twL; rw [List.length_append, List.length_map, List.length_map, List.length_range]
theorem tw_ok : ∀ n, n < 6 → 1 ≤ n → areMoodsL (twL n) = true := by decide +kernel
theorem abE_at : ∀ k, k < 5 → abE.cps.toList[k]? = some (97 + k) := by decide +kernel
theorem abE_ix : ∀ k, k < 5 → Builtin.Str.occurrences abE (sg (97 + k)) 0 abE.length 1 = [k] := by decide +kernel
theorem u_cps (k : Nat) : (uL k).cps.toList = [117, 97 + k] := by
  unfold uL
  rw [cps_app]
  rfl
theorem v_cps (k : Nat) : (vL k).cps.toList = [118, 97 + k] := by
  unfold vL
  rw [cps_app]
  rfl
theorem u_mem {n k : Nat} (h : k < n) : uL k ∈ twL n := List.mem_append_left _ (List.mem_map.mpr ⟨k, List.mem_range.mpr h, rfl⟩)
theorem v_mem {n k : Nat} (h : k < n) : vL k ∈ twL n := List.mem_append_right _ (List.mem_map.mpr ⟨n - 1 - k, List.mem_range.mpr (by omega), by
  show vL (n - 1 - (n - 1 - k)) = vL k
  rw [show n - 1 - (n - 1 - k) = k by omega]⟩)
theorem tw_char {n : Nat} {t : Str} (h : t ∈ twL n) : ∃ k, k < n ∧ t.cps.toList[1]? = some (97 + k) ∧ t.length = 2 := by
  rcases List.mem_append.mp h with m | m
  · obtain ⟨k, hk, rfl⟩ := List.mem_map.mp m
    exact ⟨k, List.mem_range.mp hk, by rw [u_cps]; rfl, by show (uL k).cps.size = 2; rw [← Array.length_toList, u_cps]; rfl⟩
  · obtain ⟨k, hk, rfl⟩ := List.mem_map.mp m
    have := List.mem_range.mp hk
    exact ⟨n - 1 - k, by omega, by rw [v_cps]; rfl, by show (vL (n - 1 - k)).cps.size = 2; rw [← Array.length_toList, v_cps]; rfl⟩
/-- the mood that a twin stands for -/
def bkL (ws : List Str) (t : Str) : Str := ws.getD (t.cps.toList.getD 1 0 - 97) Str.empty
theorem bk_is {ws : List Str} {t y : Str} {k : Nat} (h : t.cps.toList[1]? = some (97 + k)) (hy : ws[k]? = some y) : bkL ws t = y := by
  unfold bkL
  rw [List.getD_eq_getElem?_getD, List.getD_eq_getElem?_getD, h]
  show (ws[97 + k - 97]?).getD Str.empty = y
  rw [show 97 + k - 97 = k by omega, hy]
  rfl
theorem first_idx {y : Str} : ∀ {ws : List Str}, y ∈ ws → ∃ j, j < ws.length ∧ ws[j]? = some y ∧ ∀ m, m < j → ws[m]? ≠ some y
  | [], h => by cases h
  | a :: t, h => by
    by_cases e : a = y
    · exact ⟨0, by simp, by rw [e]; rfl, fun m hm => absurd hm (Nat.not_lt_zero m)⟩
    · have ht : y ∈ t := (List.mem_cons.mp h).resolve_left fun z => e z.symm
      obtain ⟨j, lj, hj, hm⟩ := first_idx ht
      refine ⟨j + 1, by rw [List.length_cons]; omega, hj, fun m hlt => ?_⟩
      cases m with
      | zero => intro z; exact e (Option.some.inj z)
      | succ m => exact hm m (by omega)
theorem eqV_str (a b : Str) : eqV (.str a) (.str b) = decide (a = b) := by
  show (a == b) = _
  by_cases h : a = b
  · subst h; simp
  · simp [h]
def spTwins : Sp := fun vs H Q _ => ∃ (p q : Addr) (x : Str) (ws fs : List Str) (kvs : List (List Key × V)), vs = [.ref p, .ref q] ∧ Wl H p ∧ BxAt H q x ws fs kvs ∧ Fine x ws fs kvs ∧ ws.length ≤ 5 ∧
  ∀ (q' : Addr) (ws' fs' : List Str) (kvs' : List (List Key × V)) (H' : Hp), Fine x ws' fs' kvs' → ws'.length ≤ 10 → Sb p H H' → Wl H' p → BxAt H' q' x ws' fs' kvs' → Q (.ref q') H'
theorem fm_ifB (p : Str → Bool) : ∀ ms : List Str, (ms.filterMap fun m => if p m = true then some (V.str m) else none) = (ms.filter p).map V.str
  | [] => rfl
  | m :: t => by
    have ih := fm_ifB p t
    rw [List.filterMap_cons]
    by_cases h : p m = true
    · rw [if_pos h, List.filter_cons_of_pos h, List.map_cons, ih]
    · rw [if_neg h, List.filter_cons_of_neg h, ih]
section
variable {P : Program} {w : World} {K : PySem.W.Frag} {mg : Str → Option Value} {base : Heap}
abbrev nTwins : List Str := ["_law_purse_here", "_law_box_here", "_law_size", "_law_goals", "_law_back", "_law_words", "_law_side", "_law_letter", "_law_aim_here", "_law_k"]
theorem scTwins : FnScope nTwins ["_law_purse_here", "_law_box_here"] (defScope sTwins) := ⟨rfl, rfl, rfl, by decide +kernel, rfl, by decide +kernel, by decide +kernel⟩
theorem ok_twins {f : Addr} {fd : FuncData} (F : Fun K "_law_twins" "_law_twins" sTwins f fd) (hP : Hv P w K mg base 1 "_law_pick" ["_law_purse_here", "_law_size"] spPk) (hL : mg "len" = none) (hR : mg "range" = none) : FnOk P w K mg base CX0 2 f fd ["_law_purse_here", "_law_box_here"] spTwins := by
  refine F.ok scTwins (fun vs H Q E h => ?_) (fun cdv A outer s H vs Q E hr h => ?_)
  · obtain ⟨p, q, x, ws, fs, kvs, rfl, _⟩ := h
    rfl
  · obtain ⟨p, q, x, ws, fs, kvs, rfl, hW, ⟨lw, lf, g, eq, ew, ef, eg⟩, fine, w5, k⟩ := h
    have hu := hu_of hr
    refine ⟨_, pss_cons (ps_asg (pe_tup (pa_cons (pe_callB call_len_seq (by rfl) hL PySem.boot_len (pa_cons (pe_ix ix_tup (pv 1) pe_int (fun _ _ => rfl)) pa_nil)) (pa_cons pe_dnewT (pa_cons pe_dnewK pa_nil)))) (pg_tup rfl (pgs_cons (pg_name (i := 2) scTwins.nd rfl (Or.inr rfl)) (pgs_cons (pg_name (i := 3) scTwins.nd rfl (Or.inl rfl)) (pgs_cons (pg_name (i := 4) scTwins.nd rfl (Or.inr rfl)) pgs_nil)))))
      (pss_cons (ps_set (i := 5) scTwins.nd rfl (Or.inl rfl) (pe_op op_cat
          (pe_lc (own := [("_law_k", 9)]) (g := gName 9) (tt := tYes) rfl scTwins.nd (pi_range1 rfl hR (pa_cons (pv 2) pa_nil)) (blkOk_by (N := nTwins) (sc := defScope sTwins) (by decide +kernel)) (fun _ _ _ _ _ => pg_name (i := 9) scTwins.nd rfl (Or.inl rfl)) (fun _ _ _ _ _ => pts_nil) (fun _ _ _ _ _ => pe_op op_add_str pe_str (pe_ix ix_str pe_str (pv 9) (fun _ _ => rfl))))
          (pe_lc (own := [("_law_k", 9)]) (g := gName 9) (tt := tYes) rfl scTwins.nd (pi_range1 rfl hR (pa_cons (pv 2) pa_nil)) (blkOk_by (N := nTwins) (sc := defScope sTwins) (by decide +kernel)) (fun _ _ _ _ _ => pg_name (i := 9) scTwins.nd rfl (Or.inl rfl)) (fun _ _ _ _ _ => pts_nil) (fun _ _ _ _ _ => pe_op op_add_str pe_str (pe_ix ix_str pe_str (pe_op op_sub (pe_op op_sub (pv 2) pe_int) (pv 9)) (fun _ _ => rfl))))))
      (pss_cons (ps_for PassesOwn.never rfl (pi_list (pv 5)) (pg_name (i := 6) scTwins.nd rfl (Or.inl rfl)) (pss_one (ps_dput hu (pv 4) (pv 6) (pe_ix ix_list (pe_ix ix_tup (pv 1) pe_int (fun _ _ => rfl)) (pe_bm PySem.F.plainAttrs_str PySem.F.slot_str_index PySem.F.type_str_index mt_sindex pe_str (pa_cons (pe_ix ix_str (pv 6) pe_int (fun _ _ => rfl)) pa_nil)) (fun _ _ => rfl)) rfl)))
      (pss_cons (ps_for PassesOwn.never rfl (pi_list (pv 5)) (pg_name (i := 6) scTwins.nd rfl (Or.inl rfl)) (pss_one (ps_for PassesOwn.never rfl (pi_str (pe_ix ix_tup (pv 1) pe_int (fun _ _ => rfl))) (pg_name (i := 7) scTwins.nd rfl (Or.inl rfl))
          (pss_cons (ps_set (i := 8) scTwins.nd rfl (Or.inl rfl) (pe_dget hu (pe_ix ix_tup (pv 1) pe_int (fun _ _ => rfl)) (pe_tup (pa_cons (pe_dget hu (pv 4) (pv 6) (fun _ _ => rfl)) (pa_cons (pv 7) pa_nil))) (fun _ _ => rfl)))
          (pss_one (ps_dput hu (pv 3) (pe_tup (pa_cons (pv 6) (pa_cons (pv 7) pa_nil))) (pe_op op_add_str (pe_ix ix_list (pe_lst (pa_cons pe_str (pa_cons pe_str pa_nil))) (pe_cl hP hr rfl pass0 (pa_cons (pv 0) (pa_cons pe_int pa_nil))) (fun _ _ => rfl)) (pe_ix ix_str pe_str (pe_bm PySem.F.plainAttrs_list PySem.F.slot_list_index PySem.F.type_list_index mt_index (pe_ix ix_tup (pv 1) pe_int (fun _ _ => rfl)) (pa_cons (pv 8) pa_nil)) (fun _ _ => rfl))) rfl))))))
      (pss_one (ps_ret (pe_tup (pa_cons (pe_ix ix_tup (pv 1) pe_int (fun _ _ => rfl)) (pa_cons (pv 5) (pa_cons (pe_lc (own := [("_law_side", 6)]) (g := gName 6) rfl scTwins.nd (pi_list (pv 5)) (blkOk_by (N := nTwins) (sc := defScope sTwins) (by decide +kernel)) (fun _ _ _ _ _ => pg_name (i := 6) scTwins.nd rfl (Or.inl rfl))
          (fun _ _ _ _ _ => pts_one (pt_cmpR (op_in_seqK (K := K) rfl) (pe_dget hu (pv 4) (pv 6) (fun _ _ => rfl)) (pe_ix (ix_tupK (K := K) rfl) (pv 1) pe_int (fun _ _ => rfl)) (by rfl))) (fun _ _ _ _ _ => pv 6)) (pa_cons (pv 3) pa_nil)))))))))), ?_⟩
    have z1 : 1 ≤ ws.length := by
      have := fine.mds
      unfold areMoodsL at this
      simp only [Bool.and_eq_true, decide_eq_true_eq] at this
      exact this.1.1.1
    have hx3 : x.length ≤ 3 := by
      have := fine.sgs
      rw [areS1] at this
      simp only [Bool.and_eq_true, decide_eq_true_eq] at this
      exact this.1.1.2
    have nq : q ≠ p := hW.ne eq fun _ _ _ z => by cases z
    have nw : lw ≠ p := hW.ne ew (strs_ne3 _)
    have nf : lf ≠ p := hW.ne ef (strs_ne3 _)
    have ng : g ≠ p := hW.ne eg fun _ _ _ z => by cases z
    have zab : abE.length ≤ sizeLine := by decide +kernel
    refine ⟨_, rfl, q, _, _, V.ref lw, rfl, rfl, SqT.of eq, atI_nat (j := 1) rfl, lw, _, rfl, .inl (SqL.of ew), fun gg hgg bk hbk => ⟨by show 3 ≤ sizeLine; decide, fun t0 ht0 => ⟨t0, _, rfl, SqT.of upd_same, rfl, _, _, rfl, _, _, rfl, _, _, rfl, rfl, ?_⟩⟩⟩
    rw [List.length_map]
    have sA := (same_new (o := .dT []) hgg).trans ((same_new (o := .dK []) hbk).trans (same_new (o := .tup [.int ((ws.length : Nat) : Int), .ref gg, .ref bk]) ht0))
    have egg := keep1 (o := .tup [.int ((ws.length : Nat) : Int), .ref gg, .ref bk]) (keep1 (o := .dK []) (upd_same (a := gg) (H := H) (o := .dT [])) hbk) ht0
    have ebk := keep1 (o := .tup [.int ((ws.length : Nat) : Int), .ref gg, .ref bk]) (upd_same (a := bk) (H := upd H gg (.dT [])) (o := .dK [])) ht0
    have fg : ∀ b o, H b = some o → b ≠ gg := fun b o e => ne_of_none e hgg
    have fb : ∀ b o, H b = some o → b ≠ bk := fun b o e => ne_of_none (keep1 (o := .dT []) e hgg) hbk
    have hgg' := hgg
    generalize upd (upd (upd H gg (.dT [])) bk (.dK [])) t0 (.tup [.int ((ws.length : Nat) : Int), .ref gg, .ref bk]) = H1 at sA egg ebk ⊢
    clear ht0 hbk hgg
    have ngb : gg ≠ bk := ne_of egg ebk (by intro z; cases z)
    generalize hn : ws.length = n at z1 w5 ⊢
    refine ⟨_, rfl, (n : Int), rfl, by omega, by omega, fun D1 hD1 => ?_⟩
    refine lcG (List.range n) (fun k => some (V.str (uL k))) (by rw [List.length_range]; exact walk_range) (by rw [List.length_range]; omega) hD1 (fun i H x H' h => by rw [h.1]; exact Same.refl _) (fun _ _ => trivial) (fun i kk y H' H'' k1 hk sj hy k2 => ?_) (fun H2 s2 e2 => ?_)
    · obtain ⟨rfl, rfl⟩ := hy
      have hi : i < n := by
        have := (List.getElem?_eq_some_iff.mp hk).1
        rw [List.length_range] at this
        exact this
      have ek : kk = i := by
        rw [List.getElem?_range hi] at hk
        exact (Option.some.inj hk).symm
      subst ek
      exact ⟨rfl, _, rfl, abE, _, 97 + kk, rfl, rfl, zab, by rw [Int.zero_add]; exact atI_nat (abE_at kk (by omega)), _, _, rfl, rfl, by show 2 ≤ sizeLine; decide, k2 _ (Same.refl _)⟩
    refine ⟨_, rfl, (n : Int), rfl, by omega, by omega, fun D2 hD2 => ?_⟩
    refine lcG (List.range n) (fun k => some (V.str (vL (n - 1 - k)))) (by rw [List.length_range]; exact walk_range) (by rw [List.length_range]; omega) hD2 (fun i H x H' h => by rw [h.1]; exact Same.refl _) (fun _ _ => trivial) (fun i kk y H' H'' k1 hk sj hy k2 => ?_) (fun H3 s3 e3 => ?_)
    · obtain ⟨rfl, rfl⟩ := hy
      have hi : i < n := by
        have := (List.getElem?_eq_some_iff.mp hk).1
        rw [List.length_range] at this
        exact this
      have ek : kk = i := by
        rw [List.getElem?_range hi] at hk
        exact (Option.some.inj hk).symm
      subst ek
      refine ⟨rfl, _, rfl, _, _, rfl, rfl, _, rfl, _, _, rfl, rfl, abE, _, 97 + (n - 1 - kk), rfl, rfl, zab, ?_, _, _, rfl, rfl, by show 2 ≤ sizeLine; decide, k2 _ (Same.refl _)⟩
      show atI _ ((n : Int) - 1 - (0 + (kk : Int))) = _
      rw [show (n : Int) - 1 - (0 + (kk : Int)) = ((n - 1 - kk : Nat) : Int) by omega]
      exact atI_nat (abE_at (n - 1 - kk) (by omega))
    have e2' : H3 D1 = some (.lst ((List.range n).map fun k => V.str (uL k))) := by
      rw [← List.filterMap_eq_map']
      exact s3 _ _ e2
    have e3' : H3 D2 = some (.lst ((List.range n).map fun k => V.str (vL (n - 1 - k)))) := by
      rw [← List.filterMap_eq_map']
      exact e3
    refine ⟨D1, D2, _, _, rfl, rfl, e2', e3', by rw [List.length_map, List.length_map, List.length_range, sizeLine_eq]; omega, fun lt hlt => ?_⟩
    have sB := (s2.trans s3).trans (same_new (o := .lst (((List.range n).map fun k => V.str (uL k)) ++ (List.range n).map fun k => V.str (vL (n - 1 - k)))) hlt)
    have elt : upd H3 lt (.lst (((List.range n).map fun k => V.str (uL k)) ++ (List.range n).map fun k => V.str (vL (n - 1 - k)))) lt = some (.lst ((twL n).map V.str)) := by
      rw [upd_same]
      unfold twL
      rw [List.map_append, List.map_map, List.map_map]
      rfl
    generalize upd H3 lt (.lst (((List.range n).map fun k => V.str (uL k)) ++ (List.range n).map fun k => V.str (vL (n - 1 - k)))) = H4 at sB elt ⊢
    clear hlt e2' e3' e2 e3 hD1 hD2 s2 s3
    have s4 := sA.trans sB
    have eq4 := s4 _ _ eq
    have ew4 := s4 _ _ ew
    have ef4 := s4 _ _ ef
    have eg4 := s4 _ _ eg
    have egg4 := sB _ _ egg
    have ebk4 := sB _ _ ebk
    have hW4 := hW.same s4
    clear sA sB egg ebk
    have htl : (twL n).length ≤ 10 := by rw [tw_len]; omega
    have htw := tw_ok n (by omega) z1
    have hch : ∀ t ∈ twL n, ∃ y, y ∈ ws ∧ bkL ws t = y ∧ t.length = 2 ∧ ∃ k, k < n ∧ t.cps.toList[1]? = some (97 + k) ∧ ws[k]? = some y := fun t ht => by
      obtain ⟨k, hk, hc, h2⟩ := tw_char ht
      have hy : ws[k]? = some ws[k] := List.getElem?_eq_getElem (by omega)
      exact ⟨ws[k], List.getElem_mem _, bk_is hc hy, h2, k, hk, hc, hy⟩
    have hum : ∀ k, k < n → uL k ∈ twL n := fun k h => u_mem h
    have hvm : ∀ k, k < n → vL k ∈ twL n := fun k h => v_mem h
    generalize twL n = tw at elt htl htw hch hum hvm
    have ntb : lt ≠ bk := ne_of elt ebk4 (by intro z; cases z)
    have ntg : lt ≠ gg := ne_of elt egg4 (by intro z; cases z)
    refine ⟨_, rfl, lt, rfl, ⟨_, SqL.of elt⟩, ?_⟩
    refine for_it (walk_listL tw V.str) (fun i σ H' => ∃ v6, σ = [some (.ref p), some (.ref q), some (.int (n : Int)), some (.ref gg), some (.ref bk), some (.ref lt), v6, none, none, none] ∧ H' bk = some (.dK (dOf (fun t => (Sum.inr t : Key)) (fun t => V.str (bkL ws t)) (tw.take i))) ∧ ∀ b o, b ≠ bk → H4 b = some o → H' b = some o)
      ⟨none, rfl, ebk4, fun _ _ _ e => e⟩ (fun i σ H' _ h => ?_) (fun i y σ H' H'' hi h hy => ?_) (fun σ H5 h => ?_)
    · obtain ⟨_, _, _, st⟩ := h
      exact SqL.of (st _ _ ntb elt)
    · obtain ⟨rfl, hy⟩ := hy
      have hm : tw[i]? = some tw[i] := List.getElem?_eq_getElem hi
      obtain rfl := map_get hm hy
      obtain ⟨v6, rfl, eb, st⟩ := h
      have htm : tw[i] ∈ tw := List.getElem_mem hi
      generalize tw[i] = t at hm htm
      obtain ⟨y, hyw, hbk, ht2, kk, hkk, hc1, hyk⟩ := hch t htm
      have lz : t.length ≤ sizeLine := by rw [ht2]; decide
      refine ⟨_, rfl, q, _, _, V.ref lw, rfl, rfl, SqT.of (st _ _ (fb _ _ eq) eq4), atI_nat (j := 1) rfl, rfl, _, rfl, t, _, 97 + kk, rfl, rfl, lz, atI_nat (j := 1) hc1, abE, sg (97 + kk), kk, [], rfl, rfl, abE_ix kk (by omega), lw, _, _, V.str y, rfl, rfl, SqL.of (st _ _ (fb _ _ ew) ew4), atI_nat (by rw [List.getElem?_map, hyk]; rfl), _, rfl, _, rfl, bk, _, rfl, DPut.k (k := Sum.inr t) eb ?_, ?_⟩
      · have := dOf_len (fun t => (Sum.inr t : Key)) (fun t => V.str (bkL ws t)) (tw.take i)
        have := List.length_take_le i tw
        rw [sizeLine_eq]
        have : (tw.take i).length ≤ tw.length := List.length_take_le' i tw
        omega
      · refine ⟨_, rfl, ?_, fun b o n e => by rw [upd_ne n]; exact st b o n e⟩
        rw [upd_same, dOf_take hm, hbk]
    · obtain ⟨v6, rfl, eb, st⟩ := h
      rw [List.take_length] at eb
      have kv : ∀ t ∈ tw, ∃ y, (y ∈ ws ∧ bkL ws t = y) ∧ valV (dOf (fun t => (Sum.inr t : Key)) (fun t => V.str (bkL ws t)) tw) (Sum.inr t) = some (.str y) := fun t ht => by
        obtain ⟨y, hyw, hbk, _⟩ := hch t ht
        refine ⟨y, ⟨hyw, hbk⟩, dOf_const tw (fun a _ e => ?_) ⟨t, ht, rfl⟩⟩
        rw [Sum.inr.inj e, hbk]
      generalize dOf (fun t => (Sum.inr t : Key)) (fun t => V.str (bkL ws t)) tw = kvb at eb kv
      have st5 : ∀ b o, b ≠ bk → H4 b = some o → H5 b = some o := st
      have eq5 := st5 _ _ (fb _ _ eq) eq4
      have ew5 := st5 _ _ (fb _ _ ew) ew4
      have ef5 := st5 _ _ (fb _ _ ef) ef4
      have eg5 := st5 _ _ (fb _ _ eg) eg4
      have egg5 := st5 _ _ ngb egg4
      have elt5 := st5 _ _ ntb elt
      have hW5 : Wl H5 p := by
        obtain ⟨w0, w1, w2, a0, a1, e⟩ := hW4
        obtain ⟨_, _, _, _, _, e0⟩ := id hW
        exact ⟨w0, w1, w2, a0, a1, st5 _ _ (fb _ _ e0) e⟩
      have s5 : Same H H5 := fun b o e => st5 _ _ (fb _ _ e) (s4 _ _ e)
      have nbp : bk ≠ p := fun z => by
        obtain ⟨_, _, _, _, _, e0⟩ := id hW
        exact fb _ _ e0 z.symm
      have ngp : gg ≠ p := fun z => by
        obtain ⟨_, _, _, _, _, e0⟩ := id hW
        exact fg _ _ e0 z.symm
      have nlp : lt ≠ p := hW5.ne elt5 (strs_ne3 _)
      clear st st5 s4 eq4 ew4 ef4 eg4 egg4 ebk4 elt hW4
      refine ⟨_, rfl, lt, rfl, ⟨_, SqL.of elt5⟩, ?_⟩
      refine for_it (walk_listL tw V.str) (fun i σ H' => ∃ v6 v7 v8 kvs', σ = [some (.ref p), some (.ref q), some (.int (n : Int)), some (.ref gg), some (.ref bk), some (.ref lt), v6, v7, v8, none] ∧ Wl H' p ∧ H' gg = some (.dT kvs') ∧ Cv kvs' tw (doneL (tw.take i) x) ∧ ∀ b o, b ≠ p → b ≠ gg → H5 b = some o → H' b = some o)
        ⟨v6, none, none, [], rfl, hW5, egg5, ⟨Nat.zero_le _, fun d hd => by simp [doneL] at hd⟩, fun _ _ _ _ e => e⟩ (fun i σ H' _ h => ?_) (fun i y σ H' H'' hi h hy => ?_) (fun σ H6 h => ?_)
      · obtain ⟨_, _, _, _, _, _, _, _, st⟩ := h
        exact SqL.of (st _ _ nlp ntg elt5)
      · obtain ⟨rfl, hy⟩ := hy
        have hm : tw[i]? = some tw[i] := List.getElem?_eq_getElem hi
        obtain rfl := map_get hm hy
        obtain ⟨v6, v7, v8, kvs', rfl, hW6, eg6, cv, st⟩ := h
        have htm : tw[i] ∈ tw := List.getElem_mem hi
        rw [done_take hm]
        have lti : (tw.take i).length ≤ 10 := by rw [List.length_take]; omega
        generalize tw[i] = t at hm htm
        obtain ⟨y0, ⟨hy0, _⟩, ev0⟩ := kv t htm
        refine ⟨_, rfl, q, _, _, V.str x, rfl, rfl, SqT.of (st _ _ nq (fg _ _ eq) eq5), atI_nat (j := 0) rfl, x, rfl, ?_⟩
        refine for_it walk_str (fun j σ H' => ∃ v7 v8 kvs', σ = [some (.ref p), some (.ref q), some (.int (n : Int)), some (.ref gg), some (.ref bk), some (.ref lt), some (.str t), v7, v8, none] ∧ Wl H' p ∧ H' gg = some (.dT kvs') ∧ Cv kvs' tw (doneL (tw.take i) x ++ (x.cps.toList.take j).map fun c => (t, c)) ∧ ∀ b o, b ≠ p → b ≠ gg → H5 b = some o → H' b = some o)
          ⟨v7, v8, kvs', rfl, hW6, eg6, by rw [List.take_zero, List.map_nil, List.append_nil]; exact cv, st⟩ (fun _ _ _ _ _ => trivial) (fun j y σ H7 H8 hj h hy => ?_) (fun σ H7 h => ?_)
        · obtain ⟨rfl, c, hc, rfl⟩ := hy
          obtain ⟨v7, v8, kvs', rfl, hW7, eg7, cv, st⟩ := h
          rw [← Array.getElem?_toList] at hc
          have hcx : c ∈ x.cps.toList := List.mem_of_getElem? hc
          obtain ⟨y, hyw, ey⟩ := fine.gl y0 hy0 c hcx
          obtain ⟨ix, lix, hix, hfi⟩ := first_idx hyw
          have eq7 := st _ _ nq (fg _ _ eq) eq5
          have ew7 := st _ _ nw (fg _ _ ew) ew5
          have egk := st _ _ ng (fg _ _ eg) eg5
          have eb7 := st _ _ nbp ngb.symm eb
          refine ⟨_, rfl, q, _, _, V.ref g, rfl, rfl, SqT.of eq7, atI_nat (j := 3) rfl, _, rfl, _, rfl, bk, .str y0, rfl, ?_, _, rfl, by show 2 ≤ sizeLine; decide, fun ta hta => ⟨g, .str y, rfl, ?_, ?_⟩⟩
          · have := DGet.k (k := Sum.inr t) eb7
            rw [ev0] at this
            exact this
          · have := DGet.t (k := kT y0 c) (keep1 egk hta) (upd_same (o := .tup ((kT y0 c).map kV)))
            rw [ey] at this
            exact this
          have sa := same_new (o := .tup [.str y0, .str (sg c)]) hta
          have hW8 := hW7.same sa
          refine ⟨by show 2 ≤ sizeLine; decide, fun l2 hl2 => ⟨_, rfl, p, 2, rfl, hW8.same (same_new hl2), by decide, by decide, fun d H9 d0 d1 s9 hW9 => ?_⟩⟩
          obtain ⟨dn, rfl⟩ := Int.eq_ofNat_of_zero_le d0
          have nl2 : l2 ≠ p := hW8.new hl2
          have sb := sa.trans (same_new (o := .lst [.str (Str.ofString "u"), .str (Str.ofString "v")]) hl2)
          have el2 := s9 _ _ nl2 (upd_same (a := l2) (o := .lst [.str (Str.ofString "u"), .str (Str.ofString "v")]))
          obtain ⟨pre, hpre, hmem⟩ : ∃ pre : Str, ([V.str (Str.ofString "u"), V.str (Str.ofString "v")] : List V)[dn]? = some (V.str pre) ∧ pre ++ sg (97 + ix) ∈ tw ∧ pre.length = 1 := by
            have : dn < 2 := by omega
            match dn, this with
            | 0, _ => exact ⟨Str.ofString "u", rfl, hum ix (by omega), rfl⟩
            | 1, _ => exact ⟨Str.ofString "v", rfl, hvm ix (by omega), rfl⟩
          have eq9 := s9 _ _ nq (sb _ _ eq7)
          have ew9 := s9 _ _ nw (sb _ _ ew7)
          have eg9 := s9 _ _ ngp (sb _ _ eg7)
          refine ⟨l2, _, _, V.str pre, rfl, rfl, SqL.of el2, atI_nat hpre, _, rfl, q, _, _, V.ref lw, rfl, rfl, SqT.of eq9, atI_nat (j := 1) rfl, .inl ⟨rfl, _, SqL.of ew9⟩, _, rfl, lw, _, .str y, ix, .str y, rfl, rfl, SqL.of ew9, rfl, flat_strs _, by rw [List.getElem?_map, hix]; rfl, by rw [eqV_str]; exact decide_eq_true rfl, fun m z hm' hz => ?_, abE, _, 97 + ix, rfl, rfl, zab, atI_nat (abE_at ix (by omega)), _, _, rfl, rfl, ?_, ?_⟩
          · rw [List.getElem?_map] at hz
            cases ez : ws[m]? with
            | none => rw [ez] at hz; cases hz
            | some w' =>
              rw [ez] at hz
              cases hz
              rw [eqV_str]
              exact decide_eq_false fun e => hfi m hm' (by rw [ez, e])
          · rw [hmem.2]
            show 1 + 1 ≤ sizeLine
            decide
          refine ⟨_, rfl, _, rfl, _, rfl, by show 2 ≤ sizeLine; decide, fun tk htk => ⟨gg, _, rfl, .inr ⟨kvs', kT t c, tk, keep1 eg9 htk, rfl, upd_same, ?_, rfl⟩, ?_⟩⟩
          · have a1 := cv.1
            rw [List.length_append, done_len, List.length_map] at a1
            have a2 : (tw.take i).length * x.length ≤ 10 * 3 := Nat.mul_le_mul lti hx3
            have a3 : (List.take j x.cps.toList).length ≤ 3 := by
              rw [List.length_take, Array.length_toList]
              exact Nat.le_trans (Nat.min_le_right ..) hx3
            rw [sizeLine_eq]
            omega
          · have ntk : gg ≠ tk := ne_of_none eg9 htk
            refine ⟨_, _, _, rfl, (hW9.same (same_new htk)).upd_ ngp, upd_same, ?_, fun b o n1 n2 e => ?_⟩
            · have et : (x.cps.toList.take (j + 1)).map (fun c => (t, c)) = (x.cps.toList.take j).map (fun c => (t, c)) ++ [(t, c)] := by
                rw [List.take_add_one, hc, List.map_append]
                rfl
              rw [et, ← List.append_assoc]
              exact cv.put hmem.1
            · rw [upd_ne n2]
              exact keep1 (s9 _ _ n1 (sb _ _ (st b o n1 n2 e))) htk
        · obtain ⟨v7, v8, kvs', rfl, hW7, eg7, cv, st⟩ := h
          have : x.cps.toList.take x.cps.size = x.cps.toList := by rw [← Array.length_toList, List.take_length]
          rw [this] at cv
          exact ⟨_, _, _, kvs', rfl, hW7, eg7, cv, st⟩
      · obtain ⟨v6, v7, v8, kvs', rfl, hW6, eg6, cv, st⟩ := h
        rw [List.take_length] at cv
        have eq6 := st _ _ nq (fg _ _ eq) eq5
        have ef6 := st _ _ nf (fg _ _ ef) ef5
        have eb6 := st _ _ nbp ngb.symm eb
        have elt6 := st _ _ nlp ntg elt5
        have sB : Sb p H H6 := fun b o n1 e => st b o n1 (fg _ _ e) (s5 _ _ e)
        refine ⟨_, rfl, q, _, _, V.str x, rfl, rfl, SqT.of eq6, atI_nat (j := 0) rfl, _, rfl, _, rfl, lt, rfl, ⟨_, SqL.of elt6⟩, fun D hD => ?_⟩
        refine lcG tw (fun t => if decide (bkL ws t ∈ fs) = true then some (V.str t) else none) (walk_listL (K := K) (a := lt) tw V.str) (by omega) hD (yat_same _) (fun H' s' => SqL.of (s' _ _ elt6)) (fun i t y H' H'' k1 hm sj hy k2 => ?_) (fun H7 s7 e7 => ?_)
        · obtain ⟨rfl, hy⟩ := hy
          have ey := map_get hm hy
          subst ey
          have htm := List.mem_of_getElem? hm
          obtain ⟨y0, ⟨hy0, eby⟩, ev0⟩ := kv t htm
          refine ⟨rfl, _, rfl, _, rfl, bk, .str y0, rfl, ?_, _, rfl, q, _, _, V.ref lf, rfl, rfl, SqT.of (sj _ _ eq6), atI_nat (j := 2) rfl, lf, _, rfl, .inl (SqL.of (sj _ _ ef6)), rfl, flat_strs _, _, rfl, ?_⟩
          · have := DGet.k (k := Sum.inr t) (sj _ _ eb6)
            rw [ev0] at this
            exact this
          · have k2 := k2 _ (Same.refl _)
            rw [eby] at k2
            show if inV (.str y0) (fs.map V.str) = true then _ else _
            rw [in_strs]
            refine ite2 (fun c => ?_) (fun c => ?_)
            · rw [if_pos c] at k2
              exact ⟨_, rfl, k2⟩
            · rw [if_neg c] at k2
              exact k2
        · rw [fm_ifB] at e7
          refine ⟨_, rfl, by show 4 ≤ sizeLine; decide, fun q' hq' => ?_⟩
          have eg7 := s7 _ _ eg6
          have elt7 := s7 _ _ elt6
          refine k q' tw (tw.filter fun t => decide (bkL ws t ∈ fs)) kvs' _ ⟨fine.sgs, htw, List.filter_sublist, fun t ht c hc => cv.2 (t, c) (List.mem_flatMap.mpr ⟨t, ht, List.mem_map.mpr ⟨c, hc, rfl⟩⟩)⟩ htl ((sB.trans (Sb.of s7)).trans (Sb.of (same_new hq'))) ((hW6.same s7).same (same_new hq')) ⟨lt, D, gg, upd_same, keep1 elt7 hq', keep1 e7 hq', keep1 eg7 hq'⟩
end
end My
namespace My
open PySem PySem.Spec PyProof.Rows L2 PySem.GX L2H LamX
/-- a rule's box of up to ten moods -/
def BxQ (H : Hp) (q : Addr) : Prop := ∃ x ws fs kvs, Fine x ws fs kvs ∧ BxAt H q x ws fs kvs ∧ ws.length ≤ 10
theorem BxQ.same {H H' : Hp} {q : Addr} (h : BxQ H q) (s : Same H H') : BxQ H' q := let ⟨x, ws, fs, kvs, a, b, c⟩ := h; ⟨x, ws, fs, kvs, a, b.same s, c⟩
theorem BxQ.sb {H H' : Hp} {q p : Addr} (h : BxQ H q) (w : Wl H p) (s : Sb p H H') : BxQ H' q := let ⟨x, ws, fs, kvs, a, b, c⟩ := h; ⟨x, ws, fs, kvs, a, b.sb w s, c⟩
def spWider : Sp := fun vs H Q _ => ∃ (p q : Addr) (x : Str) (ws fs : List Str) (kvs : List (List Key × V)), vs = [.ref p, .ref q] ∧ Wl H p ∧ BxAt H q x ws fs kvs ∧ Fine x ws fs kvs ∧ ws.length ≤ 5 ∧
  ∀ (q' : Addr) (fs' : List Str) (H' : Hp), Fine x ws fs' kvs → Sb p H H' → Wl H' p → BxAt H' q' x ws fs' kvs → Q (.ref q') H'
def spMate : Sp := fun vs H Q _ => ∃ (p q : Addr) (x : Str) (ws fs : List Str) (kvs : List (List Key × V)), vs = [.ref p, .ref q] ∧ Wl H p ∧ BxAt H q x ws fs kvs ∧ Fine x ws fs kvs ∧ ws.length ≤ 5 ∧
  ∀ (q' : Addr) (H' : Hp), BxQ H' q' → Sb p H H' → Wl H' p → Q (.ref q') H'
def spGood1 : Sp := fun vs H Q _ => ∃ (q : Addr) (p : Parts) (r : Str), vs = [.ref q, .str r] ∧ BxF H q p p.ms ∧ PartsOk p ∧ InS p r ∧ ∀ H', Same H H' → Q (.bl (decide (walkL p (firstL p) r.cps.toList ∈ p.gs))) H'
/-- letters for a second rule -/
def tLets : TE := fun σ H Q => ∃ (p q : Addr) (x : Str) (ws fs : List Str) (kvs : List (List Key × V)) (way : Int), σ[0]? = some (some (.ref p)) ∧ σ[1]? = some (some (.ref q)) ∧ σ[2]? = some (some (.int way)) ∧ Wl H p ∧ BxAt H q x ws fs kvs ∧ areSignsL [x] = true ∧
  ∀ (x' : Str) (H' : Hp), areSignsL [x'] = true → Sb p H H' → Wl H' p → Q (.str x') H'
section
variable {P : Program} {w : World} {K : PySem.W.Frag} {mg : Str → Option Value} {base : Heap}
abbrev nWider : List Str := ["_law_purse_here", "_law_box_here", "_law_more", "_law_here"]
theorem scWider : FnScope nWider ["_law_purse_here", "_law_box_here"] (defScope sWider) := ⟨rfl, rfl, rfl, by decide +kernel, rfl, by decide +kernel, by decide +kernel⟩
theorem ok_wider {f : Addr} {fd : FuncData} (F : Fun K "_law_wider" "_law_wider" sWider f fd) (hP : Hv P w K mg base 1 "_law_pick" ["_law_purse_here", "_law_size"] spPk) (hL : mg "len" = none) : FnOk P w K mg base CX0 2 f fd ["_law_purse_here", "_law_box_here"] spWider := by
  refine F.ok scWider (fun vs H Q E h => ?_) (fun cdv A outer s H vs Q E hr h => ?_)
  · obtain ⟨p, q, x, ws, fs, kvs, rfl, _⟩ := h
    rfl
  · obtain ⟨p, q, x, ws, fs, kvs, rfl, hW, ⟨lw, lf, g, eq, ew, ef, eg⟩, fine, w5, k⟩ := h
    refine ⟨_, pss_cons (ps_set (i := 2) scWider.nd rfl (Or.inr rfl) (pe_ix ix_list (pe_ix ix_tup (pv 1) pe_int (fun _ _ => rfl)) (pe_cl hP hr rfl pass0 (pa_cons (pv 0) (pa_cons (pe_callB call_len_seq (by rfl) hL PySem.boot_len (pa_cons (pe_ix ix_tup (pv 1) pe_int (fun _ _ => rfl)) pa_nil)) pa_nil))) (fun _ _ => rfl)))
      (pss_one (ps_ret (pe_tup (pa_cons (pe_ix ix_tup (pv 1) pe_int (fun _ _ => rfl)) (pa_cons (pe_ix ix_tup (pv 1) pe_int (fun _ _ => rfl)) (pa_cons (pe_lc (own := [("_law_here", 3)]) (g := gName 3) rfl scWider.nd (pi_list (pe_ix ix_tup (pv 1) pe_int (fun _ _ => rfl))) (blkOk_by (N := nWider) (sc := defScope sWider) (by decide +kernel)) (fun _ _ _ _ _ => pg_name (i := 3) scWider.nd rfl (Or.inl rfl))
          (fun _ _ _ _ _ => pts_one (PW.pt (pw_or (pt_cmpR (op_in_seqK (K := K) rfl) (pv 3) (pe_ix (ix_tupK (K := K) rfl) (pv 1) pe_int (fun _ _ => rfl)) (by rfl)) (pw_or1 (pt_cmpR op_eq (pv 3) (pv 2) (nomark _)))))) (fun _ _ _ _ _ => pv 3)) (pa_cons (pe_ix ix_tup (pv 1) pe_int (fun _ _ => rfl)) pa_nil))))))), ?_⟩
    have z1 : 1 ≤ ws.length := by
      have := fine.mds
      unfold areMoodsL at this
      simp only [Bool.and_eq_true, decide_eq_true_eq] at this
      exact this.1.1.1
    have nq : q ≠ p := hW.ne eq fun _ _ _ z => by cases z
    have nw : lw ≠ p := hW.ne ew (strs_ne3 _)
    have nf : lf ≠ p := hW.ne ef (strs_ne3 _)
    have ng : g ≠ p := hW.ne eg fun _ _ _ z => by cases z
    refine ⟨_, rfl, q, _, _, V.ref lw, rfl, rfl, SqT.of eq, atI_nat (j := 1) rfl, _, rfl, _, rfl, q, _, _, V.ref lw, rfl, rfl, SqT.of eq, atI_nat (j := 1) rfl, lw, _, rfl, .inl (SqL.of ew), p, _, rfl, hW, by rw [List.length_map]; omega, by rw [List.length_map]; omega, fun d H1 d0 d1 s1 hW1 => ?_⟩
    obtain ⟨j, rfl⟩ := Int.eq_ofNat_of_zero_le d0
    rw [List.length_map] at d1
    have hj : j < ws.length := by omega
    have hm : ws[j]? = some ws[j] := List.getElem?_eq_getElem hj
    generalize ws[j] = mo at hm
    have eq1 := s1 _ _ nq eq
    have ew1 := s1 _ _ nw ew
    have ef1 := s1 _ _ nf ef
    have eg1 := s1 _ _ ng eg
    refine ⟨lw, _, _, V.str mo, rfl, rfl, SqL.of ew1, atI_nat (by rw [List.getElem?_map, hm]; rfl), ?_⟩
    refine ⟨_, rfl, q, _, _, V.str x, rfl, rfl, SqT.of eq1, atI_nat (j := 0) rfl, _, rfl, q, _, _, V.ref lw, rfl, rfl, SqT.of eq1, atI_nat (j := 1) rfl, _, rfl, q, _, _, V.ref lw, rfl, rfl, SqT.of eq1, atI_nat (j := 1) rfl, lw, rfl, ⟨_, SqL.of ew1⟩, fun D hD => ?_⟩
    refine lcG ws (fun t => if (decide (t ∈ fs) || decide (t = mo)) = true then some (V.str t) else none) (walk_listL (K := K) (a := lw) ws V.str) (by omega) hD (yat_same _) (fun H' s' => SqL.of (s' _ _ ew1)) (fun i t y H' H'' k1 ht sj hy k2 => ?_) (fun H7 s7 e7 => ?_)
    · obtain ⟨rfl, hy⟩ := hy
      have ey := map_get ht hy
      subst ey
      have k2 := k2 _ (Same.refl _)
      refine ⟨rfl, _, rfl, _, rfl, q, _, _, V.ref lf, rfl, rfl, SqT.of (sj _ _ eq1), atI_nat (j := 2) rfl, lf, _, rfl, .inl (SqL.of (sj _ _ ef1)), rfl, flat_strs _, _, rfl, ?_⟩
      show if inV (.str t) (fs.map V.str) = true then _ else _
      rw [in_strs]
      cases h1 : decide (t ∈ fs) with
      | true =>
        rw [h1, Bool.true_or, if_pos rfl] at k2
        exact iteT ⟨_, rfl, k2⟩
      | false =>
        rw [h1, Bool.false_or] at k2
        refine iteF ⟨_, rfl, _, rfl, rfl, _, rfl, ?_⟩
        have ed : decide (V.str t = V.str mo) = decide (t = mo) := by
          rw [Bool.eq_iff_iff, decide_eq_true_eq, decide_eq_true_eq]
          exact ⟨fun h => by injection h, fun h => by rw [h]⟩
        rw [ed]
        refine ite2 (fun c => ?_) (fun c => ?_)
        · rw [if_pos c] at k2
          exact ⟨_, rfl, k2⟩
        · rw [if_neg c] at k2
          exact k2
    · rw [fm_ifB] at e7
      refine ⟨_, rfl, q, _, _, V.ref g, rfl, rfl, SqT.of (s7 _ _ eq1), atI_nat (j := 3) rfl, by show 4 ≤ sizeLine; decide, fun q' hq' => ?_⟩
      exact k q' (ws.filter fun t => decide (t ∈ fs) || decide (t = mo)) _ ⟨fine.sgs, fine.mds, List.filter_sublist, fine.gl⟩ ((s1.trans (Sb.of s7)).trans (Sb.of (same_new hq'))) ((hW1.same s7).same (same_new hq')) ⟨lw, D, g, upd_same, keep1 (s7 _ _ ew1) hq', keep1 e7 hq', keep1 (s7 _ _ eg1) hq'⟩
end
end My
set_option pp.maxSteps 1500
namespace My
open PySem PySem.Spec PyProof.Rows L2 PySem.GX L2H NdefX LamX
/-! the law's own look at papers -/
theorem op_notInPK4 {X : Cx} {K : PySem.W.Frag} (h : X.K = K) (hu : X.A.units + 2 < cLine) : OpR X (compareOp .NotIn) (rInP K true) := by subst h; exact op_notInP hu
def spLIsA : Sp := fun vs H Q _ => ∃ (q1 q2 : Addr) (p1 p2 : Parts) (r : Str), vs = [.ref q1, .ref q2, .str r] ∧ BxF H q1 p1 p1.ms ∧ BxF H q2 p2 p2.ms ∧ PartsOk p1 ∧ PartsOk p2 ∧ p1.sg = p2.sg ∧ InS p1 r ∧ r.length ≤ 100000 ∧ (goodL p1 r != goodL p2 r) = true ∧ ∀ H', Same H H' → Q (.bl true) H'
def spLIsW : Sp := fun vs H Q _ => ∃ (q1 q2 c : Addr) (p1 p2 : Parts) (as : List Addr) (ps : List (Str × Str)), vs = [.ref q1, .ref q2, .ref c] ∧ BxF H q1 p1 p1.ms ∧ BxF H q2 p2 p2.ms ∧ PartsOk p1 ∧ PartsOk p2 ∧ H c = some (.tup (as.map V.ref)) ∧ Pr2 H as ps ∧ ps.length ≤ 1000 ∧ Holds p1 p2 (some (ps.map twP)) ∧ ∀ H', Same H H' → Q (.bl true) H'
section
variable {P : Program} {w : World} {K : PySem.W.Frag} {mg : Str → Option Value} {base : Heap}
abbrev nFine4 : List Str := ["_law_box_here", "_law_line"]
theorem scFine4 : FnScope nFine4 nFine4 (defScope sFine) := ⟨rfl, rfl, rfl, by decide +kernel, rfl, by decide +kernel, by decide +kernel⟩
theorem ok_fine4 {f : Addr} {fd : FuncData} (F : Fun K "_law_is_fine" "_law_is_fine" sFine f fd) (hEn : Hv P w K mg base 1 "_law_end" ["_law_box_here", "_law_begin", "_law_line"] spEndB) : FnOk P w K mg base CX0 2 f fd ["_law_box_here", "_law_line"] spGood1 := by
  refine F.ok scFine4 (fun vs H Q E h => ?_) (fun cdv A outer s H vs Q E hr h => ?_)
  · obtain ⟨q, p, r, rfl, _⟩ := h
    rfl
  · obtain ⟨q, p, r, rfl, hB, ok, ir, k⟩ := h
    refine ⟨_, pss_one (ps_ret (pe_cmpR op_in_seq (pe_cl hEn hr rfl pass0 (pa_cons (pv 0) (pa_cons (pe_ix ix_list (pe_ix ix_tup (pv 0) pe_int (fun _ _ => rfl)) pe_int (fun _ _ => rfl)) (pa_cons (pv 1) pa_nil)))) (pe_ix ix_tup (pv 0) pe_int (fun _ _ => rfl)) (by rfl))), ?_⟩
    obtain ⟨ms, em⟩ := ok.first
    have ef : (p.ms.map V.str)[0]? = some (.str (firstL p)) := by rw [em]; rfl
    have mf : firstL p ∈ p.ms := by rw [em]; simp
    obtain ⟨lw, lg, g, kvs, eq, ew, eg, _, _⟩ := id hB
    refine ⟨_, rfl, _, rfl, q, _, _, V.ref lw, rfl, rfl, SqT.of eq, atI_nat (j := 1) rfl, lw, _, _, V.str (firstL p), rfl, rfl, SqL.of ew, atI_nat (j := 0) ef, _, rfl, q, p, p.ms, firstL p, r, rfl, hB, ok, mf, ir, fun H1 s1 => ?_⟩
    refine ⟨_, rfl, q, _, _, V.ref lg, rfl, rfl, SqT.of (s1 _ _ eq), atI_nat (j := 2) rfl, lg, _, rfl, .inl (SqL.of (s1 _ _ eg)), rfl, flat_strs _, ?_⟩
    show Q (.bl (inV (.str _) (p.gs.map V.str))) H1
    rw [in_strs]
    exact k _ s1
abbrev nLIsA : List Str := ["_law_box_here", "_law_mate_here", "_law_slip", "_law_letter"]
theorem scLIsA : FnScope nLIsA ["_law_box_here", "_law_mate_here", "_law_slip"] (defScope sLIsA) := ⟨rfl, rfl, rfl, by decide +kernel, rfl, by decide +kernel, by decide +kernel⟩
theorem ok_lIsA {f : Addr} {fd : FuncData} (F : Fun K "_law_is_apart" "_law_is_apart" sLIsA f fd) (hFi : Hv P w K mg base 2 "_law_is_fine" ["_law_box_here", "_law_line"] spGood1) (hIs : mg "isinstance" = none) (hSt : mg "str" = none) : FnOk P w K mg base CX0 3 f fd ["_law_box_here", "_law_mate_here", "_law_slip"] spLIsA := by
  refine F.ok scLIsA (fun vs H Q E h => ?_) (fun cdv A outer s H vs Q E hr h => ?_)
  · obtain ⟨q1, q2, p1, p2, r, rfl, _⟩ := h
    rfl
  · obtain ⟨q1, q2, p1, p2, r, rfl, hB1, hB2, ok1, ok2, es, i1, lr, hne, k⟩ := h
    have hu := hu_of hr
    have hu0 : (A.deeper (envOfC "_law_is_apart" (defScope sLIsA) s.heap.objs.size f cdv)).units < cLine := by omega
    refine ⟨_, pss_cons (ps_if (PW.pt (pw_or (pt_not (pt_val (pe_callB call_isi (by rfl) hIs (by decide +kernel) (pa_cons (pv 2) (pa_cons (pe_bltn (v := .ty "str") (by rfl) hSt (by decide +kernel) rfl) pa_nil)))))
          (pw_or1 (pt_cmpR (op_neNil hu0) (pe_lc (own := [("_law_letter", 3)]) (g := gName 3) rfl scLIsA.nd (pi_str (pv 2)) (blkOk_by (N := nLIsA) (sc := defScope sLIsA) (by decide +kernel)) (fun _ _ _ _ _ => pg_name (i := 3) scLIsA.nd rfl (Or.inl rfl))
            (fun _ _ _ _ _ => pts_one (pt_cmpR op_notIn_sign (pv 3) (pe_ix (ix_tupK (K := K) rfl) (pv 0) pe_int (fun _ _ => rfl)) (by rfl))) (fun _ _ _ _ _ => pv 3)) (pe_lst pa_nil) (nomark _))))) (pss_one (ps_ret pe_bl)) pss_nil)
      (pss_one (ps_ret (pe_cmpR op_ne (pe_cl hFi hr rfl pass0 (pa_cons (pv 0) (pa_cons (pv 2) pa_nil))) (pe_cl hFi hr rfl pass0 (pa_cons (pv 1) (pa_cons (pv 2) pa_nil))) (nomark _)))), ?_⟩
    obtain ⟨lw1, lf1, g1, kvs1, eq1, _⟩ := id hB1
    refine ⟨_, rfl, .str r, .ty "str", _, .type "str", true, rfl, .ty _, .base (.str r), kit_ty (by decide +kernel), _, rfl, iteF ?_⟩
    refine ⟨_, rfl, r, rfl, fun D hD => ?_⟩
    refine lcG (r.cps.toList) (fun c => if (!decide (c ∈ p1.sg.cps.toList)) = true then some (V.str (sg c)) else none) (by rw [Array.length_toList]; exact walk_str) (by rw [Array.length_toList]; exact Nat.le_trans lr (by decide)) hD (fun i H x H' h => by rw [h.1]; exact Same.refl _) (fun _ _ => trivial) (fun j c z H3 H4 kk hc s' hy k2 => ?_) (fun H5 s5 e5 => ?_)
    · obtain ⟨rfl, c', hc', rfl⟩ := hy
      rw [← Array.getElem?_toList, hc] at hc'
      cases hc'
      refine ⟨rfl, _, rfl, _, rfl, q1, _, _, V.str p1.sg, rfl, rfl, SqT.of (s' _ _ eq1), atI_nat (j := 0) rfl, c, _, rfl, rfl, _, rfl, ?_⟩
      have k2 := k2 _ (Same.refl _)
      refine ite2 (fun b => ?_) (fun b => ?_)
      · rw [if_pos b] at k2
        exact ⟨_, rfl, k2⟩
      · rw [if_neg b] at k2
        exact k2
    · rw [fm_sg] at e5
      refine ⟨by show 0 ≤ sizeLine; decide, fun l0 h0 => ⟨D, l0, _, rfl, rfl, SqL.of (keep1 e5 h0), SqL.of upd_same, _, rfl, ?_⟩⟩
      have eE : ∀ l : List Nat, ((l.map sg).map V.str).isEmpty = l.isEmpty := fun l => by cases l <;> rfl
      show if (!(((_ : List Nat).map sg).map V.str).isEmpty) = true then _ else _
      rw [eE, row_glyphs]
      have s6 := s5.trans (same_new (o := .lst []) h0)
      have hrow : rowOkB p1.sg (some r) = true := List.all_eq_true.mpr fun c hc => decide_eq_true (i1 c hc)
      rw [hrow]
      refine iteF ?_
      have i2 : InS p2 r := fun c hc => by rw [← es]; exact i1 c hc
      refine ⟨_, rfl, _, rfl, q1, p1, r, rfl, hB1.same s6, ok1, i1, fun H7 s7 => ⟨_, rfl, _, rfl, q2, p2, r, rfl, (hB2.same s6).same s7, ok2, i2, fun H8 s8 => ⟨rfl, ?_⟩⟩⟩
      have kf := k _ ((s6.trans s7).trans s8)
      have e : (!decide (V.bl (goodL p1 r) = V.bl (goodL p2 r))) = true := by
        revert hne
        cases goodL p1 r <;> cases goodL p2 r <;> decide
      show Q (.bl (!decide (V.bl (goodL p1 r) = V.bl (goodL p2 r)))) H8
      rw [e]
      exact kf
abbrev nLIsW : List Str := ["_law_box_here", "_law_mate_here", "_law_slip", "_law_k", "_law_pair", "_law_goals", "_law_letter", "_law_aim_here"]
theorem scLIsW : FnScope nLIsW ["_law_box_here", "_law_mate_here", "_law_slip"] (defScope sLIsW) := ⟨rfl, rfl, rfl, by decide +kernel, rfl, by decide +kernel, by decide +kernel⟩
theorem zip_all4 {ps : List (Str × Str)} : ∀ {bs : List Addr} {gl : List (Str × Str)}, bs.length = gl.length → ((bs.zip gl).filterMap fun z => if decide (z.2 ∈ ps) = true then none else some (V.ref z.1)).isEmpty = decide (∀ g ∈ gl, g ∈ ps)
  | [], [], _ => by simp
  | b :: bs, g :: gl, h => by
    have ih := zip_all4 (ps := ps) (bs := bs) (gl := gl) (by simpa using h)
    rw [List.zip_cons_cons, List.filterMap_cons]
    by_cases m : g ∈ ps
    · simp only [m, decide_true, if_true]
      rw [ih, Bool.eq_iff_iff, decide_eq_true_eq, decide_eq_true_eq]
      exact ⟨fun h x hx => (List.mem_cons.mp hx).elim (fun e => e ▸ m) (h x), fun h x hx => h x (List.mem_cons_of_mem _ hx)⟩
    · simp [m]
  | [], _ :: _, h => by cases h
  | _ :: _, [], h => by cases h
theorem ok_lIsW {f : Addr} {fd : FuncData} (F : Fun K "_law_is_within" "_law_is_within" sLIsW f fd) (hIs : mg "isinstance" = none) (hTu : mg "tuple" = none) (hL : mg "len" = none) (hR : mg "range" = none) : FnOk P w K mg base CX0 1 f fd ["_law_box_here", "_law_mate_here", "_law_slip"] spLIsW := by
  refine F.ok scLIsW (fun vs H Q E h => ?_) (fun cdv A outer s H vs Q E hr h => ?_)
  · obtain ⟨q1, q2, c, p1, p2, as, ps, rfl, _⟩ := h
    rfl
  · obtain ⟨q1, q2, c, p1, p2, as, ps, rfl, hB1, hB2, ok1, ok2, ec, pr, e1000, hHo, kk⟩ := h
    obtain ⟨hsg, ps', eps, gp, lone, clo, fst⟩ := hHo
    obtain rfl : ps = ps' := map_tw (Option.some.inj eps)
    clear eps
    have hu := hu_of hr
    have hu0 : (A.deeper (envOfC "_law_is_within" (defScope sLIsW) s.heap.objs.size f cdv)).units < cLine := by omega
    have hu2 : (A.deeper (envOfC "_law_is_within" (defScope sLIsW) s.heap.objs.size f cdv)).units + 2 < cLine := by have := hr.units; omega
    refine ⟨_, pss_cons (ps_if (PW.pt (pw_or (pt_not (pt_val (pe_callB call_isi (by rfl) hIs (by decide +kernel) (pa_cons (pv 2) (pa_cons (pe_bltn (v := .ty "tuple") (by rfl) hTu (by decide +kernel) rfl) pa_nil))))) (pw_or1 (pt_cmpR (op_notInP hu2) (pe_tup (pa_cons (pe_ix ix_list (pe_ix ix_tup (pv 0) pe_int (fun _ _ => rfl)) pe_int (fun _ _ => rfl)) (pa_cons (pe_ix ix_list (pe_ix ix_tup (pv 1) pe_int (fun _ _ => rfl)) pe_int (fun _ _ => rfl)) pa_nil))) (pv 2) (by rfl))))) (pss_one (ps_ret pe_bl)) pss_nil)
      (pss_cons (ps_for PassesOwn.never rfl (pi_range1 rfl hR (pa_cons (pe_callB call_len_seq (by rfl) hL PySem.boot_len (pa_cons (pv 2) pa_nil)) pa_nil)) (pg_name (i := 3) scLIsW.nd rfl (Or.inl rfl))
        (pss_cons (ps_set (i := 4) scLIsW.nd rfl (Or.inr rfl) (pe_ix ix_tup (pv 2) (pv 3) (fun _ _ => rfl)))
        (pss_cons (ps_if (PW.pt (pw_or (pt_not (pt_val (pe_callB call_isi (by rfl) hIs (by decide +kernel) (pa_cons (pv 4) (pa_cons (pe_bltn (v := .ty "tuple") (by rfl) hTu (by decide +kernel) rfl) pa_nil))))) (pw_or (pt_cmpR op_ne (pe_callB call_len_seq (by rfl) hL PySem.boot_len (pa_cons (pv 4) pa_nil)) pe_int (nomark _)) (pw_or1 (pt_cmpR (op_inP hu2) (pv 4) (pe_slice sl_tup (pv 2) po_none (po_some (pv 3))) (by rfl)))))) (pss_one (ps_ret pe_bl)) pss_nil)
        (pss_one (ps_if (PW.pt (pw_or (pt_cmpR op_notIn_seq (pe_ix ix_tup (pv 4) pe_int (fun _ _ => rfl)) (pe_ix ix_tup (pv 0) pe_int (fun _ _ => rfl)) (by rfl)) (pw_or (pt_cmpR op_notIn_seq (pe_ix ix_tup (pv 4) pe_int (fun _ _ => rfl)) (pe_ix ix_tup (pv 1) pe_int (fun _ _ => rfl)) (by rfl)) (pw_or1 (PW.pt (pw_and (pt_cmpR op_in_seq (pe_ix ix_tup (pv 4) pe_int (fun _ _ => rfl)) (pe_ix ix_tup (pv 0) pe_int (fun _ _ => rfl)) (by rfl)) (pw_and1 (pt_cmpR op_notIn_seq (pe_ix ix_tup (pv 4) pe_int (fun _ _ => rfl)) (pe_ix ix_tup (pv 1) pe_int (fun _ _ => rfl)) (by rfl)))))))))
          (pss_one (ps_ret pe_bl)) pss_nil)))))
      (pss_cons (ps_for PassesOwn.never rfl (pi_tup (pv 2)) (pg_name (i := 4) scLIsW.nd rfl (Or.inr rfl))
        (pss_cons (ps_setLc (i := 5) (own := [("_law_letter", 6)]) (g := gName 6) (tt := tYes) (by rfl) scLIsW.nd rfl rfl (sw_true rfl rfl rfl (by decide +kernel)) (pi_str (pe_ix ix_tup (pv 0) pe_int (fun _ _ => rfl))) (blkOk_by (N := nLIsW) (sc := defScope sLIsW) (by decide +kernel)) (fun _ _ _ _ _ => pg_name (i := 6) scLIsW.nd rfl (Or.inl rfl)) (fun _ _ _ _ _ => pts_nil)
            (fun _ _ _ _ _ => pe_tup (pa_cons (pe_dget hu (pe_ix (ix_tupK (K := K) rfl) (pv 0) pe_int (fun _ _ => rfl)) (pe_tup (pa_cons (pe_ix (ix_tupK (K := K) rfl) (pv 4) pe_int (fun _ _ => rfl)) (pa_cons (pv 6) pa_nil))) (fun _ _ => rfl)) (pa_cons (pe_dget hu (pe_ix (ix_tupK (K := K) rfl) (pv 1) pe_int (fun _ _ => rfl)) (pe_tup (pa_cons (pe_ix (ix_tupK (K := K) rfl) (pv 4) pe_int (fun _ _ => rfl)) (pa_cons (pv 6) pa_nil))) (fun _ _ => rfl)) pa_nil))))
        (pss_one (ps_if (pt_cmpR (op_neNil hu0) (pe_lc (own := [("_law_aim_here", 7)]) (g := gName 7) rfl scLIsW.nd (pi_list (pv 5)) (blkOk_by (N := nLIsW) (sc := defScope sLIsW) (by decide +kernel)) (fun _ _ _ _ _ => pg_name (i := 7) scLIsW.nd rfl (Or.inl rfl)) (fun _ _ _ _ _ => pts_one (pt_cmpR (op_notInPK4 (K := K) rfl hu2) (pv 7) (pv 2) (by rfl))) (fun _ _ _ _ _ => pv 7)) (pe_lst pa_nil) (nomark _)) (pss_one (ps_ret pe_bl)) pss_nil))))
      (pss_one (ps_ret pe_bl)))), ?_⟩
    obtain ⟨lw1, lf1, g1, kvs1, eq1, ew1, ef1, eg1, cv1⟩ := id hB1
    obtain ⟨lw2, lf2, g2, kvs2, eq2, ew2, ef2, eg2, cv2⟩ := id hB2
    obtain ⟨ms1, em1⟩ := ok1.first
    obtain ⟨ms2, em2⟩ := ok2.first
    have f1' : (p1.ms.map V.str)[0]? = some (.str (firstL p1)) := by rw [em1]; rfl
    have f2' : (p2.ms.map V.str)[0]? = some (.str (firstL p2)) := by rw [em2]; rfl
    have eif : ∀ b : Bool, (if false = true then !b else b) = b := fun _ => rfl
    have eit : ∀ b : Bool, (if true = true then !b else b) = !b := fun _ => rfl
    have hlp := pr.len
    refine ⟨_, rfl, .ref c, .ty "tuple", _, .type "tuple", true, rfl, .ty _, .base (.tup ec), kit_ty (by decide +kernel), _, rfl, iteF ?_⟩
    refine ⟨_, rfl, q1, _, _, V.ref lw1, rfl, rfl, SqT.of eq1, atI_nat (j := 1) rfl, lw1, _, _, V.str (firstL p1), rfl, rfl, SqL.of ew1, atI_nat (j := 0) f1', _, rfl, q2, _, _, V.ref lw2, rfl, rfl, SqT.of eq2, atI_nat (j := 1) rfl, lw2, _, _, V.str (firstL p2), rfl, rfl, SqL.of ew2, atI_nat (j := 0) f2', (by show 2 ≤ sizeLine; decide), fun t0 ht0 => ?_⟩
    have s0 := same_new (o := .tup [.str (firstL p1), .str (firstL p2)]) ht0
    refine ⟨_, rfl, t0, c, .str (firstL p1), .str (firstL p2), .str (firstL p1), .str (firstL p2), as, ps, rfl, rfl, SqT.of upd_same, .fl (.str _), .fl (.str _), .inr (SqT.of (s0 _ _ ec)), pr.same s0, _, rfl, ?_⟩
    rw [any_pair, Bool.true_xor, decide_eq_true fst]
    refine iteF ?_
    generalize upd H t0 (.tup [.str (firstL p1), .str (firstL p2)]) = H0 at s0 ⊢
    refine ⟨_, rfl, c, _, rfl, .inr (SqT.of (s0 _ _ ec)), ((as.map V.ref).length : Int), rfl, by omega, by rw [List.length_map]; omega, ?_⟩
    refine for_it walk_range (fun i σ H' => ∃ (v3 v4 : Option V), σ = [some (.ref q1), some (.ref q2), some (.ref c), v3, v4, none, none, none] ∧ Same H H')
      ⟨none, none, rfl, s0⟩ (fun _ _ _ _ _ => trivial) (fun i y σ H' H'' hi h hy => ?_) (fun σ H5 h => ?_)
    · obtain ⟨rfl, rfl⟩ := hy
      obtain ⟨v3, v4, rfl, st⟩ := h
      have hli : i < as.length := by
        rw [List.length_map] at hi
        omega
      have hai : as[i]? = some as[i] := List.getElem?_eq_getElem hli
      generalize as[i] = a at hai
      have hvi : (as.map V.ref)[i]? = some (.ref a) := by rw [List.getElem?_map, hai]; rfl
      obtain ⟨ab, hab, ea⟩ := (pr.same st).get hai
      have hin := gp.inn ab (List.mem_of_getElem? hab)
      have ec' := st _ _ ec
      have e0 : (0 : Int) + (i : Int) = (i : Int) := Int.zero_add _
      refine ⟨_, rfl, _, rfl, c, _, _, .ref a, rfl, rfl, SqT.of ec', by rw [e0]; exact atI_nat hvi, ?_⟩
      refine ⟨_, rfl, .ref a, .ty "tuple", _, .type "tuple", true, rfl, .ty _, .base (.tup ea), kit_ty (by decide +kernel), _, rfl, iteF ?_⟩
      refine ⟨_, rfl, a, _, rfl, .inr (SqT.of ea), rfl, _, rfl, iteF ?_⟩
      refine ⟨_, rfl, _, rfl, _, rfl, _, rfl, c, _, rfl, SqT.of ec', ?_, fun p hp => ?_⟩
      · rw [e0, HT.sIx_nat]
        rintro ⟨_, z⟩
        rw [List.length_map] at z
        omega
      have ecut : cutV (as.map V.ref) none (some (0 + (i : Int))) = (as.take i).map V.ref := by
        unfold cutV
        rw [e0, HT.sIx_nat, HT.sIx_none, List.drop_zero, Nat.sub_zero, List.map_take]
        congr 1
        rw [List.length_map]
        omega
      rw [ecut]
      have s2 := same_new (o := .tup ((as.take i).map V.ref)) hp
      have ep := upd_same (a := p) (H := H'') (o := .tup ((as.take i).map V.ref))
      generalize upd H'' p (.tup ((as.take i).map V.ref)) = H3 at s2 ep ⊢
      have sC := st.trans s2
      have et := s2 _ _ ea
      have hnt : ab ∉ ps.take i := fun m => by
        obtain ⟨j, hj⟩ := List.mem_iff_getElem?.mp m
        have hji : j < i := by
          have := (List.getElem?_eq_some_iff.mp hj).1
          rw [List.length_take] at this
          omega
        rw [List.getElem?_take_of_lt hji] at hj
        obtain ⟨l1, x1⟩ := List.getElem?_eq_some_iff.mp hj
        obtain ⟨l2, x2⟩ := List.getElem?_eq_some_iff.mp hab
        have := (List.nodup_iff_pairwise_ne.mp gp.nd)
        exact List.pairwise_iff_getElem.mp this j i l1 l2 hji (x1.trans x2.symm)
      refine ⟨a, p, .str ab.1, .str ab.2, .str ab.1, .str ab.2, as.take i, ps.take i, rfl, rfl, SqT.of et, .fl (.str _), .fl (.str _), .inr (SqT.of ep), (pr.same sC).take i, _, rfl, ?_⟩
      rw [any_pair, Bool.false_xor, show decide ((ab.1, ab.2) ∈ ps.take i) = false from decide_eq_false hnt]
      refine iteF ?_
      have w1 := sC _ _ ew1
      have w2 := sC _ _ ew2
      have x1 := sC _ _ ef1
      have x2 := sC _ _ ef2
      have b1 := sC _ _ eq1
      have b2 := sC _ _ eq2
      refine ⟨_, rfl, a, _, _, V.str ab.1, rfl, rfl, SqT.of et, atI_nat (j := 0) rfl, _, rfl, q1, _, _, V.ref lw1, rfl, rfl, SqT.of b1, atI_nat (j := 1) rfl, lw1, _, rfl, .inl (SqL.of w1), rfl, flat_strs _, _, rfl, ?_⟩
      rw [eit, in_strs, decide_eq_true hin.1]
      refine iteF ?_
      refine ⟨_, rfl, a, _, _, V.str ab.2, rfl, rfl, SqT.of et, atI_nat (j := 1) rfl, _, rfl, q2, _, _, V.ref lw2, rfl, rfl, SqT.of b2, atI_nat (j := 1) rfl, lw2, _, rfl, .inl (SqL.of w2), rfl, flat_strs _, _, rfl, ?_⟩
      rw [eit, in_strs, decide_eq_true hin.2]
      refine iteF ?_
      refine ⟨_, rfl, a, _, _, V.str ab.1, rfl, rfl, SqT.of et, atI_nat (j := 0) rfl, _, rfl, q1, _, _, V.ref lf1, rfl, rfl, SqT.of b1, atI_nat (j := 2) rfl, lf1, _, rfl, .inl (SqL.of x1), rfl, flat_strs _, _, rfl, ?_⟩
      rw [eif, in_strs]
      by_cases ga : ab.1 ∈ p1.gs
      rotate_left
      · rw [decide_eq_false ga]
        exact iteF ⟨_, _, rfl, sC⟩
      rw [decide_eq_true ga]
      refine iteT ?_
      refine ⟨_, rfl, a, _, _, V.str ab.2, rfl, rfl, SqT.of et, atI_nat (j := 1) rfl, _, rfl, q2, _, _, V.ref lf2, rfl, rfl, SqT.of b2, atI_nat (j := 2) rfl, lf2, _, rfl, .inl (SqL.of x2), rfl, flat_strs _, _, rfl, ?_⟩
      rw [eit, in_strs, decide_eq_true (lone ab (List.mem_of_getElem? hab) ga)]
      exact iteF ⟨_, _, rfl, sC⟩
    · obtain ⟨v3, v4, rfl, st⟩ := h
      have hcs : p1.sg.cps.toList.length = p1.sg.cps.size := Array.length_toList
      have hx3 : p1.sg.length ≤ 3 := by
        have := ok1.sgs
        rw [areS1] at this
        simp only [Bool.and_eq_true, decide_eq_true_eq] at this
        exact this.1.1.2
      refine ⟨_, rfl, c, rfl, ⟨_, SqT.of (st _ _ ec)⟩, ?_⟩
      refine for_it (walk_tup (K := K) (a := c) (xs := as.map V.ref)) (fun i σ H' => ∃ v4 v5, σ = [some (.ref q1), some (.ref q2), some (.ref c), v3, v4, v5, none, none] ∧ Same H H')
        ⟨v4, none, rfl, st⟩ (fun i σ H' _ h => ?_) (fun i y σ H' H'' hi h hy => ?_) (fun σ H6 h => ?_)
      · obtain ⟨_, _, _, st⟩ := h
        exact SqT.of (st _ _ ec)
      · obtain ⟨rfl, hy⟩ := hy
        obtain ⟨v4, v5, rfl, st2⟩ := h
        have hi' : i < as.length := by rw [List.length_map] at hi; exact hi
        have ha : as[i]? = some as[i] := List.getElem?_eq_getElem hi'
        obtain rfl := map_get ha hy
        generalize as[i] = a at ha
        obtain ⟨ab, hab, ea⟩ := pr.get ha
        have ea := st2 _ _ ea
        have hin := gp.inn ab (List.mem_of_getElem? hab)
        have b1 := st2 _ _ eq1
        have b2 := st2 _ _ eq2
        have c1 := st2 _ _ eg1
        have c2 := st2 _ _ eg2
        refine ⟨_, rfl, q1, _, _, V.str p1.sg, rfl, rfl, SqT.of b1, atI_nat (j := 0) rfl, p1.sg, rfl, fun D hD => ?_⟩
        refine lcR walk_str (fun i ys H' => ∃ bs : List Addr, ys = bs.map V.ref ∧ Pr2 H' bs ((p1.sg.cps.toList.take i).map fun c => (ledL p1 ab.1 c, ledL p2 ab.2 c))) (fun i ys H H' s ⟨bs, e, h⟩ => ⟨bs, e, h.same s⟩) ⟨[], rfl, trivial⟩ (by have : p1.sg.cps.size ≤ 3 := hx3; omega) hD (fun i H x H' h => by rw [h.1]; exact Same.refl _) (fun _ _ => trivial) (fun j x ys H4 H5 k hj sj eD hI hy k1 _ => ?_) (fun ys H7 hl s7 e7 hI => ?_)
        · obtain ⟨rfl, c', hc, rfl⟩ := hy
          obtain ⟨bs, rfl, prb⟩ := hI
          rw [← Array.getElem?_toList] at hc
          have hc1 : c' ∈ p1.sg.cps.toList := List.mem_of_getElem? hc
          have hc2 : c' ∈ p2.sg.cps.toList := by rw [← hsg]; exact hc1
          have dg1 := cv1 ab.1 hin.1 c' hc1
          have dg2 := cv2 ab.2 hin.2 c' hc2
          refine ⟨rfl, ?_⟩
          refine ⟨_, rfl, q1, _, _, V.ref g1, rfl, rfl, SqT.of (sj _ _ b1), atI_nat (j := 3) rfl, _, rfl, a, _, _, V.str ab.1, rfl, rfl, SqT.of (sj _ _ ea), atI_nat (j := 0) rfl, _, rfl, (by show 2 ≤ sizeLine; decide), fun ta hta => ⟨g1, V.str (ledL p1 ab.1 c'), rfl, ?_, ?_⟩⟩
          · have := DGet.t (k := kT ab.1 c') (keep1 (sj _ _ c1) hta) (upd_same (o := .tup ((kT ab.1 c').map kV)))
            rw [dg1] at this
            exact this
          have sa : Same H5 (upd H5 ta (.tup ((kT ab.1 c').map kV))) := same_new hta
          show ∃ _, _
          generalize eHn : upd H5 ta (.tup ((kT ab.1 c').map kV)) = Hn at sa
          have eHn' : upd H5 ta (.tup [.str ab.1, .str (sg c')]) = Hn := eHn
          rw [eHn']
          clear eHn eHn' hta
          have sb := sj.trans sa
          refine ⟨_, rfl, q2, _, _, V.ref g2, rfl, rfl, SqT.of (sb _ _ b2), atI_nat (j := 3) rfl, _, rfl, a, _, _, V.str ab.2, rfl, rfl, SqT.of (sb _ _ ea), atI_nat (j := 1) rfl, _, rfl, (by show 2 ≤ sizeLine; decide), fun tb htb => ⟨g2, V.str (ledL p2 ab.2 c'), rfl, ?_, (by show 2 ≤ sizeLine; decide), fun tq htq => ?_⟩⟩
          · have := DGet.t (k := kT ab.2 c') (keep1 (sb _ _ c2) htb) (upd_same (o := .tup ((kT ab.2 c').map kV)))
            rw [dg2] at this
            exact this
          have etq := upd_same (a := tq) (H := upd Hn tb (.tup [.str ab.2, .str (sg c')])) (o := .tup [.str (ledL p1 ab.1 c'), .str (ledL p2 ab.2 c')])
          have s8 := (sa.trans (same_new htb)).trans (same_new (o := .tup [.str (ledL p1 ab.1 c'), .str (ledL p2 ab.2 c')]) htq)
          have ntq : tq ≠ D := ne_of etq (s8 _ _ eD) (by intro z; cases z)
          refine k1 (.ref tq) _ s8 ⟨bs ++ [tq], by rw [List.map_append]; rfl, ?_⟩
          rw [List.take_add_one, hc, List.map_append]
          exact (prb.same (same_del s8)).app ⟨by rw [del_ne ntq]; exact etq, trivial⟩
        · obtain ⟨bs, rfl, prb⟩ := hI
          have prb := prb.same (del_same_of H7 D)
          rw [← hcs, List.take_length] at prb
          have hbl := prb.len
          have sC := st2.trans s7
          refine ⟨_, rfl, D, rfl, ⟨_, SqL.of e7⟩, fun D2 hD2 => ?_⟩
          have hzl : (bs.zip (p1.sg.cps.toList.map fun c => (ledL p1 ab.1 c, ledL p2 ab.2 c))).length = bs.length := by rw [List.length_zip, ← hbl, Nat.min_self]
          have hb3 : bs.length ≤ 3 := by rw [hbl, List.length_map, hcs]; exact hx3
          refine lcG (bs.zip (p1.sg.cps.toList.map fun c => (ledL p1 ab.1 c, ledL p2 ab.2 c))) (fun z => if decide (z.2 ∈ ps) = true then none else some (V.ref z.1)) (by rw [hzl]; exact walk_listL (K := K) (a := D) bs V.ref) (by rw [hzl]; omega) hD2 (yat_same _) (fun H' s' => SqL.of (s' _ _ e7)) (fun j z y H4 H5 k hz sj hy k1 => ?_) (fun H8 s8 e8 => ?_)
          · obtain ⟨rfl, hy⟩ := hy
            obtain ⟨hz1, hz2⟩ := List.getElem?_zip_eq_some.mp hz
            obtain rfl := map_get hz1 hy
            obtain ⟨g, hg, eb⟩ := prb.get hz1
            rw [hz2] at hg
            obtain rfl := Option.some.inj hg
            have k1 := k1 _ (Same.refl _)
            have sD := sC.trans sj
            refine ⟨rfl, _, rfl, _, rfl, z.1, c, .str z.2.1, .str z.2.2, .str z.2.1, .str z.2.2, as, ps, rfl, rfl, SqT.of (sj _ _ eb), .fl (.str _), .fl (.str _), .inr (SqT.of (sD _ _ ec)), pr.same sD, _, rfl, ?_⟩
            rw [any_pair, Bool.true_xor]
            by_cases m : z.2 ∈ ps
            · rw [decide_eq_true m, if_pos rfl] at k1
              rw [show decide ((z.2.1, z.2.2) ∈ ps) = true from decide_eq_true m]
              exact iteF k1
            · rw [decide_eq_false m, if_neg (by decide)] at k1
              rw [show decide ((z.2.1, z.2.2) ∈ ps) = false from decide_eq_false m]
              exact iteT ⟨_, rfl, k1⟩
          · refine ⟨by show 0 ≤ sizeLine; decide, fun l0 h0 => ⟨D2, l0, _, rfl, rfl, SqL.of (keep1 e8 h0), SqL.of upd_same, _, rfl, ?_⟩⟩
            have sE := (sC.trans s8).trans (same_new (o := .lst []) h0)
            have hall : ∀ g ∈ (p1.sg.cps.toList.map fun c => (ledL p1 ab.1 c, ledL p2 ab.2 c)), g ∈ ps := fun g hg => by
              obtain ⟨c', hc', rfl⟩ := List.mem_map.mp hg
              exact clo ab (List.mem_of_getElem? hab) c' hc'
            rw [eit, zip_all4 hbl, decide_eq_true hall]
            exact iteF ⟨_, _, rfl, sE⟩
      · obtain ⟨v4, v5, rfl, st2⟩ := h
        exact kk _ st2
end
end My
set_option pp.maxSteps 1500
namespace My
open PySem PySem.Spec PyProof.Rows L2 PySem.GX L2H LamX
/-! the law's own first row -/
structure Ln where
  addr : Addr
  row : Row
  u : Str
  v : Str
abbrev lnR (E : List Ln) : List V := E.map fun e => V.ref e.addr
abbrev lnL (E : List Ln) : List ((Str × Str) × Row) := E.map fun e => ((e.u, e.v), e.row)
def stp2 (p1 p2 : Parts) (s : Str × Str) (c : Nat) : Str × Str := (ledL p1 s.1 c, ledL p2 s.2 c)
theorem run_2 (p1 p2 : Parts) : ∀ (r : Row) (a b : Str), runL (stp2 p1 p2) (a, b) r = (walkL p1 a r, walkL p2 b r)
  | [], _, _ => rfl
  | c :: r, a, b => run_2 p1 p2 r (ledL p1 a c) (ledL p2 b c)
theorem Bfs.len {α : Type} {sgs : Row} {step : α → Nat → α} {a0 : α} {L : List (α × Row)} {n : Nat} {dn : Row} (h : Bfs sgs step a0 L n dn) : ∀ (i : Nat) (x : α × Row), L[i]? = some x → x.2.length ≤ i := by
  intro i
  induction i using Nat.strongRecOn with
  | _ i ih =>
    intro x hx
    rcases h.src x (List.mem_of_getElem? hx) with q | ⟨j, y, s, ej, ex, _⟩
    · rw [q]; exact Nat.zero_le _
    · have lt : j < i := by
        refine Classical.byContradiction fun z => ?_
        have low : slt y.2 x.2 := by rw [ex]; exact slt_more
        rcases Nat.lt_or_eq_of_le (Nat.le_of_not_lt z) with q | q
        · exact slt_irrefl (slt_trans low (h.inc i j x y hx ej q))
        · subst q
          have : x = y := Option.some.inj (hx.symm.trans ej)
          rw [this] at low
          exact slt_irrefl low
      have := ih j lt y ej
      rw [ex, List.length_append]
      show y.2.length + 1 ≤ i
      omega
structure FstQ (H1 H : Hp) (l d : Addr) (p1 p2 : Parts) (E : List Ln) (ps : List (Str × Str)) : Prop where
  ks : Ks l d H1 H
  el : H l = some (.lst (lnR E))
  ed : H d = some (.dT (seenL ps))
  ln : E.length = ps.length + 1
  nd : ps.Nodup
  inn : ∀ ab ∈ ps, ab.1 ∈ p1.ms ∧ ab.2 ∈ p2.ms
  at_ : ∀ e ∈ E, H e.addr = some (.tup [.str ⟨e.row.toArray⟩, .str e.u, .str e.v]) ∧ e.u ∈ p1.ms ∧ e.v ∈ p2.ms
  sn : ∀ ab ∈ ps, ∃ e ∈ E, (e.u, e.v) = ab
section
variable {H1 H : Hp} {l d : Addr} {p1 p2 : Parts} {E : List Ln} {ps : List (Str × Str)}
theorem FstQ.new (h : FstQ H1 H l d p1 p2 E ps) {H' : Hp} (s : Same H H') : FstQ H1 H' l d p1 p2 E ps :=
  ⟨fun b o n1 n2 e => s _ _ (h.ks b o n1 n2 e), s _ _ h.el, s _ _ h.ed, h.ln, h.nd, h.inn, fun e he => let ⟨a, b⟩ := h.at_ e he; ⟨s _ _ a, b⟩, h.sn⟩
theorem FstQ.few (h : FstQ H1 H l d p1 p2 E ps) (z1 : p1.ms.length ≤ 10) (z2 : p2.ms.length ≤ 10) : E.length ≤ 101 := by
  have := pairs_bound h.nd h.inn
  have m : p1.ms.length * p2.ms.length ≤ 10 * 10 := Nat.mul_le_mul z1 z2
  have := h.ln
  omega
theorem FstQ.put (h : FstQ H1 H l d p1 p2 E ps) {a b : Str} (hn : (a, b) ∉ ps) (ha : a ∈ p1.ms) (hb : b ∈ p2.ms) {H2 : Hp} {n : Addr} {r : Row} (s : Ks l d (upd H d (.dT (seenL (ps ++ [(a, b)])))) H2) (el : H2 l = some (.lst (lnR (E ++ [⟨n, r, a, b⟩])))) (ed : H2 d = some (.dT (seenL (ps ++ [(a, b)]))))
    (en : H2 n = some (.tup [.str ⟨r.toArray⟩, .str a, .str b])) : FstQ H1 H2 l d p1 p2 (E ++ [⟨n, r, a, b⟩]) (ps ++ [(a, b)]) := by
  refine ⟨fun b o n1 n2 e => s _ _ n1 n2 (by rw [upd_ne n2]; exact h.ks b o n1 n2 e), el, ed, by rw [List.length_append, List.length_append, h.ln]; rfl, ?_, fun ab m => ?_, fun e he => ?_, fun ab m => ?_⟩
  · rw [List.nodup_append]
    refine ⟨h.nd, by simp, fun x hx y hy e => ?_⟩
    rw [List.mem_singleton] at hy
    exact hn (hy ▸ e ▸ hx)
  · rcases List.mem_append.mp m with m | m
    · exact h.inn ab m
    · rw [List.mem_singleton] at m
      subst m
      exact ⟨ha, hb⟩
  · rcases List.mem_append.mp he with he | he
    · obtain ⟨e1, e2⟩ := h.at_ e he
      have n1 : e.addr ≠ l := ne_of e1 h.el (by intro z; cases z)
      have n2 : e.addr ≠ d := ne_of e1 h.ed (by intro z; cases z)
      exact ⟨s _ _ n1 n2 (by rw [upd_ne n2]; exact e1), e2⟩
    · rw [List.mem_singleton.mp he]
      exact ⟨en, ha, hb⟩
  · rcases List.mem_append.mp m with m | m
    · obtain ⟨e, he, q⟩ := h.sn ab m
      exact ⟨e, List.mem_append_left _ he, q⟩
    · rw [List.mem_singleton] at m
      subst m
      exact ⟨_, List.mem_append_right _ (List.mem_singleton.mpr rfl), rfl⟩
end
def ftWd (wd : Str) : Bool → Bool → Bool := if wd = "apart" then ftNe else ftAn
theorem ft_wd (wd : Str) (b1 b2 : Bool) : ((b1 != b2) && (decide (wd = "apart") || b1)) = ftWd wd b1 b2 := by
  unfold ftWd
  by_cases h : wd = "apart"
  · rw [if_pos h, decide_eq_true h]
    cases b1 <;> cases b2 <;> rfl
  · rw [if_neg h, decide_eq_false h]
    cases b1 <;> cases b2 <;> rfl
def spFirstQ : Sp := fun vs H Q _ => ∃ (q1 q2 : Addr) (p1 p2 : Parts) (wd : Str), vs = [.ref q1, .ref q2, .str wd] ∧ BxF H q1 p1 p1.ms ∧ BxF H q2 p2 p2.ms ∧ p1.sg = p2.sg ∧ PartsOk p1 ∧ PartsOk p2 ∧
  p1.ms.length ≤ 10 ∧ p2.ms.length ≤ 10 ∧ ∀ (o : Option Row) (H' : Hp), Same H H' → Shows p1 p2 (ftWd wd) o → (∀ r, o = some r → r.length ≤ 100) → Q (rowV o) H'
section
variable {P : Program} {w : World} {K : PySem.W.Frag} {mg : Str → Option Value} {base : Heap}
abbrev nFirstQ : List Str := ["_law_one_box", "_law_two_box", "_law_word", "_law_lines", "_law_seen", "_law_at", "_law_line", "_law_here", "_law_there", "_law_fine", "_law_letter", "_law_pair"]
theorem scFirstQ : FnScope nFirstQ ["_law_one_box", "_law_two_box", "_law_word"] (defScope sFirst) := ⟨rfl, rfl, rfl, by decide +kernel, rfl, by decide +kernel, by decide +kernel⟩
def atQ (σ : List (Option V)) : Nat := match σ[5]? with
  | some (some (V.int n)) => 200 - n.toNat
  | _ => 0
/-- it is told, or the search goes on -/
def tGoQ : TS := fun D σ H => ∃ (lb : Addr) (b1 b2 : Bool) (wd r : Str), σ[9]? = some (some (.ref lb)) ∧ σ[2]? = some (some (.str wd)) ∧ σ[6]? = some (some (.str r)) ∧ H lb = some (.lst [.bl b1, .bl b2]) ∧ if ftWd wd b1 b2 = true then D.rt (.str r) H else D.nx σ H
theorem row_app (r : Row) (c : Nat) : (⟨r.toArray⟩ : Str) ++ sg c = ⟨(r ++ [c]).toArray⟩ := str_ext (by rw [cps_app])
theorem ok_firstQ {f : Addr} {fd : FuncData} (F : Fun K "_law_first" "_law_first" sFirst f fd) (hL : mg "len" = none) : FnOk P w K mg base CX0 1 f fd ["_law_one_box", "_law_two_box", "_law_word"] spFirstQ := by
  refine F.ok scFirstQ (fun vs H Q E h => ?_) (fun cdv A outer s H vs Q E hr h => ?_)
  · obtain ⟨q1, q2, p1, p2, wd, rfl, _⟩ := h
    rfl
  · obtain ⟨q1, q2, p1, p2, wd, rfl, ⟨lw1, lf1, g1, kvs1, eq1, ew1, ef1, eg1, cv1⟩, ⟨lw2, lf2, g2, kvs2, eq2, ew2, ef2, eg2, cv2⟩, esg, ok1, ok2, z1, z2, kk⟩ := h
    have hu := hu_of hr
    obtain ⟨ws1, em1⟩ := ok1.first
    obtain ⟨ws2, em2⟩ := ok2.first
    have ht1 : firstL p1 ∈ p1.ms := by rw [em1]; simp
    have ht2 : firstL p2 ∈ p2.ms := by rw [em2]; simp
    have ef1' : (p1.ms.map V.str)[0]? = some (.str (firstL p1)) := by rw [em1]; rfl
    have ef2' : (p2.ms.map V.str)[0]? = some (.str (firstL p2)) := by rw [em2]; rfl
    have asc := ok1.asc
    generalize ht10 : firstL p1 = t1 at ht1 ef1'
    generalize ht20 : firstL p2 = t2 at ht2 ef2'
    refine ⟨_, pss_cons (ps_par3 (i := 3) (j := 4) (l := 5) rfl scFirstQ.nd rfl rfl rfl (by decide) (by decide) (by decide) rfl rfl rfl (pa_cons (pe_lst (pa_cons (pe_tup (pa_cons pe_str (pa_cons (pe_ix ix_list (pe_ix ix_tup (pv 0) pe_int (fun _ _ => rfl)) pe_int (fun _ _ => rfl)) (pa_cons (pe_ix ix_list (pe_ix ix_tup (pv 1) pe_int (fun _ _ => rfl)) pe_int (fun _ _ => rfl)) pa_nil)))) pa_nil)) (pa_cons pe_dnewT (pa_cons pe_int pa_nil))) rfl)
      (pss_cons (ps_while PassesOwn.never (pt_cmpR op_lt (pv 5) (pe_callB call_len_seq (by rfl) hL PySem.boot_len (pa_cons (pv 3) pa_nil)) (nomark _))
        (pss_cons (ps_asg (pe_ix ix_list (pv 3) (pv 5) (fun _ _ => rfl)) (pg_tup rfl (pgs_cons (pg_name (i := 6) scFirstQ.nd rfl (Or.inl rfl)) (pgs_cons (pg_name (i := 7) scFirstQ.nd rfl (Or.inl rfl)) (pgs_cons (pg_name (i := 8) scFirstQ.nd rfl (Or.inl rfl)) pgs_nil)))))
        (pss_cons (ps_set (i := 9) scFirstQ.nd rfl (Or.inl rfl) (pe_lst (pa_cons (pe_cmpR op_in_seq (pv 7) (pe_ix ix_tup (pv 0) pe_int (fun _ _ => rfl)) (by rfl)) (pa_cons (pe_cmpR op_in_seq (pv 8) (pe_ix ix_tup (pv 1) pe_int (fun _ _ => rfl)) (by rfl)) pa_nil))))
        (pss_cons (PS_imp (t' := tGoQ) (ps_if (PW.pt (pw_and (pt_cmpR op_ne (pe_ix ix_list (pv 9) pe_int (fun _ _ => rfl)) (pe_ix ix_list (pv 9) pe_int (fun _ _ => rfl)) (nomark _)) (pw_and1 (PW.pt (pw_or (pt_cmpR op_eq (pv 2) pe_str (nomark _)) (pw_or1 (pt_val (pe_ix ix_list (pv 9) pe_int (fun _ _ => rfl)))))))))
          (pss_one (ps_ret (pv 6))) pss_nil) ?iGo)
        (pss_cons (ps_for PassesOwn.never rfl (pi_str (pe_ix ix_tup (pv 0) pe_int (fun _ _ => rfl))) (pg_name (i := 10) scFirstQ.nd rfl (Or.inl rfl))
          (pss_cons (ps_set (i := 11) scFirstQ.nd rfl (Or.inl rfl) (pe_tup (pa_cons (pe_dget hu (pe_ix ix_tup (pv 0) pe_int (fun _ _ => rfl)) (pe_tup (pa_cons (pv 7) (pa_cons (pv 10) pa_nil))) (fun _ _ => rfl)) (pa_cons (pe_dget hu (pe_ix ix_tup (pv 1) pe_int (fun _ _ => rfl)) (pe_tup (pa_cons (pv 8) (pa_cons (pv 10) pa_nil))) (fun _ _ => rfl)) pa_nil))))
          (pss_one (ps_if (pt_cmp (pc_dnotin hu (pv 11) (pv 4))) (pss_cons (ps_dput hu (pv 4) (pv 11) pe_bl rfl) (pss_one (ps_expr (pe_bm PySem.F.plainAttrs_list PySem.F.slot_list_append PySem.F.type_list_append mt_append (pv 3) (pa_cons (pe_tup (pa_cons (pe_op op_add_str (pv 6) (pv 10)) (pa_cons (pe_ix ix_tup (pv 11) pe_int (fun _ _ => rfl)) (pa_cons (pe_ix ix_tup (pv 11) pe_int (fun _ _ => rfl)) pa_nil)))) pa_nil))))) pss_nil))))
        (pss_one (ps_set (i := 5) scFirstQ.nd rfl (Or.inl rfl) (pe_op op_add (pv 5) pe_int))))))))
      (pss_one (ps_ret pe_non))), ?_⟩
    case iGo =>
      rintro D σ H ⟨lb, b1, b2, wd, r, e9, e2, e6, el, y⟩
      rw [← ft_wd] at y
      refine ⟨_, e9, lb, _, _, V.bl b1, rfl, rfl, SqL.of el, atI_nat (j := 0) rfl, _, e9, lb, _, _, V.bl b2, rfl, rfl, SqL.of el, atI_nat (j := 1) rfl, rfl, _, rfl, ?_⟩
      have eb : (!decide (V.bl b1 = V.bl b2)) = (b1 != b2) := by cases b1 <;> cases b2 <;> decide
      rw [eb]
      refine ite2 (fun c => ?_) (fun c => ?_)
      · rw [c, Bool.true_and] at y
        have ew : decide (V.str wd = V.str "apart") = decide (wd = "apart") := by
          rw [Bool.eq_iff_iff, decide_eq_true_eq, decide_eq_true_eq]
          exact ⟨fun h => by injection h, fun h => by rw [h]⟩
        refine ⟨_, e2, rfl, _, rfl, ?_⟩
        rw [ew]
        refine ite2 (fun c2 => ?_) (fun c2 => ?_)
        · rw [c2, Bool.true_or, if_pos rfl] at y
          exact ⟨_, e6, y⟩
        · have c2' : decide (wd = "apart") = false := by simpa using c2
          rw [c2', Bool.false_or] at y
          refine ⟨_, e9, lb, _, _, V.bl b1, rfl, rfl, SqL.of el, atI_nat (j := 0) rfl, _, rfl, ite2 (fun c3 => ?_) (fun c3 => ?_)⟩
          · rw [if_pos c3] at y
            exact ⟨_, e6, y⟩
          · rw [if_neg c3] at y
            exact y
      · have c' : (b1 != b2) = false := by simpa using c
        rw [c', Bool.false_and, if_neg (by simp)] at y
        exact y
    refine ⟨_, rfl, q1, _, _, V.ref lw1, rfl, rfl, SqT.of eq1, atI_nat (j := 1) rfl, lw1, _, _, V.str t1, rfl, rfl, SqL.of ew1, atI_nat (j := 0) ef1', _, rfl, q2, _, _, V.ref lw2, rfl, rfl, SqT.of eq2, atI_nat (j := 1) rfl, lw2, _, _, V.str t2, rfl, rfl, SqL.of ew2, atI_nat (j := 0) ef2', (by show 3 ≤ sizeLine; decide), fun a0 ha0 => ⟨(by show 1 ≤ sizeLine; decide), fun l hl d hd => ⟨_, _, _, rfl, ?_⟩⟩⟩
    have e0 : (Str.ofString "") = Str.empty := rfl
    have sH := (same_new (o := .tup [.str (Str.ofString ""), .str t1, .str t2]) ha0).trans ((same_new (o := .lst [.ref a0]) hl).trans (same_new (o := .dT []) hd))
    have el := keep1 (o := .dT []) (upd_same (a := l) (H := upd H a0 (.tup [.str (Str.ofString ""), .str t1, .str t2])) (o := .lst [.ref a0])) hd
    have ed := upd_same (a := d) (H := upd (upd H a0 (.tup [.str (Str.ofString ""), .str t1, .str t2])) l (.lst [.ref a0])) (o := .dT [])
    have ea := keep1 (o := .dT []) (keep1 (o := .lst [.ref a0]) (upd_same (a := a0) (H := H) (o := .tup [.str (Str.ofString ""), .str t1, .str t2])) hl) hd
    have fl : ∀ b o, H b = some o → b ≠ l := fun b o e => ne_of_none (keep1 (o := .tup [.str (Str.ofString ""), .str t1, .str t2]) e ha0) hl
    have fd' : ∀ b o, H b = some o → b ≠ d := fun b o e => ne_of_none (keep1 (o := .lst [.ref a0]) (keep1 (o := .tup [.str (Str.ofString ""), .str t1, .str t2]) e ha0) hl) hd
    generalize upd (upd (upd H a0 (.tup [.str (Str.ofString ""), .str t1, .str t2])) l (.lst [.ref a0])) d (.dT []) = H1 at sH el ed ea ⊢
    clear ha0 hl hd
    have nld : l ≠ d := ne_of el ed (by intro z; cases z)
    have b0 : FstQ H1 H1 l d p1 p2 [⟨a0, [], t1, t2⟩] [] := ⟨fun _ _ _ _ e => e, el, ed, rfl, List.nodup_nil, fun ab m => by (cases m), fun e he => by
      rw [List.mem_singleton.mp he]
      exact ⟨ea, ht1, ht2⟩, fun ab m => by cases m⟩
    have q1' := sH _ _ eq1
    have q2' := sH _ _ eq2
    have f1' := sH _ _ ef1
    have f2' := sH _ _ ef2
    have g1' := sH _ _ eg1
    have g2' := sH _ _ eg2
    have nq1 := fl _ _ eq1
    have mq1 := fd' _ _ eq1
    have nq2 := fl _ _ eq2
    have mq2 := fd' _ _ eq2
    have nf1 := fl _ _ ef1
    have mf1 := fd' _ _ ef1
    have nf2 := fl _ _ ef2
    have mf2 := fd' _ _ ef2
    have ng1 := fl _ _ eg1
    have mg1 := fd' _ _ eg1
    have ng2 := fl _ _ eg2
    have mg2 := fd' _ _ eg2
    have fin : ∀ H', Ks l d H1 H' → Same H H' := fun H' ks b o e => ks _ _ (fl _ _ e) (fd' _ _ e) (sH _ _ e)
    have toW : ∀ o : Option Row, IsFirst p1.sg.cps.toList (fun r => (fun s : Str × Str => ftWd wd (decide (s.1 ∈ p1.gs)) (decide (s.2 ∈ p2.gs)) = true) (runL (stp2 p1 p2) (t1, t2) r)) o → Shows p1 p2 (ftWd wd) o := fun o ho => ho.imp fun r _ => by
      rw [run_2]
      unfold goodOf
      rw [ht10, ht20]
    refine while_by (fun σ H' => ∃ (n : Nat) (v6 v7 v8 v9 v10 v11 : Option V) (E : List Ln) (ps : List (Str × Str)), σ = [some (.ref q1), some (.ref q2), some (.str wd), some (.ref l), some (.ref d), some (.int (n : Int)), v6, v7, v8, v9, v10, v11] ∧ FstQ H1 H' l d p1 p2 E ps ∧ n ≤ E.length ∧ Bfs p1.sg.cps.toList (stp2 p1 p2) (t1, t2) (lnL E) n [] ∧ ∀ (i : Nat) (e : Ln), i < n → E[i]? = some e → ftWd wd (decide (e.u ∈ p1.gs)) (decide (e.v ∈ p2.gs)) = false) (fun σ _ => atQ σ)
      ⟨0, none, none, none, none, none, none, _, _, rfl, b0, Nat.zero_le _, bfs_start, fun i e hi => absurd hi (Nat.not_lt_zero _)⟩ (fun σ H2 h => ?_) ?mono
    case mono =>
      rintro σ H Q Q' m ⟨a1, a2, a3, a4, a5, a6, a7, a8, a9, a10, a11, a12, a13, a14, q⟩
      exact ⟨a1, a2, a3, a4, a5, a6, a7, a8, a9, a10, a11, a12, a13, a14, m _ _ q⟩
    obtain ⟨n, v6, v7, v8, v9, v10, v11, E, ps, rfl, S2, hn, hB, hno⟩ := h
    refine ⟨_, rfl, _, rfl, l, _, rfl, .inl (SqL.of S2.el), _, _, rfl, rfl, _, rfl, ite2 (fun c => ?_) (fun c => ?_)⟩
    · have c1 : (n : Int) < ((lnR E).length : Int) := of_decide_eq_true c
      rw [List.length_map] at c1
      have hlt : n < E.length := by omega
      clear c c1
      have ha : E[n]? = some E[n] := List.getElem?_eq_getElem hlt
      generalize E[n] = e at ha
      have em := List.mem_of_getElem? ha
      obtain ⟨ea, hu', hv'⟩ := S2.at_ e em
      have hLn : (lnL E)[n]? = some ((e.u, e.v), e.row) := by rw [List.getElem?_map, ha]; rfl
      have lr : e.row.length ≤ n := hB.len n _ hLn
      refine ⟨_, rfl, _, rfl, l, _, _, V.ref e.addr, rfl, rfl, SqL.of S2.el, atI_nat (by rw [List.getElem?_map, ha]; rfl), e.addr, _, rfl, SqT.of ea, rfl, _, _, rfl, _, _, rfl, _, _, rfl, rfl, ?_⟩
      refine ⟨_, rfl, _, rfl, q1, _, _, V.ref lf1, rfl, rfl, SqT.of (S2.ks _ _ nq1 mq1 q1'), atI_nat (j := 2) rfl, lf1, _, rfl, .inl (SqL.of (S2.ks _ _ nf1 mf1 f1')), rfl, flat_strs _, _, rfl, _, rfl, q2, _, _, V.ref lf2, rfl, rfl, SqT.of (S2.ks _ _ nq2 mq2 q2'), atI_nat (j := 2) rfl, lf2, _, rfl, .inl (SqL.of (S2.ks _ _ nf2 mf2 f2')), rfl, flat_strs _, (by show 2 ≤ sizeLine; decide), fun lb hlb => ?_⟩
      have eif : ∀ b : Bool, (if false = true then !b else b) = b := fun _ => rfl
      rw [eif, eif, in_strs, in_strs] at *
      have S3 := S2.new (same_new (o := .lst [.bl (decide (e.u ∈ p1.gs)), .bl (decide (e.v ∈ p2.gs))]) hlb)
      have eb : upd H2 lb (.lst [.bl (decide (e.u ∈ p1.gs)), .bl (decide (e.v ∈ p2.gs))]) lb = some (.lst [.bl (decide (e.u ∈ p1.gs)), .bl (decide (e.v ∈ p2.gs))]) := upd_same
      generalize upd H2 lb (.lst [.bl (decide (e.u ∈ p1.gs)), .bl (decide (e.v ∈ p2.gs))]) = H3 at S3 eb ⊢
      refine ⟨lb, _, _, wd, ⟨e.row.toArray⟩, rfl, rfl, rfl, eb, ite2 (fun c => ?_) (fun c => ?_)⟩
      · refine kk (some e.row) _ (fin _ S3.ks) (toW _ (hB.found hLn (W := fun s : Str × Str => ftWd wd (decide (s.1 ∈ p1.gs)) (decide (s.2 ∈ p2.gs)) = true) c fun i y hi ey hw => ?_)) fun r er => ?_
        · rw [List.getElem?_map] at ey
          obtain ⟨e', ee, rfl⟩ := Option.map_eq_some_iff.mp ey
          have := hno i e' hi ee
          rw [this] at hw
          cases hw
        · injection er with er
          subst er
          have := S2.few z1 z2
          omega
      have eW : ftWd wd (decide (e.u ∈ p1.gs)) (decide (e.v ∈ p2.gs)) = false := by simpa using c
      refine ⟨_, rfl, q1, _, _, V.str p1.sg, rfl, rfl, SqT.of (S3.ks _ _ nq1 mq1 q1'), atI_nat (j := 0) rfl, p1.sg, rfl, ?_⟩
      refine for_it walk_str (fun i σ H' => ∃ (v10 v11 : Option V) (E' : List Ln) (ps' : List (Str × Str)), σ = [some (.ref q1), some (.ref q2), some (.str wd), some (.ref l), some (.ref d), some (.int (n : Int)), some (.str ⟨e.row.toArray⟩), some (.str e.u), some (.str e.v), some (.ref lb), v10, v11] ∧ FstQ H1 H' l d p1 p2 E' ps' ∧ Bfs p1.sg.cps.toList (stp2 p1 p2) (t1, t2) (lnL E') n (p1.sg.cps.toList.take i) ∧ E'[n]? = some e ∧ ∀ (i : Nat) (e : Ln), i < n → E'[i]? = some e → ftWd wd (decide (e.u ∈ p1.gs)) (decide (e.v ∈ p2.gs)) = false)
        ⟨v10, v11, E, ps, rfl, S3, by simpa using hB, ha, hno⟩ (fun _ _ _ _ _ => trivial) (fun i y σ H4 H5 hi h hy => ?_) (fun σ H4 h => ?_)
      · obtain ⟨rfl, c, hc, rfl⟩ := hy
        obtain ⟨v10, v11, E', ps', rfl, S5, hB5, he5, hno5⟩ := h
        rw [← Array.getElem?_toList] at hc
        have hc1 : c ∈ p1.sg.cps.toList := List.mem_of_getElem? hc
        have hc2 : c ∈ p2.sg.cps.toList := by rw [← esg]; exact hc1
        have dg1 := cv1 e.u hu' c hc1
        have dg2 := cv2 e.v hv' c hc2
        have ga := (ok1.goal hu' hc1).1
        have gb := (ok2.goal hv' hc2).1
        have hLn5 : (lnL E')[n]? = some ((e.u, e.v), e.row) := by rw [List.getElem?_map, he5]; rfl
        have etake : p1.sg.cps.toList.take (i + 1) = p1.sg.cps.toList.take i ++ [c] := by rw [List.take_add_one, hc]; rfl
        have low : ∀ b ∈ p1.sg.cps.toList.take i, b < c := fun b hb => by
          obtain ⟨j, hj⟩ := List.mem_iff_getElem?.mp hb
          have hji : j < i := by
            have := (List.getElem?_eq_some_iff.mp hj).1
            rw [List.length_take] at this
            omega
          rw [List.getElem?_take_of_lt hji] at hj
          obtain ⟨q1, q2⟩ := List.getElem?_eq_some_iff.mp hj
          obtain ⟨q3, q4⟩ := List.getElem?_eq_some_iff.mp hc
          have := List.pairwise_iff_getElem.mp asc j i q1 q3 hji
          rw [q2, q4] at this
          exact this
        have hstp : stp2 p1 p2 (e.u, e.v) c = (ledL p1 e.u c, ledL p2 e.v c) := rfl
        generalize ledL p1 e.u c = a1 at dg1 ga hstp
        generalize ledL p2 e.v c = a2 at dg2 gb hstp
        refine ⟨_, rfl, q1, _, _, V.ref g1, rfl, rfl, SqT.of (S5.ks _ _ nq1 mq1 q1'), atI_nat (j := 3) rfl, _, rfl, _, rfl, (by show 2 ≤ sizeLine; decide), fun ta hta => ⟨g1, V.str a1, rfl, ?_, ?_⟩⟩
        · have := DGet.t (k := kT e.u c) (keep1 (S5.ks _ _ ng1 mg1 g1') hta) (upd_same (o := .tup ((kT e.u c).map kV)))
          rw [dg1] at this
          exact this
        have S6 := S5.new (same_new (o := .tup ((kT e.u c).map kV)) hta)
        show ∃ _, _
        generalize eH6 : upd H5 ta (.tup ((kT e.u c).map kV)) = H6 at S6
        have eH6' : upd H5 ta (.tup [.str e.u, .str (sg c)]) = H6 := eH6
        rw [eH6']
        clear eH6 eH6' hta
        refine ⟨_, rfl, q2, _, _, V.ref g2, rfl, rfl, SqT.of (S6.ks _ _ nq2 mq2 q2'), atI_nat (j := 3) rfl, _, rfl, _, rfl, (by show 2 ≤ sizeLine; decide), fun tb htb => ⟨g2, V.str a2, rfl, ?_, (by show 2 ≤ sizeLine; decide), fun tq htq => ?_⟩⟩
        · have := DGet.t (k := kT e.v c) (keep1 (S6.ks _ _ ng2 mg2 g2') htb) (upd_same (o := .tup ((kT e.v c).map kV)))
          rw [dg2] at this
          exact this
        have S7 := (S6.new (same_new htb)).new (same_new (o := .tup [.str a1, .str a2]) htq)
        have etq := upd_same (a := tq) (H := upd H6 tb (.tup [.str e.v, .str (sg c)])) (o := .tup [.str a1, .str a2])
        generalize upd (upd H6 tb (.tup [.str e.v, .str (sg c)])) tq (.tup [.str a1, .str a2]) = H7 at S7 etq ⊢
        clear htb htq S6 S5
        have fw := S7.few z1 z2
        have lnn := S7.ln
        refine ⟨_, rfl, _, rfl, d, _, rfl, DGet.t (k := k2 a1 a2) S7.ed etq, _, rfl, ?_⟩
        rw [seen_val]
        by_cases hm : (a1, a2) ∈ ps'
        · rw [decide_eq_true hm]
          obtain ⟨z, hz, ez⟩ := S7.sn _ hm
          refine iteF ⟨_, _, _, _, rfl, S7, ?_, he5, hno5⟩
          rw [etake]
          exact hB5.old hLn5 low (z := ((z.u, z.v), z.row)) (List.mem_map.mpr ⟨z, hz, rfl⟩) (ez.trans hstp.symm)
        · rw [decide_eq_false hm]
          refine iteT ?_
          refine ⟨_, rfl, _, rfl, d, upd H7 d (.dT (seenL (ps' ++ [(a1, a2)]))), rfl, ?_, ?_⟩
          · rw [← seen_snoc hm]
            refine DPut.t (k := k2 a1 a2) S7.ed etq ?_
            unfold seenL
            rw [List.length_map, sizeLine_eq]
            omega
          have ntq : tq ≠ d := ne_of etq S7.ed (by intro z; cases z)
          have el8 : upd H7 d (.dT (seenL (ps' ++ [(a1, a2)]))) l = some (.lst (lnR E')) := by rw [upd_ne nld]; exact S7.el
          have et8 : upd H7 d (.dT (seenL (ps' ++ [(a1, a2)]))) tq = some (.tup [.str a1, .str a2]) := by rw [upd_ne ntq]; exact etq
          have lt5 := (List.getElem?_eq_some_iff.mp he5).1
          refine ⟨_, rfl, .inl ⟨rfl, _, SqL.of el8⟩, _, rfl, _, rfl, _, _, rfl, rfl, ?_, _, rfl, tq, _, _, V.str a1, rfl, rfl, SqT.of et8, atI_nat (j := 0) rfl, _, rfl, tq, _, _, V.str a2, rfl, rfl, SqT.of et8, atI_nat (j := 1) rfl, (by show 3 ≤ sizeLine; decide), fun tn htn => ⟨l, _, _, rfl, rfl, keep1 el8 htn, ?_, ?_⟩⟩
          · have h1 : ({ cps := #[c] } : Str).length = 1 := rfl
            have h2 : ({ cps := e.row.toArray } : Str).length = e.row.length := List.size_toArray ..
            rw [h1, h2, sizeLine_eq]
            omega
          · rw [List.length_map, sizeLine_eq]
            omega
          · refine ⟨_, _, E' ++ [⟨tn, e.row ++ [c], a1, a2⟩], ps' ++ [(a1, a2)], rfl, S7.put hm ga gb (fun b o n1 n2 q => ?_) (by rw [upd_same]; show some (HO.lst (lnR E' ++ _)) = some (HO.lst (List.map _ _)); rw [List.map_append]; rfl) ?_ ?_, ?_, ?_, fun i' e' hi' ei' => ?_⟩
            · rw [upd_ne n1]
              exact keep1 q htn
            · rw [upd_ne nld.symm]
              exact keep1 upd_same htn
            · have : tn ≠ l := (ne_of_none el8 htn).symm
              rw [upd_ne this, upd_same]
              show some (HO.tup [.str ((⟨e.row.toArray⟩ : Str) ++ sg c), .str a1, .str a2]) = _
              rw [row_app]
            · rw [etake]
              have := hB5.new hLn5 low hc1
              rw [hstp] at this
              show Bfs _ _ _ (List.map _ _) _ _
              rw [List.map_append]
              exact this
            · rw [List.getElem?_append_left lt5]; exact he5
            · rw [List.getElem?_append_left (by omega)] at ei'
              exact hno5 i' e' hi' ei'
      · obtain ⟨v10, v11, E', ps', rfl, S5, hB5, he5, hno5⟩ := h
        have lt5 := (List.getElem?_eq_some_iff.mp he5).1
        have fw := S5.few z1 z2
        rw [show p1.sg.cps.size = p1.sg.cps.toList.length from (Array.length_toList ..).symm, List.take_length] at hB5
        refine ⟨_, rfl, _, _, rfl, rfl, ⟨n + 1, _, _, _, _, _, _, E', ps', by rw [show ((n + 1 : Nat) : Int) = (n : Int) + 1 by omega]; rfl, S5, by omega, hB5.next fun c hc => hc, fun i e' hi ei => ?_⟩, ?_⟩
        · by_cases q : i = n
          · subst q
            rw [he5] at ei
            rw [← Option.some.inj ei]
            exact eW
          · exact hno5 i e' (by omega) ei
        · show 200 - ((n : Int) + 1).toNat < 200 - (n : Int).toNat
          omega
    · have hge : E.length ≤ n := by
        have : ¬ ((n : Int) < ((lnR E).length : Int)) := of_decide_eq_false (by simpa using c)
        rw [List.length_map] at this
        omega
      refine kk none _ (fin _ S2.ks) (toW none (hB.none (by rw [List.length_map]; exact hge) (W := fun s : Str × Str => ftWd wd (decide (s.1 ∈ p1.gs)) (decide (s.2 ∈ p2.gs)) = true) fun y hy => ?_)) (fun r er => by cases er)
      obtain ⟨e, he, rfl⟩ := List.mem_map.mp hy
      obtain ⟨i, ei⟩ := List.mem_iff_getElem?.mp he
      have := (List.getElem?_eq_some_iff.mp ei).1
      rw [hno i e (by omega) ei]
      simp
end
end My
namespace My
open PySem PySem.Spec PyProof.Rows L2 PySem.GX L2H LamX
def setD (ws : List Str) : List (Key × V) := dOf (fun x => (Sum.inr x : Key)) (fun _ => V.bl true) ws
theorem setD_val (ws : List Str) (t : Str) : (valV (setD ws) (Sum.inr t)).isSome = decide (t ∈ ws) := dTrue_val ws t
def spAsSet : Sp := fun vs H Q _ => ∃ (l : Addr) (ws : List Str), vs = [.ref l] ∧ H l = some (.tup (ws.map V.str)) ∧ ws.length ≤ 16000000 ∧ ∀ (D : Addr) (H' : Hp), Same H H' → H' D = some (.dK (setD ws)) → Q (.ref D) H'
def spReadP (C : Addr) : Sp := fun vs H Q _ => ∃ (a1 a2 : Addr) (t1 t2 : Str) (p1 p2 : Parts) (v : V) (o : Option (List Itm)), vs = [.ref a1, .ref a2, v] ∧ RuleAt H C a1 t1 p1 ∧ RuleAt H C a2 t2 p2 ∧ PartsOk p1 ∧ PartsOk p2 ∧ Pap H v o ∧
  ((¬ ∃ qs, o = some (qs.map twP) ∧ GoodP p1 p2 qs) → ∀ H', Same H H' → Q .non H') ∧
  (∀ qs, o = some (qs.map twP) → GoodP p1 p2 qs → qs.length ≤ 1000 → ∀ (D : Addr) (H' : Hp), H D = none → Same H H' → H' D = some (.dT (seenL qs)) → Q (.ref D) H')
section
variable {P : Program} {w : World} {K : PySem.W.Frag} {mg : Str → Option Value} {base : Heap}
theorem scAsSet : FnScope ["words", "word"] ["words"] (defScope sAsSet) := ⟨rfl, rfl, rfl, by decide +kernel, rfl, by decide +kernel, by decide +kernel⟩
theorem ok_asSet {f : Addr} {fd : FuncData} (F : Fun K "as_set" "as_set" sAsSet f fd) : FnOk P w K mg base CX0 1 f fd ["words"] spAsSet := by
  refine F.ok scAsSet (fun vs H Q E h => ?_) (fun cdv A outer s H vs Q E hr h => ?_)
  · obtain ⟨l, ws, rfl, _⟩ := h
    rfl
  · obtain ⟨l, ws, rfl, hl, z1, k⟩ := h
    refine ⟨_, pss_one (ps_ret (pe_dc (own := [("word", 1)]) (g := gName 1) (tt := tYes) rfl scAsSet.nd (pi_tup (pv 0))
          (blkOk_by (N := ["words", "word"]) (sc := defScope sAsSet) (by decide +kernel)) (fun _ _ _ _ _ => pg_name (i := 1) scAsSet.nd rfl (Or.inl rfl)) (fun _ _ _ _ _ => pts_nil) (fun _ _ _ _ _ => pv 1) (fun _ _ _ _ _ => pe_bl))), ?_⟩
    refine ⟨_, rfl, l, rfl, ⟨_, SqT.of hl⟩, fun D hD => ?_⟩
    refine dcG ws (fun x => (Sum.inr x : Key)) (fun _ => V.bl true) (by have := walk_tup (K := K) (a := l) (xs := ws.map V.str); rw [List.length_map] at this; exact this) z1 hD (fun i H x H' h => by rw [h.1]; exact Same.refl _) (fun H' s => SqT.of (s _ _ hl)) (fun i x y H' H'' k1 k0 hx s1 hy k2 => ?_) (fun H1 s1 e1 => ?_)
    · obtain ⟨rfl, hy⟩ := hy
      obtain rfl := map_get hx hy
      exact ⟨rfl, _, rfl, k2 _ (Same.refl _)⟩
    · exact k D H1 s1 e1
abbrev nRdP : List Str := ["one", "other", "paper", "words", "others", "pairs", "pair", "word"]
theorem scRdP : FnScope nRdP ["one", "other", "paper"] (defScope sRdPairs) := ⟨rfl, rfl, rfl, by decide +kernel, rfl, by decide +kernel, by decide +kernel⟩
theorem ok_readP {f C : Addr} {fd : FuncData} (F : Fun K "read_pairs" "read_pairs" sRdPairs f fd) (T : RuC K C) (hAs : Hv P w K mg base 1 "as_set" ["words"] spAsSet) (pM : PrF P w K mg base C "moods" "words") (hIs : mg "isinstance" = none) (hSt : mg "str" = none) (hTu : mg "tuple" = none) (hL : mg "len" = none) (hA : mg "all" = none) :
    FnOk P w K mg base CX0 3 f fd ["one", "other", "paper"] (spReadP C) := by
  obtain ⟨pp, gp, fdp, PP, GP, bP⟩ := pM
  refine F.ok scRdP (fun vs H Q E h => ?_) (fun cdv A outer s H vs Q E hr h => ?_)
  · obtain ⟨a1, a2, t1, t2, p1, p2, v, o, rfl, _⟩ := h
    rfl
  · obtain ⟨a1, a2, t1, t2, p1, p2, v, o, rfl, hA1, hA2, ok1, ok2, hP, kN, kY⟩ := h
    have hu := hu_of hr
    have hr1 : Room 1 (A.deeper (envOfC "read_pairs" (defScope sRdPairs) s.heap.objs.size f cdv)) := hr.mono (by decide)
    have hr2 : Room 2 (A.deeper (envOfC "read_pairs" (defScope sRdPairs) s.heap.objs.size f cdv)) := hr.mono (by decide)
    refine ⟨_, pss_cons (ps_par (i := 3) (j := 4) rfl scRdP.nd rfl rfl (by decide) rfl rfl (pa_cons (pe_cl hAs hr1 rfl pass0 (pa_cons (pe_prop (pv 0) T.cl PP GP hr2 bP .nil pass0 (by rfl)) pa_nil)) (pa_cons (pe_cl hAs hr1 rfl pass0 (pa_cons (pe_prop (pv 1) T.cl PP GP hr2 bP .nil pass0 (by rfl)) pa_nil)) pa_nil)) rfl)
      (pss_cons (ps_if (pt_not (pt_val (pe_callB call_isi (by rfl) hIs (by decide +kernel) (pa_cons (pv 2) (pa_cons (pe_bltn (v := .ty "tuple") (by rfl) hTu (by decide +kernel) rfl) pa_nil))))) (pss_one (ps_ret pe_non)) pss_nil)
      (pss_cons (ps_set (i := 5) scRdP.nd rfl (Or.inl rfl) pe_dnewT)
      (pss_cons (ps_for PassesOwn.never rfl (pi_tup (pv 2)) (pg_name (i := 6) scRdP.nd rfl (Or.inl rfl))
        (pss_cons (ps_if (pt_not (PW.pt (pw_and (pt_val (pe_callB call_isi (by rfl) hIs (by decide +kernel) (pa_cons (pv 6) (pa_cons (pe_bltn (v := .ty "tuple") (by rfl) hTu (by decide +kernel) rfl) pa_nil)))) (pw_and (pt_cmpR op_eq (pe_callB call_len_seq (by rfl) hL PySem.boot_len (pa_cons (pv 6) pa_nil)) pe_int (nomark _)) (pw_and1 (pt_val (pe_callB (cr_all rfl) (by rfl) hA (by decide +kernel) (pa_cons (pe_lc (own := [("word", 7)]) (g := gName 7) (tt := tYes) rfl scRdP.nd (pi_tup (pv 6)) (blkOk_by (N := nRdP) (sc := defScope sRdPairs) (by decide +kernel)) (fun _ _ _ _ _ => pg_name (i := 7) scRdP.nd rfl (Or.inl rfl)) (fun _ _ _ _ _ => pts_nil) (fun _ _ _ _ _ => pe_callB (call_isiK (K := K) rfl) (by rfl) hIs (by decide +kernel) (pa_cons (pv 7) (pa_cons (pe_bltn (v := .ty "str") (by rfl) hSt (by decide +kernel) rfl) pa_nil)))) pa_nil))))))))
          (pss_one (ps_ret pe_non)) pss_nil)
        (pss_cons (ps_if (PW.pt (pw_or (pt_cmp (pc_dnotin hu (pe_ix ix_tup (pv 6) pe_int (fun _ _ => rfl)) (pv 3))) (pw_or (pt_cmp (pc_dnotin hu (pe_ix ix_tup (pv 6) pe_int (fun _ _ => rfl)) (pv 4))) (pw_or1 (pt_cmp (pc_din hu (pv 6) (pv 5))))))) (pss_one (ps_ret pe_non)) pss_nil)
        (pss_one (ps_dput hu (pv 5) (pv 6) pe_bl rfl)))))
      (pss_one (ps_ret (pv 5)))))), ?_⟩
    obtain ⟨dx1, M1, G1, D1, e1, em1, _⟩ := id hA1
    obtain ⟨dx2, M2, G2, D2, e2, em2, _⟩ := id hA2
    have zm : ∀ p : Parts, PartsOk p → p.ms.length ≤ 16000000 := fun p ok => by
      have := ok.mds
      unfold areMoodsL at this
      simp only [Bool.and_eq_true, decide_eq_true_eq] at this
      omega
    refine ⟨_, rfl, a1, dx1, _, rfl, e1, a1, dx1, _, .ref M1, rfl, e1, rfl, M1, p1.ms, rfl, em1, zm _ ok1, fun W1 H1 s1 w1 => ?_⟩
    refine ⟨_, rfl, a2, dx2, _, rfl, s1 _ _ e2, a2, dx2, _, .ref M2, rfl, s1 _ _ e2, rfl, M2, p2.ms, rfl, s1 _ _ em2, zm _ ok2, fun W2 H2 s2 w2 => ⟨_, _, rfl, ?_⟩⟩
    have w1 := s2 _ _ w1
    have sA := s1.trans s2
    have hP := hP.same sA
    clear s1 s2
    obtain ⟨ty, hty, kty⟩ := hP.kit (K := K)
    refine ⟨_, rfl, v, .ty "tuple", ty, .type "tuple", o.isSome, rfl, .ty _, hty, kty, _, rfl, ?_⟩
    rcases hP with ⟨c, vs, its, rfl, rfl, ec, el, e1000, hit⟩ | ⟨rfl, _⟩
    rotate_left
    · exact iteT (kN (fun ⟨qs, z, _⟩ => by cases z) _ sA)
    refine iteF ?_
    refine fun d hd => ?_
    have sB := sA.trans (same_new (o := .dT []) hd)
    have ec := keep1 (o := .dT []) ec hd
    have w1 := keep1 (o := .dT []) w1 hd
    have w2 := keep1 (o := .dT []) w2 hd
    have hit : ∀ (i : Nat) (x : V) (it : Itm), vs[i]? = some x → its[i]? = some it → ItAt (upd H2 d (.dT [])) x it := fun i x it a b => (hit i x it a b).same (same_new hd)
    have ed := upd_same (a := d) (H := H2) (o := .dT [])
    have hd0 : H d = none := by
      cases h0 : H d with
      | none => rfl
      | some o => have := sA _ _ h0; rw [hd] at this; cases this
    have fd' : ∀ b o, H b = some o → b ≠ d := fun b o e => ne_of_none (sA _ _ e) hd
    generalize upd H2 d (.dT []) = H3 at sB ec w1 w2 hit ed ⊢
    have hd3 := ed
    clear sA hd hty kty
    refine ⟨_, rfl, c, rfl, ⟨_, SqT.of ec⟩, ?_⟩
    refine for_it (walk_tup (K := K) (a := c) (xs := vs)) (fun i σ H' => ∃ (v6 v7 : Option V) (ps : List (Str × Str)), σ = [some (.ref a1), some (.ref a2), some (.ref c), some (.ref W1), some (.ref W2), some (.ref d), v6, v7] ∧ (∀ b o, b ≠ d → H3 b = some o → H' b = some o) ∧ H' d = some (.dT (seenL ps)) ∧ SoFar p1 p2 its i ps)
      ⟨none, none, [], rfl, fun _ _ _ e => e, ed, ⟨rfl, .nil, fun _ m => by cases m⟩⟩ (fun i σ H' _ h => ?_) (fun i y σ H' H'' hi h hy => ?_) (fun σ H5 h => ?_)
    · obtain ⟨_, _, _, _, st, _⟩ := h
      exact SqT.of (st _ _ (ne_of ec ed (by intro z; cases z)) ec)
    · obtain ⟨rfl, hy⟩ := hy
      obtain ⟨v6, v7, ps, rfl, st, ed, sf⟩ := h
      have kt : KsT H3 H'' := fun b o n e => st b o (fun z => by rw [z, hd3] at e; exact n _ (Option.some.inj e).symm) e
      have fin : Same H H'' := fun b o e => st b o (fd' b o e) (sB b o e)
      have hli : i < its.length := by rw [← el]; exact hi
      have hti : its[i]? = some its[i] := List.getElem?_eq_getElem hli
      have hI := (hit i y _ hy hti).keep kt
      generalize its[i] = it at hI hti
      have w1 := kt _ _ (by intro _ z; cases z) w1
      have w2 := kt _ _ (by intro _ z; cases z) w2
      obtain ⟨ty, b, hty, kty, kf, ktr⟩ := hI.kit (K := K)
      refine ⟨_, rfl, y, .ty "tuple", ty, .type "tuple", b, rfl, .ty _, hty, kty, _, rfl, ?_⟩
      cases b with
      | false => exact iteF (iteT (kN (sf.bad hti fun a b e => by rw [kf rfl] at e; cases e) _ fin))
      | true =>
        refine iteT ?_
        obtain ⟨t, xs, rfl, et, kno⟩ := ktr rfl
        refine ⟨_, rfl, t, _, rfl, .inr (SqT.of et), rfl, _, rfl, ite2 (fun c2 => ?_) (fun c2 => ?_)⟩
        rotate_left
        · have n2 : xs.length ≠ 2 := fun z => c2 (by rw [z]; rfl)
          exact iteT (kN (sf.bad hti fun a b e => by rw [kno n2] at e; cases e) _ fin)
        have n2 : xs.length = 2 := by
          have := of_decide_eq_true c2
          injection this with this
          omega
        obtain ⟨x1, x2, o1, o2, rfl, rfl, q1, q2⟩ := hI.pair et n2
        refine ⟨_, rfl, t, rfl, ⟨_, SqT.of et⟩, fun D hD => ?_⟩
        have rl : ∀ m ∈ [(x1, o1), (x2, o2)], PtAt H'' m.1 m.2 := fun m hm => by
          simp only [List.mem_cons, List.not_mem_nil, or_false] at hm
          rcases hm with rfl | rfl
          · exact q1
          · exact q2
        refine lcG [(x1, o1), (x2, o2)] (fun m : V × Option Str => some (V.bl m.2.isSome)) (by exact walk_tup (xs := [(x1, o1), (x2, o2)].map fun m : V × Option Str => m.1)) (by show 2 ≤ 16000000; decide) hD (fun i H x H' h => by rw [h.1]; exact Same.refl _) (fun H' s' => SqT.of (s' _ _ et)) (fun i m z H4 H5 k1 hm sj hz k2 => ?_) (fun H7 s7 e7 => ?_)
        · obtain ⟨rfl, hz⟩ := hz
          have ez := map_get hm hz
          subst ez
          obtain ⟨ty, hty, kty⟩ := ((rl m (List.mem_of_getElem? hm)).same sj).kit (K := K)
          exact ⟨rfl, _, rfl, m.1, .ty "str", ty, .type "str", m.2.isSome, rfl, .ty _, hty, kty, k2 _ (Same.refl _)⟩
        have e7 : H7 D = some (.lst ([o1.isSome, o2.isSome].map V.bl)) := e7
        have fin := fin.trans s7
        have ed := s7 _ _ ed
        have et := s7 _ _ et
        have w1 := s7 _ _ w1
        have w2 := s7 _ _ w2
        have st' : ∀ b o, b ≠ d → H3 b = some o → H7 b = some o := fun b o n e => s7 _ _ (st b o n e)
        refine ⟨D, [o1.isSome, o2.isSome], rfl, SqL.of e7, _, rfl, ?_⟩
        cases o1 with
        | none => exact iteT (kN (sf.bad hti fun a b e => by injection e with e _; cases e) _ fin)
        | some a =>
        cases o2 with
        | none => exact iteT (kN (sf.bad hti fun a b e => by injection e with _ e; cases e) _ fin)
        | some b =>
        obtain rfl := q1.tx_of
        obtain rfl := q2.tx_of
        refine iteF ?_
        refine ⟨_, rfl, t, _, _, V.str a, rfl, rfl, SqT.of et, atI_nat (j := 0) rfl, _, rfl, W1, _, rfl, DGet.k (k := Sum.inr a) w1, _, rfl, ?_⟩
        rw [setD_val]
        by_cases ma : a ∈ p1.ms
        rotate_left
        · rw [decide_eq_false ma]
          exact iteT (kN (sf.bad hti fun a' b' e h1 _ _ => by injection e with e _; injection e with e; exact ma (e ▸ h1)) _ fin)
        rw [decide_eq_true ma]
        refine iteF ?_
        refine ⟨_, rfl, t, _, _, V.str b, rfl, rfl, SqT.of et, atI_nat (j := 1) rfl, _, rfl, W2, _, rfl, DGet.k (k := Sum.inr b) w2, _, rfl, ?_⟩
        rw [setD_val]
        by_cases mb : b ∈ p2.ms
        rotate_left
        · rw [decide_eq_false mb]
          exact iteT (kN (sf.bad hti fun a' b' e _ h2 _ => by injection e with _ e; injection e with e; exact mb (e ▸ h2)) _ fin)
        rw [decide_eq_true mb]
        refine iteF ?_
        refine ⟨_, rfl, _, rfl, d, _, rfl, DGet.t (k := k2 a b) ed et, _, rfl, ?_⟩
        rw [seen_val]
        by_cases mp : (a, b) ∈ ps
        · rw [decide_eq_true mp]
          exact iteT (kN (sf.bad hti fun a' b' e _ _ n => by injection e with e1 e2; injection e1 with e1; injection e2 with e2; exact n (e1 ▸ e2 ▸ mp)) _ fin)
        rw [decide_eq_false mp]
        refine iteF ?_
        have few : ps.length ≤ 1000 := by
          have := congrArg List.length sf.1
          rw [List.length_take, List.length_map] at this
          omega
        refine ⟨_, rfl, _, rfl, d, upd H7 d (.dT (seenL (ps ++ [(a, b)]))), rfl, ?_, ?_⟩
        · rw [← seen_snoc mp]
          refine DPut.t (k := k2 a b) ed et ?_
          unfold seenL
          rw [List.length_map, sizeLine_eq]
          omega
        · exact ⟨_, _, ps ++ [(a, b)], rfl, fun b o n e => by rw [upd_ne n]; exact st' b o n e, upd_same, sf.snoc hti ma mb mp⟩
    · obtain ⟨v6, v7, ps, rfl, st, ed, sf⟩ := h
      have ei : its = ps.map twP := by
        have := sf.1
        rw [el, List.take_length] at this
        exact this
      exact ⟨_, rfl, kY ps (by rw [ei]) sf.2 (by rw [ei, List.length_map] at el; omega) d H5 hd0 (fun b o e => st b o (fd' b o e) (sB b o e)) ed⟩
end
end My
namespace My
open PySem PySem.Spec PyProof.Rows L2 PySem.GX L2H LamX
def spWithin (C : Addr) : Sp := fun vs H Q _ => ∃ (t1 t2 : Str) (p1 p2 : Parts) (v : V) (o : Option (List Itm)), vs = [.str t1, .str t2, v] ∧ t1.length ≤ 1000000 ∧ PyData.strOk t1 = true ∧ parseL t1 = some p1 ∧ t2.length ≤ 1000000 ∧ PyData.strOk t2 = true ∧ parseL t2 = some p2 ∧ Pap H v o ∧
  ∀ (b : Bool) (H' : Hp), Same H H' → (b = true ↔ Holds p1 p2 o) → Q (.bl b) H'
theorem walk_seen {d : Addr} {od : Obj} {qs : List (Str × Str)} : Walk (Itkt d od (seenL qs)) qs.length (fun H => H d = some (.frz od (.dT (seenL qs)))) (fun i H x H' => H' = H ∧ ∃ (ab : Str × Str) (q : Addr), qs[i]? = some ab ∧ x = .ref q ∧ H q = some (.tup [.str ab.1, .str ab.2])) := by
  have w := walk_keysT (d := d) (o := od) (kvs := seenL qs)
  rw [seen_len] at w
  refine ⟨w.goes, w.stops, fun i H x H' hi hG hy => ?_⟩
  obtain ⟨rfl, k, v, q, e1, e2, e3⟩ := w.yields i H x H' hi hG hy
  have hm : qs[i]? = some qs[i] := List.getElem?_eq_getElem hi
  obtain rfl := seen_get e1 hm
  exact ⟨rfl, _, q, hm, e2, e3⟩
/-- all goals of the pairs are pairs -/
def tAllW (C : Addr) : TE := fun σ H Q => ∃ (x0 x1 x2 x3 x7 x8 x9 x10 x11 : Option V) (a1 a2 d dx1 M1 G1 D1 dx2 M2 G2 D2 : Addr) (t1 t2 : Str) (p1 p2 : Parts) (qs : List (Str × Str)), σ = [x0, x1, x2, x3, some (.ref a1), some (.ref a2), some (.ref d), x7, x8, x9, x10, x11] ∧
  H a1 = some (.ins C dx1 (rFs t1 p1 M1 G1 D1)) ∧ H D1 = some (.dT (goalsD p1.rs)) ∧ H a2 = some (.ins C dx2 (rFs t2 p2 M2 G2 D2)) ∧ H D2 = some (.dT (goalsD p2.rs)) ∧ D1 ≠ d ∧ D2 ≠ d ∧ H d = some (.dT (seenL qs)) ∧ PartsOk p1 ∧ PartsOk p2 ∧ GoodP p1 p2 qs ∧ qs.length ≤ 1000 ∧ p1.sg = p2.sg ∧
  ∀ (b : Bool) (H' : Hp), Same H H' → (b = true ↔ ∀ ab ∈ qs, ∀ c ∈ p1.sg.cps.toList, (ledL p1 ab.1 c, ledL p2 ab.2 c) ∈ qs) → Q (.bl b) H'
section
variable {P : Program} {w : World} {K : PySem.W.Frag} {mg : Str → Option Value} {base : Heap}
abbrev nWi : List Str := ["one", "other", "paper", "rules", "left", "right", "pairs", "good", "others", "p", "q", "sign"]
theorem scWi : FnScope nWi ["one", "other", "paper"] (defScope sWithin) := ⟨rfl, rfl, rfl, by decide +kernel, rfl, by decide +kernel, by decide +kernel⟩
theorem ok_within {f C : Addr} {fd : FuncData} (F : Fun K "shows_within" "shows_within" sWithin f fd) (T : RuC K C) (hTw : Hv P w K mg base 8 "two_rules" ["one", "other"] (spTwoR C)) (hRp : Hv P w K mg base 3 "read_pairs" ["one", "other", "paper"] (spReadP C)) (hAs : Hv P w K mg base 1 "as_set" ["words"] spAsSet)
    (pM : PrF P w K mg base C "moods" "words") (pG : PrF P w K mg base C "good" "chosen") (pS : PrF P w K mg base C "signs" "letters") (hAny : mg "any" = none) (hAll : mg "all" = none) : FnOk P w K mg base CX0 9 f fd ["one", "other", "paper"] (spWithin C) := by
  obtain ⟨ppM, gpM, fdM, PM, GM, bM⟩ := pM
  obtain ⟨ppG, gpG, fdG, PG', GG, bG⟩ := pG
  obtain ⟨ppS, gpS, fdS, PS', GS, bS⟩ := pS
  refine F.ok scWi (fun vs H Q E h => ?_) (fun cdv A outer s H vs Q E hr h => ?_)
  · obtain ⟨t1, t2, p1, p2, v, o, rfl, _⟩ := h
    rfl
  · obtain ⟨t1, t2, p1, p2, v, o, rfl, zt1, ot1, pt1, zt2, ot2, pt2, hP, kk⟩ := h
    have hu := hu_of hr
    have hr1 : Room 1 (A.deeper (envOfC "shows_within" (defScope sWithin) s.heap.objs.size f cdv)) := hr.mono (by decide)
    have hr2 : Room 2 (A.deeper (envOfC "shows_within" (defScope sWithin) s.heap.objs.size f cdv)) := hr.mono (by decide)
    have hr3 : Room 3 (A.deeper (envOfC "shows_within" (defScope sWithin) s.heap.objs.size f cdv)) := hr.mono (by decide)
    refine ⟨_, pss_cons (ps_set (i := 3) scWi.nd rfl (Or.inl rfl) (pe_cl hTw hr rfl pass0 (pa_cons (pv 0) (pa_cons (pv 1) pa_nil))))
      (pss_cons (ps_if (pt_cmpR op_isN (pv 3) pe_non (nomark _)) (pss_one (ps_ret pe_bl)) pss_nil)
      (pss_cons (ps_asg (pv 3) (pg_tup rfl (pgs_cons (pg_name (i := 4) scWi.nd rfl (Or.inr rfl)) (pgs_cons (pg_name (i := 5) scWi.nd rfl (Or.inr rfl)) pgs_nil))))
      (pss_cons (ps_set (i := 6) scWi.nd rfl (Or.inr rfl) (pe_cl hRp hr3 rfl pass0 (pa_cons (pv 4) (pa_cons (pv 5) (pa_cons (pv 2) pa_nil)))))
      (pss_cons (ps_if (PW.pt (pw_or (pt_cmpR op_isN (pv 6) pe_non (nomark _)) (pw_or1 (pt_cmp (pc_dnotin hu (pe_tup (pa_cons (pe_ix ix_tup (pe_prop (pv 4) T.cl PM GM hr2 bM .nil pass0 (by rfl)) pe_int (fun _ _ => rfl)) (pa_cons (pe_ix ix_tup (pe_prop (pv 5) T.cl PM GM hr2 bM .nil pass0 (by rfl)) pe_int (fun _ _ => rfl)) pa_nil))) (pv 6)))))) (pss_one (ps_ret pe_bl)) pss_nil)
      (pss_cons (ps_asg (pe_tup (pa_cons (pe_cl hAs hr1 rfl pass0 (pa_cons (pe_prop (pv 4) T.cl PG' GG hr2 bG .nil pass0 (by rfl)) pa_nil)) (pa_cons (pe_cl hAs hr1 rfl pass0 (pa_cons (pe_prop (pv 5) T.cl PG' GG hr2 bG .nil pass0 (by rfl)) pa_nil)) pa_nil))) (pg_tup rfl (pgs_cons (pg_name (i := 7) scWi.nd rfl (Or.inr rfl)) (pgs_cons (pg_name (i := 8) scWi.nd rfl (Or.inr rfl)) pgs_nil))))
      (pss_cons (ps_if (pt_val (pe_callB (cr_any rfl) (by rfl) hAny (by decide +kernel) (pa_cons (pe_lock (pe_lc (own := [("p", 9), ("q", 10)]) (g := gTup K 2 (gCons (gName 9) (gCons (gName 10) gNil))) (tt := tYes) rfl scWi.nd (pi_keys (pv 6)) (blkOk_by (N := nWi) (sc := defScope sWithin) (by decide +kernel)) (fun _ _ _ _ _ => pg_tup rfl (pgs_cons (pg_name (i := 9) scWi.nd rfl (Or.inl rfl)) (pgs_cons (pg_name (i := 10) scWi.nd rfl (Or.inl rfl)) pgs_nil))) (fun _ _ _ _ _ => pts_nil)
          (fun _ _ _ _ _ => pe_and (pe_cmp (pc_din hu (pv 9) (pv 7))) (pe_one (pe_cmp (pc_dnotin hu (pv 10) (pv 8))))))) pa_nil))) (pss_one (ps_ret pe_bl)) pss_nil)
      (pss_one (ps_ret (PE_imp (t' := tAllW C) (pe_callB (cr_all rfl) (by rfl) hAll (by decide +kernel) (pa_cons (pe_lock (pe_lc2 (own := [("p", 9), ("q", 10), ("sign", 11)]) (vs1 := [11]) (g := gTup K 2 (gCons (gName 9) (gCons (gName 10) gNil))) (g1 := gName 11) (tt := tYes) (tt1 := tYes) rfl scWi.nd (pi_keys (pv 6)) (blkOk_by (N := nWi) (sc := defScope sWithin) (by decide +kernel)) (by decide) (fun _ _ _ _ _ => pg_tup rfl (pgs_cons (pg_name (i := 9) scWi.nd rfl (Or.inl rfl)) (pgs_cons (pg_name (i := 10) scWi.nd rfl (Or.inl rfl)) pgs_nil))) (fun _ _ _ _ _ => pts_nil)
          (fun _ _ _ _ _ => pi_str (pe_prop (pv 4) T.cl PS' GS hr2 bS .nil pass0 (by rfl))) (fun _ _ _ _ _ => pg_name (i := 11) scWi.nd rfl (Or.inl rfl)) (fun _ _ _ _ _ => pts_nil)
          (fun _ _ _ _ _ => pe_cmp (pc_din hu (pe_tup (pa_cons (pe_dget hu (pe_fldK (K := K) rfl (pv 4) rfl) (pe_tup (pa_cons (pv 9) (pa_cons (pv 11) pa_nil))) (fun _ _ => rfl)) (pa_cons (pe_dget hu (pe_fldK (K := K) rfl (pv 5) rfl) (pe_tup (pa_cons (pv 10) (pa_cons (pv 11) pa_nil))) (fun _ _ => rfl)) pa_nil))) (pv 6))))) pa_nil)) ?iAll))))))))), ?_⟩
    case iAll =>
      rintro σ H Q ⟨x0, x1, x2, x3, x7, x8, x9, x10, x11, a1, a2, d, dx1, M1, G1, D1, dx2, M2, G2, D2, t1, t2, p1, p2, qs, rfl, e1, ed1, e2, ed2, nD1, nD2, ed, ok1, ok2, gq, lq, hsg, kk⟩
      have n1 : a1 ≠ d := ne_of e1 ed (by intro z; cases z)
      have n2 : a2 ≠ d := ne_of e2 ed (by intro z; cases z)
      refine ⟨d, _, ed, trivial, fun od2 => ?_⟩
      have hcs : p1.sg.cps.toList.length = p1.sg.cps.size := Array.length_toList
      have hx3 : p1.sg.length ≤ 3 := by
        have := ok1.sgs
        rw [areS1] at this
        simp only [Bool.and_eq_true, decide_eq_true_eq] at this
        exact this.1.1.2
      refine ⟨_, rfl, d, od2, rfl, .inr ⟨_, upd_same, fun D hD => ?_⟩⟩
      have lk : ∀ {b : Addr} {o : HO}, b ≠ d → H b = some o → upd H d (.frz od2 (.dT (seenL qs))) b = some o := fun n e => by rw [upd_ne n]; exact e
      refine lc2G qs p1.sg.cps.toList (fun ab c => V.bl (decide ((ledL p1 ab.1 c, ledL p2 ab.2 c) ∈ qs))) walk_seen (by
        have : p1.sg.cps.toList.length ≤ 3 := by rw [hcs]; exact hx3
        have := Nat.mul_le_mul lq this
        omega) hD (fun i H x H' h => by rw [h.1]; exact Same.refl _) (fun H' s' => s' _ _ upd_same) (fun i ab y H' H'' Nx go hm sj hy inner => ?_) (fun H9 s9 e9 => ?_)
      · obtain ⟨rfl, ab', q, hk, rfl, hq⟩ := hy
        rw [hm] at hk
        obtain rfl := Option.some.inj hk
        have hin := gq.inn ab (List.mem_of_getElem? hm)
        have e1' := sj _ _ (lk n1 e1)
        refine ⟨q, _, rfl, SqT.of hq, rfl, _, _, rfl, _, _, rfl, rfl, rfl, ?_⟩
        refine ⟨_, rfl, a1, dx1, _, rfl, e1', a1, dx1, _, .str p1.sg, rfl, e1', rfl, p1.sg, rfl, ?_⟩
        refine inner (Its p1.sg) _ _ (fun _ => True) _ (Same.refl _) (by rw [hcs]; exact walk_str) (fun i H x H' h => by rw [h.1]; exact Same.refl _) (fun _ _ => trivial) (fun j c y H5 H6 k hc s5 hy k1 => ?_)
        obtain ⟨rfl, c', hc', rfl⟩ := hy
        rw [← Array.getElem?_toList, hc] at hc'
        obtain rfl := Option.some.inj hc'
        have hc1 : c ∈ p1.sg.cps.toList := List.mem_of_getElem? hc
        have hc2 : c ∈ p2.sg.cps.toList := by rw [← hsg]; exact hc1
        have g1 := (ok1.goal hin.1 hc1).2
        have g2 := (ok2.goal hin.2 hc2).2
        refine ⟨rfl, ?_⟩
        refine ⟨_, rfl, a1, C, dx1, _, .ref D1, rfl, s5 _ _ (lk n1 e1), T.cl, T.f5, rfl, _, rfl, _, rfl, (by show 2 ≤ sizeLine; decide), fun ta hta => ⟨D1, .str (ledL p1 ab.1 c), rfl, ?_, ?_⟩⟩
        · have := DGet.t (k := kT ab.1 c) (keep1 (s5 _ _ (lk nD1 ed1)) hta) (upd_same (o := .tup ((kT ab.1 c).map kV)))
          rw [g1] at this
          exact this
        have sa : Same H6 (upd H6 ta (.tup ((kT ab.1 c).map kV))) := same_new hta
        show ∃ _, _
        generalize eHn : upd H6 ta (.tup ((kT ab.1 c).map kV)) = Hn at sa
        have eHn' : upd H6 ta (.tup [.str ab.1, .str (sg c)]) = Hn := eHn
        rw [eHn']
        clear eHn eHn' hta
        refine ⟨_, rfl, a2, C, dx2, _, .ref D2, rfl, sa _ _ (s5 _ _ (lk n2 e2)), T.cl, T.f5, rfl, _, rfl, _, rfl, (by show 2 ≤ sizeLine; decide), fun tb htb => ⟨D2, .str (ledL p2 ab.2 c), rfl, ?_, ?_⟩⟩
        · have := DGet.t (k := kT ab.2 c) (keep1 (sa _ _ (s5 _ _ (lk nD2 ed2))) htb) (upd_same (o := .tup ((kT ab.2 c).map kV)))
          rw [g2] at this
          exact this
        refine ⟨(by show 2 ≤ sizeLine; decide), fun tc htc => ?_⟩
        have sb := (sa.trans (same_new htb)).trans (same_new (o := .tup [.str (ledL p1 ab.1 c), .str (ledL p2 ab.2 c)]) htc)
        have ec := upd_same (a := tc) (H := upd Hn tb (.tup [.str ab.2, .str (sg c)])) (o := .tup [.str (ledL p1 ab.1 c), .str (ledL p2 ab.2 c)])
        refine ⟨_, rfl, d, _, rfl, .inr ⟨_, k2 (ledL p1 ab.1 c) (ledL p2 ab.2 c), _, .inr ⟨od2, sb _ _ (s5 _ _ upd_same)⟩, rfl, ec, rfl⟩, ?_⟩
        rw [seen_val]
        exact k1 _ sb
      · have nDd : D ≠ d := (ne_of_none (upd_same (a := d) (H := H) (o := .frz od2 (.dT (seenL qs)))) hD).symm
        refine ⟨s9 _ _ upd_same, ?_⟩
        have ef : (qs.flatMap fun ab => p1.sg.cps.toList.map fun c => V.bl (decide ((ledL p1 ab.1 c, ledL p2 ab.2 c) ∈ qs))) = (qs.flatMap fun ab => p1.sg.cps.toList.map fun c => decide ((ledL p1 ab.1 c, ledL p2 ab.2 c) ∈ qs)).map V.bl := by
          rw [List.map_flatMap]
          simp only [List.map_map]
          rfl
        rw [ef] at e9
        refine ⟨D, _, rfl, SqL.of (by rw [upd_ne nDd]; exact e9), kk _ _ (unlock ed s9) ?_⟩
        rw [List.all_eq_true]
        constructor
        · intro h ab hab c hc
          have := h _ (List.mem_flatMap.mpr ⟨ab, hab, List.mem_map.mpr ⟨c, hc, rfl⟩⟩)
          exact of_decide_eq_true this
        · rintro h b hb
          obtain ⟨ab, hab, hb⟩ := List.mem_flatMap.mp hb
          obtain ⟨c, hc, rfl⟩ := List.mem_map.mp hb
          exact decide_eq_true (h ab hab c hc)
    have ok1 := parts_ok pt1
    have ok2 := parts_ok pt2
    refine ⟨_, rfl, _, rfl, t1, t2, p1, p2, rfl, zt1, ot1, pt1, zt2, ot2, pt2, fun hne H1 s1 => ?_, fun hsg Tt a1 a2 H1 s1 eT hA1 hA2 => ?_⟩
    · exact ⟨_, rfl, rfl, _, rfl, iteT (kk false _ s1 ⟨(fun z => by cases z), fun z => absurd z.1 hne⟩)⟩
    refine ⟨_, rfl, rfl, _, rfl, iteF ?_⟩
    refine ⟨_, rfl, Tt, _, rfl, SqT.of eT, rfl, _, _, rfl, _, _, rfl, rfl, ?_⟩
    refine ⟨_, rfl, _, rfl, _, rfl, a1, a2, t1, t2, p1, p2, v, o, rfl, hA1, hA2, ok1, ok2, hP.same s1, fun nb H2 s2 => ?_, fun qs eo gq lq d H2 nd s2 ed => ?_⟩
    · exact ⟨_, rfl, rfl, _, rfl, iteT (kk false _ (s1.trans s2) ⟨(fun z => by cases z), fun z => absurd z (no_holds nb)⟩)⟩
    have sA := s1.trans s2
    obtain ⟨dx1, M1, G1, D1, e1, em1, eg1, ed1⟩ := id hA1
    obtain ⟨dx2, M2, G2, D2, e2, em2, eg2, ed2⟩ := id hA2
    have fr : ∀ b o, H1 b = some o → b ≠ d := fun b o e => ne_of_none e nd
    have nD1 := fr _ _ ed1
    have nD2 := fr _ _ ed2
    have n1 := fr _ _ e1
    have n2 := fr _ _ e2
    have e1 := s2 _ _ e1
    have em1 := s2 _ _ em1
    have eg1 := s2 _ _ eg1
    have ed1 := s2 _ _ ed1
    have e2 := s2 _ _ e2
    have em2 := s2 _ _ em2
    have eg2 := s2 _ _ eg2
    have ed2 := s2 _ _ ed2
    clear hA1 hA2 fr nd
    obtain ⟨ms1, ex1⟩ := ok1.first
    obtain ⟨ms2, ex2⟩ := ok2.first
    have ef1 : (p1.ms.map V.str)[0]? = some (.str (firstL p1)) := by rw [ex1]; rfl
    have ef2 : (p2.ms.map V.str)[0]? = some (.str (firstL p2)) := by rw [ex2]; rfl
    refine ⟨_, rfl, rfl, _, rfl, iteF ?_⟩
    refine ⟨_, rfl, a1, dx1, _, rfl, e1, a1, dx1, _, .ref M1, rfl, e1, rfl, M1, _, _, V.str (firstL p1), rfl, rfl, SqT.of em1, atI_nat (j := 0) ef1, _, rfl, a2, dx2, _, rfl, e2, a2, dx2, _, .ref M2, rfl, e2, rfl, M2, _, _, V.str (firstL p2), rfl, rfl, SqT.of em2, atI_nat (j := 0) ef2, (by show 2 ≤ sizeLine; decide), fun ta hta => ?_⟩
    refine ⟨_, rfl, d, _, rfl, DGet.t (k := k2 (firstL p1) (firstL p2)) (keep1 ed hta) upd_same, _, rfl, ?_⟩
    rw [seen_val]
    have s3 : Same H2 (upd H2 ta (.tup [.str (firstL p1), .str (firstL p2)])) := same_new hta
    generalize upd H2 ta (.tup [.str (firstL p1), .str (firstL p2)]) = H3 at s3 ⊢
    have sB := sA.trans s3
    have ed := s3 _ _ ed
    have e1 := s3 _ _ e1
    have eg1 := s3 _ _ eg1
    have ed1 := s3 _ _ ed1
    have e2 := s3 _ _ e2
    have eg2 := s3 _ _ eg2
    have ed2 := s3 _ _ ed2
    clear hta s3 sA s1 s2 eT em1 em2
    by_cases mf : (firstL p1, firstL p2) ∈ qs
    rotate_left
    · rw [decide_eq_false mf]
      exact iteT (kk false _ sB ⟨(fun z => by cases z), fun z => absurd ((holds_iff hsg eo gq).mp z).2.2 mf⟩)
    rw [decide_eq_true mf]
    refine iteF ?_
    have zg : ∀ p : Parts, PartsOk p → p.gs.length ≤ 16000000 := fun p ok => by
      have h1 := ok.mds
      unfold areMoodsL at h1
      simp only [Bool.and_eq_true, decide_eq_true_eq] at h1
      have h2 := ok.gds
      unfold areGoodL at h2
      have h3 : p.gs.length ≤ p.ms.length := by
        rw [of_decide_eq_true h2]
        exact List.length_filter_le _ _
      omega
    refine ⟨_, rfl, a1, dx1, _, rfl, e1, a1, dx1, _, .ref G1, rfl, e1, rfl, G1, p1.gs, rfl, eg1, zg _ ok1, fun W1 H4 s4 w1 => ?_⟩
    refine ⟨_, rfl, a2, dx2, _, rfl, s4 _ _ e2, a2, dx2, _, .ref G2, rfl, s4 _ _ e2, rfl, G2, p2.gs, rfl, s4 _ _ eg2, zg _ ok2, fun W2 H5 s5 w2 => ⟨by show 2 ≤ sizeLine; decide, fun tb htb => ⟨tb, _, rfl, SqT.of upd_same, rfl, _, _, rfl, _, _, rfl, rfl, ?_⟩⟩⟩
    have s6 : Same H5 (upd H5 tb (.tup [.ref W1, .ref W2])) := same_new htb
    generalize upd H5 tb (.tup [.ref W1, .ref W2]) = H6 at s6 ⊢
    have w1 := s6 _ _ (s5 _ _ w1)
    have w2 := s6 _ _ w2
    have s7 := (s4.trans s5).trans s6
    have sC := sB.trans s7
    have ed := s7 _ _ ed
    have e1 := s7 _ _ e1
    have ed1 := s7 _ _ ed1
    have e2 := s7 _ _ e2
    have ed2 := s7 _ _ ed2
    clear htb s4 s5 s6 s7 eg1 eg2 sB
    have nW1 : W1 ≠ d := ne_of w1 ed (by intro z; cases z)
    have nW2 : W2 ≠ d := ne_of w2 ed (by intro z; cases z)
    refine ⟨d, _, ed, trivial, fun od => ?_⟩
    refine ⟨_, rfl, d, od, rfl, .inr ⟨_, upd_same, fun D hD => ?_⟩⟩
    refine lcG qs (fun ab => some (V.bl (decide (ab.1 ∈ p1.gs) && !decide (ab.2 ∈ p2.gs)))) walk_seen (by omega) hD (fun i H x H' h => by rw [h.1]; exact Same.refl _) (fun H' s' => s' _ _ upd_same) (fun i ab y H' H'' k1 hm sj hy k2 => ?_) (fun H7 s7 e7 => ?_)
    · obtain ⟨rfl, ab', q, hk, rfl, hq⟩ := hy
      rw [hm] at hk
      obtain rfl := Option.some.inj hk
      have k2 := k2 _ (Same.refl _)
      refine ⟨q, _, rfl, SqT.of hq, rfl, _, _, rfl, _, _, rfl, rfl, rfl, ?_⟩
      refine ⟨_, rfl, _, rfl, W1, _, rfl, DGet.k (k := Sum.inr ab.1) (sj _ _ (by rw [upd_ne nW1]; exact w1)), _, rfl, ?_⟩
      rw [setD_val]
      cases h1 : decide (ab.1 ∈ p1.gs) with
      | false =>
        rw [h1, Bool.false_and] at k2
        exact iteF k2
      | true =>
        rw [h1, Bool.true_and] at k2
        refine iteT ?_
        refine ⟨_, rfl, _, rfl, W2, _, rfl, DGet.k (k := Sum.inr ab.2) (sj _ _ (by rw [upd_ne nW2]; exact w2)), ?_⟩
        rw [setD_val]
        exact k2
    have nDd : D ≠ d := (ne_of_none (upd_same (a := d) (H := H6) (o := .frz od (.dT (seenL qs)))) hD).symm
    refine ⟨s7 _ _ upd_same, ?_⟩
    rw [List.filterMap_eq_map', ← Function.comp_def, ← List.map_map] at e7
    have sD := sC.trans (unlock ed s7)
    refine ⟨D, qs.map fun ab => decide (ab.1 ∈ p1.gs) && !decide (ab.2 ∈ p2.gs), rfl, SqL.of (by rw [upd_ne nDd]; exact e7), _, rfl, ?_⟩
    have ed8 := upd_same (a := d) (H := H7) (o := .dT (seenL qs))
    have s8 := unlock ed s7
    generalize upd H7 d (.dT (seenL qs)) = H8 at s8 ed8 sD ⊢
    have e1 := s8 _ _ e1
    have ed1 := s8 _ _ ed1
    have e2 := s8 _ _ e2
    have ed2 := s8 _ _ ed2
    clear hD s7 s8 e7 w1 w2 sC ed nDd
    refine ite2 (fun c => ?_) (fun c => ?_)
    · refine kk false _ sD ⟨(fun z => by cases z), fun z => ?_⟩
      have h1 := ((holds_iff hsg eo gq).mp z).1
      obtain ⟨x, hx, hx2⟩ := List.any_eq_true.mp c
      obtain ⟨ab, hab, rfl⟩ := List.mem_map.mp hx
      simp only [id, Bool.and_eq_true, Bool.not_eq_true', decide_eq_true_eq, decide_eq_false_iff_not] at hx2
      exact absurd (h1 ab hab hx2.1) hx2.2
    have hgood : ∀ ab ∈ qs, ab.1 ∈ p1.gs → ab.2 ∈ p2.gs := fun ab hab h1 => by
      apply Classical.byContradiction
      intro h2
      exact c (List.any_eq_true.mpr ⟨_, List.mem_map.mpr ⟨ab, hab, rfl⟩, by simp [h1, h2]⟩)
    clear c
    exact ⟨_, _, _, _, _, _, _, _, _, a1, a2, d, dx1, M1, G1, D1, dx2, M2, G2, D2, t1, t2, p1, p2, qs, rfl, e1, ed1, e2, ed2, nD1, nD2, ed8, ok1, ok2, gq, lq, hsg, fun b H' s' hb => kk b H' (sD.trans s') (by
      rw [holds_iff hsg eo gq, hb]
      exact ⟨fun h => ⟨hgood, h, mf⟩, fun h => h.2.1⟩)⟩
end
end My
namespace My
open PySem PySem.Spec PyProof.Rows L2 PySem.GX L2H LamX
def spAccW (C : Addr) : Sp := fun vs H Q _ => ∃ (c : Addr) (t1 t2 : Str) (p1 p2 : Parts) (v : V) (o : Option (List Itm)), vs = [.ref c, v] ∧ H c = some (.tup [.str "within", .str t1, .str t2]) ∧ t1.length ≤ 1000000 ∧ PyData.strOk t1 = true ∧ parseL t1 = some p1 ∧ t2.length ≤ 1000000 ∧ PyData.strOk t2 = true ∧ parseL t2 = some p2 ∧ Pap H v o ∧
  ∀ (b : Bool) (H' : Hp), Same H H' → (b = true ↔ Holds p1 p2 o) → Q (.bl b) H'
section
variable {P : Program} {w : World} {K : PySem.W.Frag} {mg : Str → Option Value} {base : Heap}
abbrev nAcc : List Str := ["claim", "paper", "check"]
theorem scAcc : FnScope nAcc ["claim", "paper"] (defScope sAccepts) := ⟨rfl, rfl, rfl, by decide +kernel, rfl, by decide +kernel, by decide +kernel⟩
theorem ok_accW {f C aC fN : Addr} {fd fdN : FuncData} {es : Array DictEntry} {n : Nat} (F : Fun K "accepts" "accepts" sAccepts f fd) (D : KDict K w aC es n) (gC : mg "CLAIMS" = some (.ref aC)) (eC : PySem.W.nsIn K aC "within" = some (some (.ref fN)))
    (GN : FnOk P w K mg base CX0 9 fN fdN ["one", "other", "paper"] (spWithin C)) (kN : PySem.W.keepIn K (.ref fN) = true) (bN : Binds K fdN ["one", "other", "paper"] [])
    (hIs : mg "isinstance" = none) (hSt : mg "str" = none) (hTu : mg "tuple" = none) (hL : mg "len" = none) : FnOk P w K mg base CX0 10 f fd ["claim", "paper"] (spAccW C) := by
  refine F.ok scAcc (fun vs H Q E h => ?_) (fun cdv A outer s H vs Q E hr h => ?_)
  · obtain ⟨c, t1, t2, p1, p2, v, o, rfl, _⟩ := h
    rfl
  · obtain ⟨c, t1, t2, p1, p2, v, o, rfl, ec, rest⟩ := h
    refine ⟨_, pss_cons (ps_if (pt_not (PW.pt (pw_and (pt_val (pe_callB call_isi (by rfl) hIs (by decide +kernel) (pa_cons (pv 0) (pa_cons (pe_bltn (v := .ty "tuple") (by rfl) hTu (by decide +kernel) rfl) pa_nil)))) (pw_and (pt_cmpR op_eq (pe_callB call_len_seq (by rfl) hL PySem.boot_len (pa_cons (pv 0) pa_nil)) pe_int (nomark _)) (pw_and (pt_val (pe_callB call_isi (by rfl) hIs (by decide +kernel) (pa_cons (pe_ix ix_tup (pv 0) pe_int (fun _ _ => rfl)) (pa_cons (pe_bltn (v := .ty "str") (by rfl) hSt (by decide +kernel) rfl) pa_nil)))) (pw_and1 (pt_cmpR (op_in_kd D) (pe_ix ix_tup (pv 0) pe_int (fun _ _ => rfl)) (pe_glob (v := .ref aC) rfl gC rfl) (by rfl)))))))) (pss_one (ps_ret pe_bl)) pss_nil)
      (pss_cons (ps_set (i := 2) scAcc.nd rfl (Or.inl rfl) (pe_ix ix_kdict (pe_glob (v := .ref aC) rfl gC rfl) (pe_ix ix_tup (pv 0) pe_int (fun _ _ => rfl)) (fun _ _ => rfl)))
      (pss_one (ps_ret (pe_callL (i := 2) GN hr rfl (.inl rfl) kN bN .nil pass0 (pa_cons (pe_ix ix_tup (pv 0) pe_int (fun _ _ => rfl)) (pa_cons (pe_ix ix_tup (pv 0) pe_int (fun _ _ => rfl)) (pa_cons (pv 1) pa_nil))))))), ?_⟩
    refine ⟨_, rfl, .ref c, .ty "tuple", _, .type "tuple", true, rfl, .ty _, .base (.tup ec), kit_ty (by decide +kernel), _, rfl, iteT ?_⟩
    refine ⟨_, rfl, c, _, rfl, .inr (SqT.of ec), rfl, _, rfl, iteT ?_⟩
    refine ⟨_, rfl, c, _, _, V.str "within", rfl, rfl, SqT.of ec, atI_nat (j := 0) rfl, .str "within", .ty "str", _, .type "str", true, rfl, .ty _, .base (.str "within"), kit_ty (by decide +kernel), _, rfl, iteT ?_⟩
    refine ⟨_, rfl, c, _, _, V.str "within", rfl, rfl, SqT.of ec, atI_nat (j := 0) rfl, "within", some (.ref fN), rfl, rfl, eC, _, rfl, iteF ?_⟩
    refine ⟨_, rfl, c, _, _, V.str "within", rfl, rfl, SqT.of ec, atI_nat (j := 0) rfl, aC, "within", .ref fN, rfl, rfl, ⟨es, n, .ref fN, D.at_, D.lit, eC, rfl⟩, ?_⟩
    exact ⟨rfl, _, rfl, c, _, _, V.str t1, rfl, rfl, SqT.of ec, atI_nat (j := 1) rfl, _, rfl, c, _, _, V.str t2, rfl, rfl, SqT.of ec, atI_nat (j := 2) rfl, _, rfl, t1, t2, p1, p2, v, o, rfl, rest⟩
end
end My
set_option pp.maxSteps 1500
namespace My
open PySem PySem.Spec PyProof.Rows L2 PySem.GX L2H NdefX LamX
/-! the law: whether both certificates are right -/
theorem PSs_imp4 {X : Cx} {ss : List Stmt} {t t' : TS} (h : PSs X ss t) (m : ∀ D σ H, t' D σ H → t D σ H) : PSs X ss t' := ⟨fun pins s σ H D I q => h.run pins s σ H D I (m D σ H q)⟩
def spMate4 : Sp := fun vs H Q _ => ∃ (p q : Addr) (x : Str) (ws fs : List Str) (kvs : List (List Key × V)), vs = [.ref p, .ref q] ∧ Wl H p ∧ BxAt H q x ws fs kvs ∧ Fine x ws fs kvs ∧ ws.length ≤ 5 ∧
  ∀ (q' : Addr) (ws' fs' : List Str) (kvs' : List (List Key × V)) (H' : Hp), Fine x ws' fs' kvs' → ws'.length ≤ 10 → BxAt H' q' x ws' fs' kvs' → Sb p H H' → Wl H' p → Q (.ref q') H'
theorem BxF.ext4 {H H' : Hp} {q : Addr} {p : Parts} {ws : List Str} (h : BxF H q p ws) (s : ExtN H H') : BxF H' q p ws := by
  obtain ⟨lw, lf, g, kvs, a, b, c, d, e⟩ := h
  exact ⟨lw, lf, g, kvs, s _ _ a (fun _ z => by cases z), s _ _ b (fun _ z => by cases z), s _ _ c (fun _ z => by cases z), s _ _ d (fun _ z => by cases z), e⟩
theorem BxAt.ext4 {H H' : Hp} {q : Addr} {x : Str} {ws fs : List Str} {kvs : List (List Key × V)} (h : BxAt H q x ws fs kvs) (s : ExtN H H') : BxAt H' q x ws fs kvs := by
  obtain ⟨lw, lf, g, a, b, c, d⟩ := h
  exact ⟨lw, lf, g, s _ _ a (fun _ z => by cases z), s _ _ b (fun _ z => by cases z), s _ _ c (fun _ z => by cases z), s _ _ d (fun _ z => by cases z)⟩
/-- a text that is a rule's -/
def Tx4 (t : Str) (p : Parts) : Prop := t.length ≤ 1000000 ∧ PyData.strOk t = true ∧ parseL t = some p
/-- all that stands -/
structure B74 (H : Hp) (C : Addr) (Tb : List (Addr × Str)) (q1 q2 lw y y' : Addr) (t1 t2 : Str) (p1 p2 : Parts) : Prop where
  tb : Tabs Tb H
  el : H lw = some (.lst [.str t1, .str t2])
  r1 : RuleAt H C y t1 p1
  r2 : RuleAt H C y' t2 p2
  ok1 : PartsOk p1
  ok2 : PartsOk p2
  es : p1.sg = p2.sg
  b1 : BxF H q1 p1 p1.ms
  b2 : BxF H q2 p2 p2.ms
  z1 : p1.ms.length ≤ 10
  z2 : p2.ms.length ≤ 10
  x1 : Tx4 t1 p1
  x2 : Tx4 t2 p2
theorem B74.ext {H H' : Hp} {C : Addr} {Tb : List (Addr × Str)} {q1 q2 lw y y' : Addr} {t1 t2 : Str} {p1 p2 : Parts} (h : B74 H C Tb q1 q2 lw y y' t1 t2 p1 p2) (s : ExtN H H') (t : Tabs Tb H') : B74 H' C Tb q1 q2 lw y y' t1 t2 p1 p2 :=
  ⟨t, s _ _ h.el (fun _ z => by cases z), h.r1.ext s, h.r2.ext s, h.ok1, h.ok2, h.es, h.b1.ext4 s, h.b2.ext4 s, h.z1, h.z2, h.x1, h.x2⟩
theorem B74.same {H H' : Hp} {C : Addr} {Tb : List (Addr × Str)} {q1 q2 lw y y' : Addr} {t1 t2 : Str} {p1 p2 : Parts} (h : B74 H C Tb q1 q2 lw y y' t1 t2 p1 p2) (s : Same H H') : B74 H' C Tb q1 q2 lw y y' t1 t2 p1 p2 := h.ext (ext_of s) (h.tb.ext s)
/-- from the second certificate on -/
def tRestW (C : Addr) (Tb : List (Addr × Str)) : TS := fun D σ H => ∃ (q1 q2 lw y y' : Addr) (t1 t2 : Str) (p1 p2 : Parts) (v5 : V), σ = [some (.ref q1), some (.ref q2), some (.ref lw), some (.ref y), some (.ref y'), some v5] ∧ B74 H C Tb q1 q2 lw y y' t1 t2 p1 p2 ∧ ∀ H', ExtN H H' → Tabs Tb H' → D.rt (.bl true) H'
def spTold (C : Addr) (Tb : List (Addr × Str)) : Sp := fun vs H Q _ => ∃ (q1 q2 : Addr) (x : Str) (ws1 fs1 : List Str) (kv1 : List (List Key × V)) (ws2 fs2 : List Str) (kv2 : List (List Key × V)), vs = [.ref q1, .ref q2] ∧ Tabs Tb H ∧ Fine x ws1 fs1 kv1 ∧ Fine x ws2 fs2 kv2 ∧ BxAt H q1 x ws1 fs1 kv1 ∧ BxAt H q2 x ws2 fs2 kv2 ∧ ws1.length ≤ 10 ∧ ws2.length ≤ 10 ∧ ∀ H', ExtN H H' → Tabs Tb H' → Q (.bl true) H'
theorem ftWd_ap : ftWd "apart" = ftNe := if_pos rfl
theorem ftWd_out : ftWd "outside" = ftAn := if_neg (by decide)
theorem eqv3 (w a b : Str) : PyData.eqv (.tuple [.str w, .str a, .str b]) (.tuple [.str w, .str a, .str b]) = true := by
  simp [PyData.eqv, PyData.eqvAll]
theorem shaped3 {w a b : Str} (hw : PyData.strOk w = true) (ha : PyData.strOk a = true) (hb : PyData.strOk b = true) : SeqAt.shaped (.tuple [.str w, .str a, .str b]) = true := by
  unfold SeqAt.shaped
  simp only [PyData.canLay0, PyData.canLayAll0, PyData.depth, PyData.depthAll, hw, ha, hb]
  rfl
theorem dp3 {K : PySem.W.Frag} {H : Hp} {c : Addr} {w a b : Str} (e : H c = some (.tup [.str w, .str a, .str b])) : Dp K H (.ref c) (.tuple [.str w, .str a, .str b]) := .tup (SqT.of e) (.cons (.str _) (.cons (.str _) (.cons (.str _) .nil)))
theorem alike_in {p1 p2 : Parts} (h : Shows p1 p2 ftNe none) {o : Option Row} (g : Shows p1 p2 ftAn o) : o = none := by
  cases o with
  | none => rfl
  | some r =>
    have h1 : ¬ ftNe (goodOf p1 r) (goodOf p2 r) = true := h r g.inn
    have h2 : ftAn (goodOf p1 r) (goodOf p2 r) = true := g.is
    exfalso
    revert h1 h2
    cases goodOf p1 r <;> cases goodOf p2 r <;> decide
theorem shows_row {p1 p2 : Parts} {ft : Bool → Bool → Bool} {r : Row} (h : Shows p1 p2 ft (some r)) : InS p1 ⟨r.toArray⟩ ∧ ft (goodL p1 ⟨r.toArray⟩) (goodL p2 ⟨r.toArray⟩) = true := by
  refine ⟨fun c hc => h.inn c (by simpa using hc), ?_⟩
  have := h.is
  unfold goodOf at this
  unfold goodL
  exact this
theorem pap_of {p1 p2 : Parts} {H : Hp} {pt : Addr} {as : List Addr} {ps : List (Str × Str)} (ep : H pt = some (.tup (as.map V.ref))) (pr : Pr2 H as ps) (l : ps.length ≤ 1000) : Pap H (.ref pt) (some (ps.map twP)) := by
  have hl := pr.len
  refine .inl ⟨pt, as.map V.ref, ps.map twP, rfl, rfl, ep, by rw [List.length_map, List.length_map, hl], by rw [List.length_map]; omega, fun i x it a b => ?_⟩
  rw [List.getElem?_map] at a b
  obtain ⟨u, hu, rfl⟩ := Option.map_eq_some_iff.mp a
  obtain ⟨ab, hab, rfl⟩ := Option.map_eq_some_iff.mp b
  obtain ⟨ab', hab', e⟩ := pr.get hu
  obtain rfl : ab = ab' := Option.some.inj (hab.symm.trans hab')
  exact .two e (.tx _) (.tx _)
structure R74 (P : Program) (w : World) (K : PySem.W.Frag) (mg : Str → Option Value) (base : Heap) (C : Addr) (Tb : List (Addr × Str)) : Prop where
  hTx : Hv P w K mg base 1 "_law_text" ["_law_box_here"] spTextB
  hFi : Hv P w K mg base 1 "_law_first" ["_law_one_box", "_law_two_box", "_law_word"] spFirstQ
  hIA : Hv P w K mg base 3 "_law_is_apart" ["_law_box_here", "_law_mate_here", "_law_slip"] spLIsA
  hIW : Hv P w K mg base 1 "_law_is_within" ["_law_box_here", "_law_mate_here", "_law_slip"] spLIsW
  hCA : Hv P w K mg base 6 "certify_apart" ["one", "other"] (spCertA K P w mg base Tb C)
  hAA : Hv P w K mg base 10 "accepts" ["claim", "paper"] (spAccA C)
  hAW : Hv P w K mg base 10 "accepts" ["claim", "paper"] (spAccW C)
  cw : ∃ fW fdW, FnOk P w K mg base CX0 6 fW fdW ["one", "other"] (spCertW K P w mg base Tb C) ∧ Binds K fdW ["one", "other"] [] ∧ mg "certify_within" = some (.ref fW) ∧ PySem.W.keepIn K (.ref fW) = true ∧ KBn K fdW ["one", "other"] 0 ["other", "one"] (fun _ ws => ws.reverse) (fun _ zs => zs.reverse)
  ru : ∃ fU fdU, Mk K C fU ∧ FnOk P w K mg base CX0 5 fU fdU ["self", "text"] (spInit C) ∧ Binds K fdU ["self", "text"] [] ∧ mg "Rule" = some (.ref C)
  hIs : mg "isinstance" = none
  hTu : mg "tuple" = none
  hL : mg "len" = none
section
variable {P : Program} {w : World} {K : PySem.W.Frag} {mg : Str → Option Value} {base : Heap} {C : Addr} {Tb : List (Addr × Str)}
abbrev nMate4 : List Str := ["_law_purse_here", "_law_box_here", "_law_way"]
theorem scMate4 : FnScope nMate4 ["_law_purse_here", "_law_box_here"] (defScope sMate) := ⟨rfl, rfl, rfl, by decide +kernel, rfl, by decide +kernel, by decide +kernel⟩
theorem ok_mate4 {f : Addr} {fd : FuncData} (F : Fun K "_law_mate" "_law_mate" sMate f fd) (hP : Hv P w K mg base 1 "_law_pick" ["_law_purse_here", "_law_size"] spPk) (hBx : Hv P w K mg base 3 "_law_box" ["_law_purse_here", "_law_letters_here"] spBox)
    (hTw : Hv P w K mg base 2 "_law_twins" ["_law_purse_here", "_law_box_here"] spTwins) (hWi : Hv P w K mg base 2 "_law_wider" ["_law_purse_here", "_law_box_here"] spWider) : FnOk P w K mg base CX0 4 f fd ["_law_purse_here", "_law_box_here"] spMate4 := by
  refine F.ok scMate4 (fun vs H Q E h => ?_) (fun cdv A outer s H vs Q E hr h => ?_)
  · obtain ⟨p, q, x, ws, fs, kvs, rfl, _⟩ := h
    rfl
  · obtain ⟨p, q, x, ws, fs, kvs, rfl, hW, hB, fine, w5, k⟩ := h
    have hr1 : Room 1 (A.deeper (envOfC "_law_mate" (defScope sMate) s.heap.objs.size f cdv)) := hr.mono (by decide)
    have hr2 : Room 2 (A.deeper (envOfC "_law_mate" (defScope sMate) s.heap.objs.size f cdv)) := hr.mono (by decide)
    refine ⟨_, pss_cons (ps_set (i := 2) scMate4.nd rfl (Or.inl rfl) (pe_cl hP hr1 rfl pass0 (pa_cons (pv 0) (pa_cons pe_int pa_nil))))
      (pss_cons (ps_if (pt_cmpR op_eq (pv 2) pe_int (nomark _)) (pss_one (ps_ret (pe_cl hTw hr2 rfl pass0 (pa_cons (pv 0) (pa_cons (pv 1) pa_nil))))) pss_nil)
      (pss_one (ps_ret (pe_ifExp (pt_cmpR op_eq (pv 2) pe_int (nomark _)) (pe_cl hWi hr2 rfl pass0 (pa_cons (pv 0) (pa_cons (pv 1) pa_nil))) (pe_cl hBx hr rfl pass0 (pa_cons (pv 0) (pa_cons (pe_ix ix_tup (pv 1) pe_int (fun _ _ => rfl)) pa_nil))))))), ?_⟩
    refine ⟨_, rfl, p, 3, rfl, hW, by decide, by decide, fun d H1 d0 d1 s1 hW1 => ?_⟩
    have hB1 := hB.sb hW s1
    refine ⟨_, rfl, rfl, _, rfl, ite2 (fun c => ?_) (fun c => ?_)⟩
    · exact ⟨_, rfl, _, rfl, p, q, x, ws, fs, kvs, rfl, hW1, hB1, fine, w5, fun q' ws' fs' kvs' H' fi' l' sb w' b' => k q' ws' fs' kvs' H' fi' l' b' (s1.trans sb) w'⟩
    refine ⟨_, rfl, rfl, _, rfl, ite2 (fun c => ?_) (fun c => ?_)⟩
    · exact ⟨_, rfl, _, rfl, p, q, x, ws, fs, kvs, rfl, hW1, hB1, fine, w5, fun q' fs' H' fi' sb w' b' => k q' ws fs' kvs H' fi' (by omega) b' (s1.trans sb) w'⟩
    obtain ⟨lw, lf, g, eq, _⟩ := id hB1
    exact ⟨_, rfl, _, rfl, q, _, _, V.str x, rfl, rfl, SqT.of eq, atI_nat (j := 0) rfl, p, x, rfl, hW1, fine.sgs, fun q' ws' fs' kvs' H3 fi' l5 k15 s3 hW3 b' => k q' ws' fs' kvs' H3 fi' (by omega) b' (s1.trans s3) hW3⟩
abbrev nTold : List Str := ["_law_box_here", "_law_mate_here", "_law_words", "_law_first_here", "_law_second", "_law_told"]
theorem scTold : FnScope nTold ["_law_box_here", "_law_mate_here"] (defScope sAreTold) := ⟨rfl, rfl, rfl, by decide +kernel, rfl, by decide +kernel, by decide +kernel⟩
theorem ok_told {f : Addr} {fd : FuncData} (F : Fun K "_law_are_told" "_law_are_told" sAreTold f fd) (R : R74 P w K mg base C Tb) : FnOk P w K mg base CX0 11 f fd ["_law_box_here", "_law_mate_here"] (spTold C Tb) := by
  obtain ⟨fW, fdW, GW, bW, gW, kW, kbW⟩ := R.cw
  obtain ⟨fU, fdU, MU, GU, bU, gU⟩ := R.ru
  have hCW : Hv P w K mg base 6 "certify_within" ["one", "other"] (spCertW K P w mg base Tb C) := ⟨_, _, GW, bW, gW, kW⟩
  refine F.ok scTold (fun vs H Q E h => ?_) (fun cdv A outer s H vs Q E hr h => ?_)
  · obtain ⟨q1, q2, x, ws1, fs1, kv1, ws2, fs2, kv2, rfl, _⟩ := h
    rfl
  · obtain ⟨q1, q2, x, ws1, fs1, kv1, ws2, fs2, kv2, rfl, hT, fi1, fi2, bx1, bx2, l1, l2, k⟩ := h
    have hr1 := hr.mono (by decide : 1 ≤ 10)
    have hr3 := hr.mono (by decide : 3 ≤ 10)
    have hr6 := hr.mono (by decide : 6 ≤ 10)
    have hr5 := hr.mono (by decide : 6 ≤ 10)
    refine ⟨_, pss_cons (ps_set (i := 2) scTold.nd rfl (Or.inl rfl) (pe_lst (pa_cons (pe_cl R.hTx hr1 rfl pass0 (pa_cons (pv 0) pa_nil)) (pa_cons (pe_cl R.hTx hr1 rfl pass0 (pa_cons (pv 1) pa_nil)) pa_nil))))
      (pss_cons (ps_par (i := 3) (j := 4) rfl scTold.nd rfl rfl (by decide) rfl rfl (pa_cons (pe_make MU GU hr5 rfl gU bU .nil pass0 (pa_cons (pe_ix ix_list (pv 2) pe_int (fun _ _ => rfl)) pa_nil)) (pa_cons (pe_make MU GU hr5 rfl gU bU .nil pass0 (pa_cons (pe_ix ix_list (pv 2) pe_int (fun _ _ => rfl)) pa_nil)) pa_nil)) rfl)
      (pss_cons (ps_set (i := 5) scTold.nd rfl (Or.inl rfl) (pe_cl R.hCA hr6 rfl pass0 (pa_cons (pv 3) (pa_cons (pv 4) pa_nil))))
      (pss_cons (ps_if (pt_cmpR op_isN (pe_cl R.hFi hr1 rfl pass0 (pa_cons (pv 0) (pa_cons (pv 1) (pa_cons pe_str pa_nil)))) pe_non (nomark _))
        (pss_one (ps_if (PW.pt (pw_or (pt_cmpR op_notN (pv 5) pe_non (nomark _)) (pw_or1 (pt_cmpR op_isN (pe_cl hCW hr6 rfl pass0 (pa_cons (pv 3) (pa_cons (pv 4) pa_nil))) pe_non (nomark _))))) (pss_one (ps_ret pe_bl)) pss_nil))
        (pss_cons (ps_if (PW.pt (pw_or (pt_not (pt_val (pe_callB call_isi (by rfl) R.hIs (by decide +kernel) (pa_cons (pv 5) (pa_cons (pe_bltn (v := .ty "tuple") (by rfl) R.hTu (by decide +kernel) rfl) pa_nil))))) (pw_or (pt_cmpR op_ne (pe_callB call_len_seq (by rfl) R.hL PySem.boot_len (pa_cons (pv 5) pa_nil)) pe_int (nomark _)) (pw_or1 (pt_cmpR (op_neD hr.units) (pe_ix ix_tup (pv 5) pe_int (fun _ _ => rfl)) (pe_tup (pa_cons pe_str (pa_cons (pe_ix ix_list (pv 2) pe_int (fun _ _ => rfl)) (pa_cons (pe_ix ix_list (pv 2) pe_int (fun _ _ => rfl)) pa_nil)))) (nomark _)))))) (pss_one (ps_ret pe_bl)) pss_nil)
        (pss_one (ps_if (PW.pt (pw_or (pt_not (pt_val (pe_cl R.hIA hr3 rfl pass0 (pa_cons (pv 0) (pa_cons (pv 1) (pa_cons (pe_ix ix_tup (pv 5) pe_int (fun _ _ => rfl)) pa_nil)))))) (pw_or1 (pt_cmpR op_notBl (pe_cl R.hAA hr rfl pass0 (pa_cons (pe_ix ix_tup (pv 5) pe_int (fun _ _ => rfl)) (pa_cons (pe_ix ix_tup (pv 5) pe_int (fun _ _ => rfl)) pa_nil))) pe_bl (nomark _))))) (pss_one (ps_ret pe_bl)) pss_nil))))
      (PSs_imp4 (t' := tRestW C Tb) (pss_cons (ps_set (i := 5) scTold.nd rfl (Or.inl rfl) (pe_callKw GW hr6 rfl gW kW kbW pass0 (pk_cons (pv 4) (pk_cons (pv 3) pk_nil))))
        (pss_cons (ps_if (pt_cmpR op_notN (pe_cl R.hFi hr1 rfl pass0 (pa_cons (pv 0) (pa_cons (pv 1) (pa_cons pe_str pa_nil)))) pe_non (nomark _)) (pss_one (ps_ret (pe_cmpR op_isN (pv 5) pe_non (nomark _)))) pss_nil)
        (pss_cons (ps_if (PW.pt (pw_or (pt_not (pt_val (pe_callB call_isi (by rfl) R.hIs (by decide +kernel) (pa_cons (pv 5) (pa_cons (pe_bltn (v := .ty "tuple") (by rfl) R.hTu (by decide +kernel) rfl) pa_nil))))) (pw_or (pt_cmpR op_ne (pe_callB call_len_seq (by rfl) R.hL PySem.boot_len (pa_cons (pv 5) pa_nil)) pe_int (nomark _)) (pw_or1 (pt_cmpR (op_neD hr.units) (pe_ix ix_tup (pv 5) pe_int (fun _ _ => rfl)) (pe_tup (pa_cons pe_str (pa_cons (pe_ix ix_list (pv 2) pe_int (fun _ _ => rfl)) (pa_cons (pe_ix ix_list (pv 2) pe_int (fun _ _ => rfl)) pa_nil)))) (nomark _)))))) (pss_one (ps_ret pe_bl)) pss_nil)
        (pss_one (ps_ret (pe_and (pe_cl R.hIW hr1 rfl pass0 (pa_cons (pv 0) (pa_cons (pv 1) (pa_cons (pe_ix ix_tup (pv 5) pe_int (fun _ _ => rfl)) pa_nil)))) (pe_one (pe_cmpR op_isBl (pe_cl R.hAW hr rfl pass0 (pa_cons (pe_ix ix_tup (pv 5) pe_int (fun _ _ => rfl)) (pa_cons (pe_ix ix_tup (pv 5) pe_int (fun _ _ => rfl)) pa_nil))) pe_bl (nomark _)))))))))
        ?iRest)))), ?_⟩
    case iRest =>
      rintro D σ H ⟨q1, q2, lw, y, y', t1, t2, p1, p2, v5, rfl, B, k⟩
      refine ⟨_, rfl, _, rfl, rfl, y, y', t1, t2, p1, p2, rfl, B.tb, B.r1, B.ok1, B.r2, B.ok2, B.es, fun o H1 eN T1 ho => ?_⟩
      have B1 := B.ext eN T1
      have frq : ∀ {o' : Option Row}, Shows p1 p2 (ftWd "outside") o' → o' = o := fun ho' => by
        rw [ftWd_out] at ho'
        exact ho'.uniq ho
      refine ⟨fun ne => ?_, fun c pt t ps as eo et ec ep pr hol => ?_⟩
      · refine ⟨_, rfl, _, rfl, q1, q2, p1, p2, "outside", rfl, B1.b1, B1.b2, B.es, B.ok1, B.ok2, B.z1, B.z2, fun o' H3 s3 ho' _ => ?_⟩
        obtain rfl := frq ho'
        cases o' with
        | none => exact absurd rfl ne
        | some r => exact ⟨rfl, _, rfl, iteT ⟨_, rfl, rfl, k _ (ext_same eN s3) (T1.ext s3)⟩⟩
      · refine ⟨_, rfl, _, rfl, q1, q2, p1, p2, "outside", rfl, B1.b1, B1.b2, B.es, B.ok1, B.ok2, B.z1, B.z2, fun o' H3 s3 ho' _ => ?_⟩
        obtain rfl := frq ho'
        subst eo
        refine ⟨rfl, _, rfl, iteF ?_⟩
        have B3 := B1.same s3
        have et3 := s3 _ _ et
        have ec3 := s3 _ _ ec
        have ow : PyData.strOk "within" = true := by decide +kernel
        refine ⟨_, rfl, .ref t, .ty "tuple", _, .type "tuple", true, rfl, .ty _, .base (.tup et3), kit_ty (by decide +kernel), _, rfl, iteF ?_⟩
        refine ⟨_, rfl, t, _, rfl, .inr (SqT.of et3), rfl, _, rfl, iteF ?_⟩
        refine ⟨_, rfl, t, _, _, V.ref c, rfl, rfl, SqT.of et3, atI_nat (j := 0) rfl, _, rfl, lw, _, _, V.str t1, rfl, rfl, SqL.of B3.el, atI_nat (j := 0) rfl, _, rfl, lw, _, _, V.str t2, rfl, rfl, SqL.of B3.el, atI_nat (j := 1) rfl, by show 3 ≤ sizeLine; decide, fun t3 ht3 => ?_⟩
        have s4 := same_new (o := .tup [.str "within", .str t1, .str t2]) ht3
        refine ⟨.tuple [.str "within", .str t1, .str t2], .tuple [.str "within", .str t1, .str t2], dp3 (s4 _ _ ec3), dp3 upd_same, shaped3 ow B.x1.2.1 B.x2.2.1, shaped3 ow B.x1.2.1 B.x2.2.1, _, rfl, ?_⟩
        rw [eqv3]
        refine iteF ?_
        have s34 := s3.trans s4
        generalize upd H3 t3 (.tup [.str "within", .str t1, .str t2]) = H4 at s4 s34 ⊢
        have B4 := B1.same s34
        have et4 := s34 _ _ et
        have ec4 := s34 _ _ ec
        have lps : ps.length ≤ 1000 := by
          obtain ⟨_, ps', eps, gp, _⟩ := hol
          obtain rfl : ps = ps' := map_tw (Option.some.inj eps)
          have := pairs_bound gp.nd gp.inn
          have m : p1.ms.length * p2.ms.length ≤ 10 * 10 := Nat.mul_le_mul B.z1 B.z2
          omega
        refine ⟨_, rfl, _, rfl, _, rfl, t, _, _, V.ref pt, rfl, rfl, SqT.of et4, atI_nat (j := 1) rfl, q1, q2, pt, p1, p2, as, ps, rfl, B4.b1, B4.b2, B.ok1, B.ok2, s34 _ _ ep, pr.same s34, lps, hol, fun H5 s5 => ⟨true, rfl, iteT ?_⟩⟩
        have s35 := s34.trans s5
        have et5 := s35 _ _ et
        refine ⟨_, rfl, t, _, _, V.ref c, rfl, rfl, SqT.of et5, atI_nat (j := 0) rfl, _, rfl, t, _, _, V.ref pt, rfl, rfl, SqT.of et5, atI_nat (j := 1) rfl, c, t1, t2, p1, p2, .ref pt, some (ps.map twP), rfl, s35 _ _ ec, B.x1.1, B.x1.2.1, B.x1.2.2, B.x2.1, B.x2.2.1, B.x2.2.2, pap_of (p1 := p1) (p2 := p2) (s35 _ _ ep) (pr.same s35) lps, fun b H6 s6 hb => ?_⟩
        obtain rfl := hb.mpr hol
        refine ⟨_, _, rfl, rfl, ?_⟩
        have := k _ (ext_same eN (s35.trans s6)) (T1.ext (s35.trans s6))
        exact this
    have sh1 := fi1.short (by omega)
    have sh2 := fi2.short (by omega)
    refine ⟨_, rfl, q1, x, ws1, fs1, kv1, rfl, bx1, sh1, fun H1 s1 => ⟨_, rfl, q2, x, ws2, fs2, kv2, rfl, bx2.same s1, sh2, fun H2 s2 => ⟨by show 2 ≤ sizeLine; decide, fun lw hlw => ?_⟩⟩⟩
    have s3 := (s1.trans s2).trans (same_new (o := .lst [.str (textL x ws1 fs1 kv1), .str (textL x ws2 fs2 kv2)]) hlw)
    have el3 : upd H2 lw (.lst [.str (textL x ws1 fs1 kv1), .str (textL x ws2 fs2 kv2)]) lw = some (.lst [.str (textL x ws1 fs1 kv1), .str (textL x ws2 fs2 kv2)]) := upd_same
    have ok1 := pok_of fi1
    have ok2 := pok_of fi2
    have hB1 := bxF_of fi1 bx1
    have hB2 := bxF_of fi2 bx2
    have x1 : Tx4 (textL x ws1 fs1 kv1) (partsF x ws1 fs1 kv1) := ⟨text_small sh1, text_ok fi1, fine_parse fi1⟩
    have x2 : Tx4 (textL x ws2 fs2 kv2) (partsF x ws2 fs2 kv2) := ⟨text_small sh2, text_ok fi2, fine_parse fi2⟩
    have es : (partsF x ws1 fs1 kv1).sg = (partsF x ws2 fs2 kv2).sg := rfl
    have zm1 : (partsF x ws1 fs1 kv1).ms.length ≤ 10 := l1
    have zm2 : (partsF x ws2 fs2 kv2).ms.length ≤ 10 := l2
    have hB1 : BxF H q1 (partsF x ws1 fs1 kv1) (partsF x ws1 fs1 kv1).ms := hB1
    have hB2 : BxF H q2 (partsF x ws2 fs2 kv2) (partsF x ws2 fs2 kv2).ms := hB2
    show ∃ _, _
    generalize upd H2 lw (.lst [.str (textL x ws1 fs1 kv1), .str (textL x ws2 fs2 kv2)]) = H3 at s3 el3 ⊢
    generalize textL x ws1 fs1 kv1 = t1 at el3 x1
    generalize textL x ws2 fs2 kv2 = t2 at el3 x2
    generalize partsF x ws1 fs1 kv1 = p1 at ok1 x1 es zm1 hB1
    generalize partsF x ws2 fs2 kv2 = p2 at ok2 x2 es zm2 hB2
    refine ⟨_, rfl, lw, _, _, V.str t1, rfl, rfl, SqL.of el3, atI_nat (j := 0) rfl, fun y dy ny ndy ne => ?_⟩
    have smA : Same H3 (upd (upd H3 dy (.own y)) y (.ins C dy [])) := (same_new ndy).trans (same_new (by rw [upd_ne ne.symm]; exact ny))
    refine ⟨y, dy, t1, p1, rfl, upd_same, x1.1, x1.2.1, x1.2.2, fun H4 keep rA => ⟨rfl, ?_⟩⟩
    have s4 : Same H3 H4 := fun b o e => keep b o (ne_of_none e ny) (smA b o e)
    refine ⟨_, rfl, lw, _, _, V.str t2, rfl, rfl, SqL.of (s4 _ _ el3), atI_nat (j := 1) rfl, fun y' dy' ny' ndy' ne' => ?_⟩
    have smB : Same H4 (upd (upd H4 dy' (.own y')) y' (.ins C dy' [])) := (same_new ndy').trans (same_new (by rw [upd_ne ne'.symm]; exact ny'))
    refine ⟨y', dy', t2, p2, rfl, upd_same, x2.1, x2.2.1, x2.2.2, fun H5 keep' rB => ⟨rfl, _, _, rfl, ?_⟩⟩
    have s5 : Same H4 H5 := fun b o e => keep' b o (ne_of_none e ny') (smB b o e)
    have s05 := (s3.trans s4).trans s5
    have B : B74 H5 C Tb q1 q2 lw y y' t1 t2 p1 p2 := ⟨hT.ext s05, s5 _ _ (s4 _ _ el3), rA.same s5, rB, ok1, ok2, es, hB1.same s05, hB2.same s05, zm1, zm2, x1, x2⟩
    have kx : ∀ H', ExtN H5 H' → Tabs Tb H' → Q (.bl true) H' := fun H' e t => k H' (ext_trans (ext_of s05) e) t
    clear keep keep' smA smB ny ndy ne ny' ndy' ne' s3 s4 s5 s05 hB1 hB2 rA rB el3 hT
    refine ⟨_, rfl, _, rfl, y, y', t1, t2, p1, p2, rfl, B.tb, B.r1, ok1, B.r2, ok2, es, fun o H6 eN T6 ho => ?_⟩
    have B6 := B.ext eN T6
    have frq : ∀ {o' : Option Row}, Shows p1 p2 (ftWd "apart") o' → o' = o := fun ho' => by
      rw [ftWd_ap] at ho'
      exact ho'.uniq ho
    refine ⟨fun eo => ?_, fun r c t H7 eo s7 et ec => ?_⟩
    · subst eo
      refine ⟨_, rfl, _, rfl, q1, q2, p1, p2, "apart", rfl, B6.b1, B6.b2, es, ok1, ok2, zm1, zm2, fun o' H8 s8 ho' lo => ?_⟩
      obtain rfl := frq ho'
      refine ⟨rfl, _, rfl, iteT ?_⟩
      have B8 := B6.same s8
      refine ⟨_, rfl, rfl, _, rfl, iteF ?_⟩
      refine ⟨_, rfl, _, rfl, y, y', t1, t2, p1, p2, rfl, B8.tb, B8.r1, ok1, B8.r2, ok2, es, fun o2 H9 eN9 T9 ho2 => ⟨fun ne => absurd (alike_in ho ho2) ne, fun c pt t ps as e2 et ec ep pr2 hol => ⟨rfl, _, rfl, iteF ?_⟩⟩⟩
      exact ⟨q1, q2, lw, y, y', t1, t2, p1, p2, .non, rfl, B8.ext eN9 T9, fun H' e t => kx H' (ext_trans (ext_same eN s8) (ext_trans eN9 e)) t⟩
    · subst eo
      have B7 := B6.same s7
      refine ⟨_, rfl, _, rfl, q1, q2, p1, p2, "apart", rfl, B7.b1, B7.b2, es, ok1, ok2, zm1, zm2, fun o' H8 s8 ho' lo => ?_⟩
      obtain rfl := frq ho'
      refine ⟨rfl, _, rfl, iteF ?_⟩
      have lr : r.length ≤ 100 := lo r rfl
      obtain ⟨ir, hne⟩ := shows_row ho
      have hlr : ({ cps := r.toArray } : Str).length = r.length := List.size_toArray ..
      have B8 := B7.same s8
      have et8 := s8 _ _ et
      have ec8 := s8 _ _ ec
      have oa : PyData.strOk "apart" = true := by decide +kernel
      refine ⟨_, rfl, .ref t, .ty "tuple", _, .type "tuple", true, rfl, .ty _, .base (.tup et8), kit_ty (by decide +kernel), _, rfl, iteF ?_⟩
      refine ⟨_, rfl, t, _, rfl, .inr (SqT.of et8), rfl, _, rfl, iteF ?_⟩
      refine ⟨_, rfl, t, _, _, V.ref c, rfl, rfl, SqT.of et8, atI_nat (j := 0) rfl, _, rfl, lw, _, _, V.str t1, rfl, rfl, SqL.of B8.el, atI_nat (j := 0) rfl, _, rfl, lw, _, _, V.str t2, rfl, rfl, SqL.of B8.el, atI_nat (j := 1) rfl, by show 3 ≤ sizeLine; decide, fun t3 ht3 => ?_⟩
      have s9 := same_new (o := .tup [.str "apart", .str t1, .str t2]) ht3
      refine ⟨.tuple [.str "apart", .str t1, .str t2], .tuple [.str "apart", .str t1, .str t2], dp3 (s9 _ _ ec8), dp3 upd_same, shaped3 oa x1.2.1 x2.2.1, shaped3 oa x1.2.1 x2.2.1, _, rfl, ?_⟩
      rw [eqv3]
      refine iteF ?_
      generalize upd H8 t3 (.tup [.str "apart", .str t1, .str t2]) = H9 at s9 ⊢
      have B9 := B8.same s9
      have et9 := s9 _ _ et8
      have ec9 := s9 _ _ ec8
      have eap : apartL p1 p2 (some ⟨r.toArray⟩) = true := by
        show ((decide (p1.sg = p2.sg) && rowOkB p1.sg (some ⟨r.toArray⟩)) && !decide (V.bl (goodL p1 ⟨r.toArray⟩) = V.bl (goodL p2 ⟨r.toArray⟩))) = true
        have hrow : rowOkB p1.sg (some ⟨r.toArray⟩) = true := List.all_eq_true.mpr fun c hc => decide_eq_true (ir c hc)
        rw [decide_eq_true es, hrow, Bool.true_and, Bool.true_and]
        have hne : (goodL p1 ⟨r.toArray⟩ != goodL p2 ⟨r.toArray⟩) = true := hne
        revert hne
        cases goodL p1 ⟨r.toArray⟩ <;> cases goodL p2 ⟨r.toArray⟩ <;> decide
      refine ⟨_, rfl, _, rfl, _, rfl, t, _, _, V.str ⟨r.toArray⟩, rfl, rfl, SqT.of et9, atI_nat (j := 1) rfl, q1, q2, p1, p2, ⟨r.toArray⟩, rfl, B9.b1, B9.b2, ok1, ok2, es, ir, by omega, hne, fun HA sA => ⟨_, rfl, iteF ?_⟩⟩
      have etA := sA _ _ et9
      refine ⟨_, rfl, t, _, _, V.ref c, rfl, rfl, SqT.of etA, atI_nat (j := 0) rfl, _, rfl, t, _, _, V.str ⟨r.toArray⟩, rfl, rfl, SqT.of etA, atI_nat (j := 1) rfl, c, t1, t2, p1, p2, .str ⟨r.toArray⟩, some ⟨r.toArray⟩, rfl, sA _ _ ec9, x1.1, x1.2.1, x1.2.2, x2.1, x2.2.1, x2.2.2, .inl ⟨_, rfl, rfl, by omega⟩, fun HB sB => ?_⟩
      rw [eap]
      refine ⟨_, _, rfl, rfl, _, rfl, iteF ?_⟩
      have s7B := (((s7.trans s8).trans s9).trans sA).trans sB
      exact ⟨q1, q2, lw, y, y', t1, t2, p1, p2, .ref t, rfl, B6.same s7B, fun H' e t => kx H' (ext_trans (ext_same eN s7B) e) t⟩
end
end My
set_option pp.maxSteps 1500
namespace My
open PySem PySem.Spec PyProof.Rows L2 PySem.GX L2H NdefX LamX
def spRightP4 (T : List (Addr × Str)) : Sp := fun vs H Q _ => ∃ p : Addr, vs = [.ref p] ∧ Wl H p ∧ Tabs T H ∧ ∀ H' : Hp, Kp p H H' → Tabs T H' → Q (.bl true) H'
abbrev nLaw4 : List Str := ["_law_script", "_law_k"]
def spLaw4 (T : List (Addr × Str)) (K : PySem.W.Frag) : Sp := fun vs H Q _ => ∃ (a : Addr) (ns : List Int), vs = [.ref a] ∧ SqL K H a (ns.map V.int) ∧ ns.length ≤ 63 ∧ Tabs T H ∧ ∀ H', Q (.bl true) H'
theorem all_rep4 (n : Nat) : (List.replicate n true).all id = true := by
  induction n with
  | zero => rfl
  | succ n ih => rw [List.replicate_succ, List.all_cons, ih]; rfl
theorem sq_ext4 {K : PySem.W.Frag} {H H' : Hp} {a : Addr} {xs : List V} (s : ExtN H H') (h : SqL K H a xs) : SqL K H' a xs := by
  rcases h with (h | ⟨o, h⟩) | h
  · exact .inl (.inl (s _ _ h fun _ z => by cases z))
  · exact .inl (.inr ⟨o, s _ _ h fun _ z => by cases z⟩)
  · exact .inr h
theorem Wl.ext4 {H H' : Hp} {p : Addr} (w : Wl H p) (s : ExtN H H') : Wl H' p := by
  obtain ⟨a, b, c, h1, h2, e⟩ := w
  exact ⟨a, b, c, h1, h2, s _ _ e fun _ z => by cases z⟩
theorem Kp.ext4 {p : Addr} {H H' : Hp} (s : ExtN H H') : Kp p H H' := fun b o _ t h => s b o h t
section
variable {P : Program} {w : World} {K : PySem.W.Frag} {mg : Str → Option Value} {base : Heap} {C : Addr} {Tb : List (Addr × Str)}
abbrev nRight4 : List Str := ["_law_purse_here", "_law_box_here", "_law_mate_here"]
theorem scRight4 : FnScope nRight4 ["_law_purse_here"] (defScope sRight) := ⟨rfl, rfl, rfl, by decide +kernel, rfl, by decide +kernel, by decide +kernel⟩
theorem ok_right4 {f : Addr} {fd : FuncData} (F : Fun K "_law_right" "_law_right" sRight f fd) (hP : Hv P w K mg base 1 "_law_pick" ["_law_purse_here", "_law_size"] spPk) (hLt : Hv P w K mg base 2 "_law_letters" ["_law_purse_here", "_law_size"] spLetters) (hBx : Hv P w K mg base 3 "_law_box" ["_law_purse_here", "_law_letters_here"] spBox)
    (hMa : Hv P w K mg base 4 "_law_mate" ["_law_purse_here", "_law_box_here"] spMate4) (hTo : Hv P w K mg base 11 "_law_are_told" ["_law_box_here", "_law_mate_here"] (spTold C Tb)) : FnOk P w K mg base CX0 12 f fd ["_law_purse_here"] (spRightP4 Tb) := by
  refine F.ok scRight4 (fun vs H Q E h => ?_) (fun cdv A outer s H vs Q E hr h => ?_)
  · obtain ⟨p, rfl, _⟩ := h
    rfl
  · obtain ⟨p, rfl, hW, hT, k⟩ := h
    have hr1 := hr.mono (by decide : 1 ≤ 11)
    have hr2 := hr.mono (by decide : 2 ≤ 11)
    have hr3 := hr.mono (by decide : 3 ≤ 11)
    have hr4 := hr.mono (by decide : 4 ≤ 11)
    refine ⟨_, pss_cons (ps_set (i := 1) scRight4.nd rfl (Or.inl rfl) (pe_cl hBx hr3 rfl pass0 (pa_cons (pv 0) (pa_cons (pe_cl hLt hr2 rfl pass0 (pa_cons (pv 0) (pa_cons (pe_op op_add pe_int (pe_cl hP hr1 rfl pass0 (pa_cons (pv 0) (pa_cons pe_int pa_nil)))) pa_nil))) pa_nil))))
      (pss_cons (ps_set (i := 2) scRight4.nd rfl (Or.inl rfl) (pe_cl hMa hr4 rfl pass0 (pa_cons (pv 0) (pa_cons (pv 1) pa_nil))))
      (pss_one (ps_ret (pe_and (pe_cl hTo hr rfl pass0 (pa_cons (pv 1) (pa_cons (pv 2) pa_nil))) (pe_one (pe_cl hTo hr rfl pass0 (pa_cons (pv 2) (pa_cons (pv 1) pa_nil)))))))), ?_⟩
    refine ⟨_, rfl, _, rfl, _, rfl, p, 3, rfl, hW, by decide, by decide, fun d H1 d0 d1 s1 hW1 => ?_⟩
    obtain ⟨m, rfl⟩ := Int.eq_ofNat_of_zero_le d0
    refine ⟨_, _, rfl, rfl, p, 1 + m, by rw [show ((1 + m : Nat) : Int) = 1 + (m : Int) by omega]; rfl, hW1, by omega, by omega, fun x H2 hx lx s2 hW2 => ?_⟩
    refine ⟨p, x, rfl, hW2, hx, fun q0 ws fs kvs H3 fine w5 k15 s3 hW3 bx => ?_⟩
    refine ⟨_, rfl, _, rfl, p, q0, x, ws, fs, kvs, rfl, hW3, bx, fine, w5, fun q' ws' fs' kvs' H4 fine' l' bx' s4 hW4 => ?_⟩
    have bx4 := bx.sb hW3 s4
    have sA := ((s1.trans s2).trans s3).trans s4
    have hT4 := Tabs.sb_ hT hW sA
    refine ⟨_, rfl, _, rfl, q0, q', x, ws, fs, kvs, ws', fs', kvs', rfl, hT4, fine, fine', bx4, bx', by omega, l', fun H5 e5 T5 => ⟨true, rfl, iteT ?_⟩⟩
    refine ⟨_, rfl, _, rfl, q', q0, x, ws', fs', kvs', ws, fs, kvs, rfl, T5, fine', fine, bx'.ext4 e5, bx4.ext4 e5, l', by omega, fun H6 e6 T6 => ?_⟩
    exact k H6 ((Kp.sb sA).trans ((Kp.ext4 e5).trans (Kp.ext4 e6))) T6
theorem scLaw4 : FnScope nLaw4 ["_law_script"] (defScope sLaw) := ⟨rfl, rfl, rfl, by decide +kernel, rfl, by decide +kernel, by decide +kernel⟩
theorem ok_law4 {f : Addr} {fd : FuncData} (F : Fun K "law" "law" sLaw f fd) (hAll : mg "all" = none) (hRange : mg "range" = none) (hMax : mg "max" = none) (hMin : mg "min" = none) (hL : mg "len" = none)
    (hCe : Hv P w K mg base 1 "_law_cell" ["_law_cells", "_law_k"] (spCell K)) (hPu : Hv P w K mg base 1 "_law_purse" ["_law_cell_here"] spPurse)
    (hRi : Hv P w K mg base 12 "_law_right" ["_law_purse_here"] (spRightP4 Tb)) :
    FnOk P w K mg base CX0 13 f fd ["_law_script"] (spLaw4 Tb K) := by
  refine F.ok scLaw4 (fun vs H Q E h => ?_) (fun cdv A outer s H vs Q E hr h => ?_)
  · obtain ⟨a, ns, rfl, _⟩ := h
    rfl
  · obtain ⟨a, ns, rfl, hS, hl, hT, k⟩ := h
    have hr1 := hr.mono (by decide : 1 ≤ 12)
    refine ⟨_, pss_one (ps_ret (pe_callB (cr_all rfl) (by rfl) hAll (by decide +kernel) (pa_cons
        (pe_lc (own := [("_law_k", 1)]) (g := gName 1) (tt := tYes) (te := tCall (spRightP4 Tb) [] E0 (tCons (tCall spPurse [] E0 (tCons (tCall (spCell K) [] E0 (tCons (tVar 0) (tCons (tVar 1) tNil))) tNil)) tNil)) rfl scLaw4.nd
          (pi_range1 rfl hRange (pa_cons (pe_callB (call_max2 rfl) (by rfl) hMax (by decide +kernel) (pa_cons pe_int (pa_cons (pe_callB (call_min2 rfl) (by rfl) hMin (by decide +kernel) (pa_cons (pe_callB call_len_seq (by rfl) hL PySem.boot_len (pa_cons (pv 0) pa_nil)) (pa_cons pe_int pa_nil))) pa_nil))) pa_nil))
          (blkOk_by (N := nLaw4) (sc := defScope sLaw) (by decide +kernel)) (fun _ _ _ _ _ => pg_name (i := 1) scLaw4.nd rfl (Or.inl rfl)) (fun _ _ _ _ _ => pts_nil)
          (fun _ _ _ _ _ => pe_cl hRi hr rfl pass0 (pa_cons (pe_cl hPu hr1 rfl pass0 (pa_cons (pe_cl hCe hr1 rfl pass0 (pa_cons (pv 0) (pa_cons (pv 1) pa_nil))) pa_nil)) pa_nil))) pa_nil))), ?_⟩
    refine ⟨_, rfl, a, _, rfl, .inl hS, _, _, rfl, _, _, rfl, _, rfl, ?_, ?_, fun D hD => ?_⟩
    · rw [List.length_map]
      split <;> split <;> omega
    · rw [List.length_map]
      split <;> split <;> omega
    · rw [List.length_map] at *
      generalize hn : (if (if (4 : Int) < (ns.length : Int) then (4 : Int) else (ns.length : Int)) > 2 then (if (4 : Int) < (ns.length : Int) then (4 : Int) else (ns.length : Int)) else 2) = n
      have n1 : 0 ≤ n ∧ n ≤ 4 := by
        rw [← hn]
        constructor <;> split <;> split <;> omega
      refine lc_range (lo := 0) (n := n.toNat) (fun j H' => ExtN H H' ∧ Tabs Tb H' ∧ H' D = some (.lst (List.replicate j (V.bl true)))) ⟨ExtN.of (same_new hD), Tabs.ext hT (same_new hD), upd_same⟩ (fun j H' hj ⟨sH, tH, eD⟩ => ?_) (fun H' ⟨sH, tH, eD⟩ => ?_)
      · refine ⟨rfl, _, rfl, _, rfl, a, ns, _, rfl, sq_ext4 sH hS, (by omega), (by omega), fun z H1 s1 => ⟨z, rfl, fun p H2 s2 np hW => ⟨p, rfl, hW, (Tabs.ext tH s1).ext s2, fun H3 s3 t3 => ?_⟩⟩⟩
        have e1 := s1 _ _ eD
        have dp : D ≠ p := ne_of_none e1 np
        have eD2 : H3 D = some (.lst (List.replicate j (V.bl true))) := s3 D _ dp (fun _ z => by cases z) (s2 _ _ e1)
        refine ⟨_, eD2, ?_, fun b o e nt => ?_, Tabs.off t3 eD2, ?_⟩
        · rw [List.length_replicate, sizeLine_eq]
          omega
        · rw [upd_ne (ne_of_none e hD)]
          have z0 := s1 _ _ (sH _ _ e nt)
          exact s3 b o (ne_of_none z0 np) nt (s2 _ _ z0)
        · rw [upd_same, ← List.replicate_succ']
      · refine ⟨D, List.replicate n.toNat true, rfl, SqL.of (by rw [List.map_replicate]; exact eD), ?_⟩
        rw [all_rep4]
        exact k H'
end
end My
namespace My
open PySem PySem.Spec PyProof.Rows L2 PySem.GX L2H LamX
theorem FnG_of {P : Program} {w : World} {K : PySem.W.Frag} {mg : Str → Option Value} {base : Heap} {CX : CXT} {k : Nat} {f : Addr} {fd : FuncData} {ps : List Str} {sp : Sp} (F : FnOk P w K mg base CX k f fd ps sp) : FnG P w K mg base CX k f fd ps sp :=
  ⟨F.len, fun A outer s H args us vs Q E _ => F.run A outer s H args us vs Q E⟩
def frees : List Str := ["int", "len", "abs", "divmod", "isinstance", "repr", "all", "any", "range", "max", "min", "str", "set", "sorted", "list", "tuple", "enumerate", "reversed"]
def chkF (K : PySem.W.Frag) : Bool := frees.all fun x => PySem.W.nsIn K mainGlobals x == some none
theorem free_of {K : PySem.W.Frag} {h : Heap} {mg : Str → Option Value} (X : K.In h) (G : h.Ns mainGlobals mg) (q : chkF K = true) {x : Str} (hx : x ∈ frees) : mg x = none := by
  unfold chkF at q
  exact PySem.W.mg_none_of X G (beq_iff_eq.mp (List.all_eq_true.mp q x hx))
abbrev quals4 : List Str := [qStep, qTest, qPa, qWi]
def tbOf (ts : List (Addr × Addr)) : List (Addr × Str) := (ts.map (·.2)).zip quals4
theorem tabs_tb {ts : List (Addr × Addr)} {H : Hp} (hT : ∀ q ∈ ts, H q.2 = some (.tbl #[])) : Tabs (tbOf ts) H := fun z hz => by
  have := (List.of_mem_zip (a := z.1) (b := z.2) (by unfold tbOf at hz; exact hz)).1
  obtain ⟨q, hq, e⟩ := List.mem_map.mp this
  have h := hT q hq
  rw [e] at h
  exact LamX.TabS.nil h
theorem vals_rev : ∀ {zs : List V} {ws : List Value}, Vals zs ws → Vals zs.reverse ws.reverse
  | _, _, .nil => .nil
  | _, _, .cons r t => by
    rw [List.reverse_cons, List.reverse_cons]
    exact (vals_rev t).append (.cons r .nil)
theorem kb_rev {K : PySem.W.Frag} {x qual : Str} {st : Stmt} {f : Addr} {fd : FuncData} (F : Fun K x qual st f fd) (ha : defArgs st = defArgs sCertW) : KBn K fd ["one", "other"] 0 ["other", "one"] (fun _ ws => ws.reverse) (fun _ zs => zs.reverse) := by
  obtain ⟨oc, od, kV, doc, pm, an, cdv, ct, osl, rfl, lk, hcd⟩ := F.ex
  refine ⟨fun s us ws _ hu hw => match us, ws, hu, hw with | [], [_, _], _, _ => ?_, fun r q => vals_rev q⟩
  rw [ha]
  exact .of_eq rfl
section
variable {l : PySem.W.OpenLaw} {w : World} {K : PySem.W.Frag} {h : Heap} {mg : Str → Option Value}
theorem all_mk {fa : Addr} {CU C0 tT gol giw gas gam gag grg grr gcr gcf gex grb gfr gfm cps Pps gps cpt Ppt gpt gfs cpa Ppa gpa cwn Pwn gwn gca gcw gro gtw gsa gwa geg gir grp gsp gsq gac glc glu glp glt gla glb glx gle gli glf glv glw glm glq gls gld glg gll gri pT gpT pS gpS pM gpM pG gpG aC : Addr} {odol anol odiw aniw odas anas odam anam odag anag odrg anrg odrr anrr odcr ancr odcf ancf odex anex odrb anrb odfr anfr odfm anfm odps anps odpt anpt odfs anfs odpa anpa odwn anwn odca anca odcw ancw odro anro odtw antw odsa ansa odwa anwa odeg aneg odir anir odrp anrp odsp ansp odsq ansq odac anac odlc anlc odlu anlu odlp anlp odlt anlt odla anla odlb anlb odlx anlx odle anle odli anli odlf anlf odlv anlv odlw anlw odlm anlm odlq anlq odls anls odld anld odlg anlg odll anll owps owpt owpa owwn odri anri odpT anpT odpS anpS odpM anpM odpG anpG : Option Addr} {slol sliw slas slam slag slrg slrr slcr slcf slex slrb slfr slfm slps slpt slfs slpa slwn slca slcw slro sltw slsa slwa sleg slir slrp slsp slsq slac sllc sllu sllp sllt slla sllb sllx slle slli sllf sllv sllw sllm sllq slls slld sllg slll szps szpt szpa szwn slri slpT slpS slpM slpG slT : Array (Option Value)} {ocol kVol dcol pmol ctol cdol ociw kViw dciw pmiw ctiw cdiw ocas kVas dcas pmas ctas cdas ocam kVam dcam pmam ctam cdam ocag kVag dcag pmag ctag cdag ocrg kVrg dcrg pmrg ctrg cdrg ocrr kVrr dcrr pmrr ctrr cdrr occr kVcr dccr pmcr ctcr cdcr occf kVcf dccf pmcf ctcf cdcf ocex kVex dcex pmex ctex cdex ocrb kVrb dcrb pmrb ctrb cdrb ocfr kVfr dcfr pmfr ctfr cdfr ocfm kVfm dcfm pmfm ctfm cdfm ocps kVps dcps pmps ctps ocpt kVpt dcpt pmpt ctpt ocfs kVfs dcfs pmfs ctfs cdfs ocpa kVpa dcpa pmpa ctpa ocwn kVwn dcwn pmwn ctwn occa kVca dcca pmca ctca cdca occw kVcw dccw pmcw ctcw cdcw ocro kVro dcro pmro ctro cdro octw kVtw dctw pmtw cttw cdtw ocsa kVsa dcsa pmsa ctsa cdsa ocwa kVwa dcwa pmwa ctwa cdwa oceg kVeg dceg pmeg cteg cdeg ocir kVir dcir pmir ctir cdir ocrp kVrp dcrp pmrp ctrp cdrp ocsp kVsp dcsp pmsp ctsp cdsp ocsq kVsq dcsq pmsq ctsq cdsq ocac kVac dcac pmac ctac cdac oclc kVlc dclc pmlc ctlc cdlc oclu kVlu dclu pmlu ctlu cdlu oclp kVlp dclp pmlp ctlp cdlp oclt kVlt dclt pmlt ctlt cdlt ocla kVla dcla pmla ctla cdla oclb kVlb dclb pmlb ctlb cdlb oclx kVlx dclx pmlx ctlx cdlx ocle kVle dcle pmle ctle cdle ocli kVli dcli pmli ctli cdli oclf kVlf dclf pmlf ctlf cdlf oclv kVlv dclv pmlv ctlv cdlv oclw kVlw dclw pmlw ctlw cdlw oclm kVlm dclm pmlm ctlm cdlm oclq kVlq dclq pmlq ctlq cdlq ocls kVls dcls pmls ctls cdls ocld kVld dcld pmld ctld cdld oclg kVlg dclg pmlg ctlg cdlg ocll kVll dcll pmll ctll cdll ozps ozpt ozpa ozwn ocri kVri dcri pmri ctri cdri ocpT kVpT dcpT pmpT ctpT cdpT ocpS kVpS dcpS pmpS ctpS cdpS ocpM kVpM dcpM pmpM ctpM cdpM ocpG kVpG dcpG pmpG ctpG cdpG : Value} {tk0 tk1 tk3 tk4 u0 u1 u2 : Tok} {nT nC : Nat} {vzps vzpt vzpa vzwn : Array Value} {rsT rsS rsM rsG : List Value} {esC : Array DictEntry} (X : K.In h) (G : h.Ns mainGlobals mg) (hfa : mg "law" = some (.ref fa))
    (acCU : PySem.W.nsIn K mainGlobals "Rule" = some (some (.ref CU)))
    (acC0 : PySem.W.nsIn K mainGlobals "InvalidText" = some (some (.ref C0)))
    (agol : PySem.W.nsIn K mainGlobals "made_of" = some (some (.ref gol)))
    (lgol : K.lookup gol = some ⟨ocol, odol, .func (PySem.W.fnOf "made_of" "made_of" (defArgs sMade) (defBody sMade) (defScope sMade) .none kVol dcol pmol anol cdol ctol), slol⟩)
    (cgol : PySem.W.codeIn K cdol "made_of" = true)
    (kgol : PySem.W.keepIn K (.ref gol) = true)
    (agiw : PySem.W.nsIn K mainGlobals "is_word" = some (some (.ref giw)))
    (lgiw : K.lookup giw = some ⟨ociw, odiw, .func (PySem.W.fnOf "is_word" "is_word" (defArgs sWord) (defBody sWord) (defScope sWord) .none kViw dciw pmiw aniw cdiw ctiw), sliw⟩)
    (cgiw : PySem.W.codeIn K cdiw "is_word" = true)
    (kgiw : PySem.W.keepIn K (.ref giw) = true)
    (agas : PySem.W.nsIn K mainGlobals "are_signs" = some (some (.ref gas)))
    (lgas : K.lookup gas = some ⟨ocas, odas, .func (PySem.W.fnOf "are_signs" "are_signs" (defArgs sSigns) (defBody sSigns) (defScope sSigns) .none kVas dcas pmas anas cdas ctas), slas⟩)
    (cgas : PySem.W.codeIn K cdas "are_signs" = true)
    (kgas : PySem.W.keepIn K (.ref gas) = true)
    (agam : PySem.W.nsIn K mainGlobals "are_moods" = some (some (.ref gam)))
    (lgam : K.lookup gam = some ⟨ocam, odam, .func (PySem.W.fnOf "are_moods" "are_moods" (defArgs sMoods) (defBody sMoods) (defScope sMoods) .none kVam dcam pmam anam cdam ctam), slam⟩)
    (cgam : PySem.W.codeIn K cdam "are_moods" = true)
    (kgam : PySem.W.keepIn K (.ref gam) = true)
    (agag : PySem.W.nsIn K mainGlobals "are_good" = some (some (.ref gag)))
    (lgag : K.lookup gag = some ⟨ocag, odag, .func (PySem.W.fnOf "are_good" "are_good" (defArgs sGood) (defBody sGood) (defScope sGood) .none kVag dcag pmag anag cdag ctag), slag⟩)
    (cgag : PySem.W.codeIn K cdag "are_good" = true)
    (kgag : PySem.W.keepIn K (.ref gag) = true)
    (agrg : PySem.W.nsIn K mainGlobals "read_goals" = some (some (.ref grg)))
    (lgrg : K.lookup grg = some ⟨ocrg, odrg, .func (PySem.W.fnOf "read_goals" "read_goals" (defArgs sGoals) (defBody sGoals) (defScope sGoals) .none kVrg dcrg pmrg anrg cdrg ctrg), slrg⟩)
    (cgrg : PySem.W.codeIn K cdrg "read_goals" = true)
    (kgrg : PySem.W.keepIn K (.ref grg) = true)
    (agrr : PySem.W.nsIn K mainGlobals "read_rule" = some (some (.ref grr)))
    (lgrr : K.lookup grr = some ⟨ocrr, odrr, .func (PySem.W.fnOf "read_rule" "read_rule" (defArgs sRead) (defBody sRead) (defScope sRead) .none kVrr dcrr pmrr anrr cdrr ctrr), slrr⟩)
    (cgrr : PySem.W.codeIn K cdrr "read_rule" = true)
    (kgrr : PySem.W.keepIn K (.ref grr) = true)
    (agcr : PySem.W.nsIn K mainGlobals "check_rule" = some (some (.ref gcr)))
    (lgcr : K.lookup gcr = some ⟨occr, odcr, .func (PySem.W.fnOf "check_rule" "check_rule" (defArgs sCRule) (defBody sCRule) (defScope sCRule) .none kVcr dccr pmcr ancr cdcr ctcr), slcr⟩)
    (cgcr : PySem.W.codeIn K cdcr "check_rule" = true)
    (kgcr : PySem.W.keepIn K (.ref gcr) = true)
    (agcf : PySem.W.nsIn K mainGlobals "check_fit" = some (some (.ref gcf)))
    (lgcf : K.lookup gcf = some ⟨occf, odcf, .func (PySem.W.fnOf "check_fit" "check_fit" (defArgs sCFit) (defBody sCFit) (defScope sCFit) .none kVcf dccf pmcf ancf cdcf ctcf), slcf⟩)
    (cgcf : PySem.W.codeIn K cdcf "check_fit" = true)
    (kgcf : PySem.W.keepIn K (.ref gcf) = true)
    (agex : PySem.W.nsIn K mainGlobals "explored" = some (some (.ref gex)))
    (lgex : K.lookup gex = some ⟨ocex, odex, .func (PySem.W.fnOf "explored" "explored" (defArgs sExplored) (defBody sExplored) (defScope sExplored) .none kVex dcex pmex anex cdex ctex), slex⟩)
    (cgex : PySem.W.codeIn K cdex "explored" = true)
    (kgex : PySem.W.keepIn K (.ref gex) = true)
    (agrb : PySem.W.nsIn K mainGlobals "row_back" = some (some (.ref grb)))
    (lgrb : K.lookup grb = some ⟨ocrb, odrb, .func (PySem.W.fnOf "row_back" "row_back" (defArgs sRowBack) (defBody sRowBack) (defScope sRowBack) .none kVrb dcrb pmrb anrb cdrb ctrb), slrb⟩)
    (cgrb : PySem.W.codeIn K cdrb "row_back" = true)
    (kgrb : PySem.W.keepIn K (.ref grb) = true)
    (agfr : PySem.W.nsIn K mainGlobals "first_row" = some (some (.ref gfr)))
    (lgfr : K.lookup gfr = some ⟨ocfr, odfr, .func (PySem.W.fnOf "first_row" "first_row" (defArgs sFirstRow) (defBody sFirstRow) (defScope sFirstRow) .none kVfr dcfr pmfr anfr cdfr ctfr), slfr⟩)
    (cgfr : PySem.W.codeIn K cdfr "first_row" = true)
    (kgfr : PySem.W.keepIn K (.ref gfr) = true)
    (agfm : PySem.W.nsIn K mainGlobals "first_moods" = some (some (.ref gfm)))
    (lgfm : K.lookup gfm = some ⟨ocfm, odfm, .func (PySem.W.fnOf "first_moods" "first_moods" (defArgs sFirstMo) (defBody sFirstMo) (defScope sFirstMo) .none kVfm dcfm pmfm anfm cdfm ctfm), slfm⟩)
    (cgfm : PySem.W.codeIn K cdfm "first_moods" = true)
    (kgfm : PySem.W.keepIn K (.ref gfm) = true)
    (agps : PySem.W.nsIn K mainGlobals "pair_step" = some (some (.ref gps)))
    (lgps : K.lookup gps = some ⟨ocps, odps, .func (PySem.W.fnOf "pair_step" "pair_step" (defArgs sPairStep) (defBody sPairStep) (defScope sPairStep) .none kVps dcps pmps anps (.ref cps) ctps), slps⟩)
    (cgps : PySem.W.codeIn K (.ref cps) "pair_step" = true)
    (kgps : PySem.W.keepIn K (.ref gps) = true)
    (agpt : PySem.W.nsIn K mainGlobals "pair_test" = some (some (.ref gpt)))
    (lgpt : K.lookup gpt = some ⟨ocpt, odpt, .func (PySem.W.fnOf "pair_test" "pair_test" (defArgs sPairTest) (defBody sPairTest) (defScope sPairTest) .none kVpt dcpt pmpt anpt (.ref cpt) ctpt), slpt⟩)
    (cgpt : PySem.W.codeIn K (.ref cpt) "pair_test" = true)
    (kgpt : PySem.W.keepIn K (.ref gpt) = true)
    (agfs : PySem.W.nsIn K mainGlobals "first_shown" = some (some (.ref gfs)))
    (lgfs : K.lookup gfs = some ⟨ocfs, odfs, .func (PySem.W.fnOf "first_shown" "first_shown" (defArgs sFirstSh) (defBody sFirstSh) (defScope sFirstSh) .none kVfs dcfs pmfs anfs cdfs ctfs), slfs⟩)
    (cgfs : PySem.W.codeIn K cdfs "first_shown" = true)
    (kgfs : PySem.W.keepIn K (.ref gfs) = true)
    (agpa : PySem.W.nsIn K mainGlobals "parting" = some (some (.ref gpa)))
    (lgpa : K.lookup gpa = some ⟨ocpa, odpa, .func (PySem.W.fnOf "parting" "parting" (defArgs sParting) (defBody sParting) (defScope sParting) .none kVpa dcpa pmpa anpa (.ref cpa) ctpa), slpa⟩)
    (cgpa : PySem.W.codeIn K (.ref cpa) "parting" = true)
    (kgpa : PySem.W.keepIn K (.ref gpa) = true)
    (agwn : PySem.W.nsIn K mainGlobals "within" = some (some (.ref gwn)))
    (lgwn : K.lookup gwn = some ⟨ocwn, odwn, .func (PySem.W.fnOf "within" "within" (defArgs sWithinR) (defBody sWithinR) (defScope sWithinR) .none kVwn dcwn pmwn anwn (.ref cwn) ctwn), slwn⟩)
    (cgwn : PySem.W.codeIn K (.ref cwn) "within" = true)
    (kgwn : PySem.W.keepIn K (.ref gwn) = true)
    (agca : PySem.W.nsIn K mainGlobals "certify_apart" = some (some (.ref gca)))
    (lgca : K.lookup gca = some ⟨occa, odca, .func (PySem.W.fnOf "certify_apart" "certify_apart" (defArgs sCertA) (defBody sCertA) (defScope sCertA) .none kVca dcca pmca anca cdca ctca), slca⟩)
    (cgca : PySem.W.codeIn K cdca "certify_apart" = true)
    (kgca : PySem.W.keepIn K (.ref gca) = true)
    (agcw : PySem.W.nsIn K mainGlobals "certify_within" = some (some (.ref gcw)))
    (lgcw : K.lookup gcw = some ⟨occw, odcw, .func (PySem.W.fnOf "certify_within" "certify_within" (defArgs sCertW) (defBody sCertW) (defScope sCertW) .none kVcw dccw pmcw ancw cdcw ctcw), slcw⟩)
    (cgcw : PySem.W.codeIn K cdcw "certify_within" = true)
    (kgcw : PySem.W.keepIn K (.ref gcw) = true)
    (agro : PySem.W.nsIn K mainGlobals "rule_of" = some (some (.ref gro)))
    (lgro : K.lookup gro = some ⟨ocro, odro, .func (PySem.W.fnOf "rule_of" "rule_of" (defArgs sRuleOf) (defBody sRuleOf) (defScope sRuleOf) .none kVro dcro pmro anro cdro ctro), slro⟩)
    (cgro : PySem.W.codeIn K cdro "rule_of" = true)
    (kgro : PySem.W.keepIn K (.ref gro) = true)
    (agtw : PySem.W.nsIn K mainGlobals "two_rules" = some (some (.ref gtw)))
    (lgtw : K.lookup gtw = some ⟨octw, odtw, .func (PySem.W.fnOf "two_rules" "two_rules" (defArgs sTwoR) (defBody sTwoR) (defScope sTwoR) .none kVtw dctw pmtw antw cdtw cttw), sltw⟩)
    (cgtw : PySem.W.codeIn K cdtw "two_rules" = true)
    (kgtw : PySem.W.keepIn K (.ref gtw) = true)
    (agsa : PySem.W.nsIn K mainGlobals "as_set" = some (some (.ref gsa)))
    (lgsa : K.lookup gsa = some ⟨ocsa, odsa, .func (PySem.W.fnOf "as_set" "as_set" (defArgs sAsSet) (defBody sAsSet) (defScope sAsSet) .none kVsa dcsa pmsa ansa cdsa ctsa), slsa⟩)
    (cgsa : PySem.W.codeIn K cdsa "as_set" = true)
    (kgsa : PySem.W.keepIn K (.ref gsa) = true)
    (agwa : PySem.W.nsIn K mainGlobals "walked" = some (some (.ref gwa)))
    (lgwa : K.lookup gwa = some ⟨ocwa, odwa, .func (PySem.W.fnOf "walked" "walked" (defArgs sWalked) (defBody sWalked) (defScope sWalked) .none kVwa dcwa pmwa anwa cdwa ctwa), slwa⟩)
    (cgwa : PySem.W.codeIn K cdwa "walked" = true)
    (kgwa : PySem.W.keepIn K (.ref gwa) = true)
    (ageg : PySem.W.nsIn K mainGlobals "ends_good" = some (some (.ref geg)))
    (lgeg : K.lookup geg = some ⟨oceg, odeg, .func (PySem.W.fnOf "ends_good" "ends_good" (defArgs sEndsG) (defBody sEndsG) (defScope sEndsG) .none kVeg dceg pmeg aneg cdeg cteg), sleg⟩)
    (cgeg : PySem.W.codeIn K cdeg "ends_good" = true)
    (kgeg : PySem.W.keepIn K (.ref geg) = true)
    (agir : PySem.W.nsIn K mainGlobals "is_row" = some (some (.ref gir)))
    (lgir : K.lookup gir = some ⟨ocir, odir, .func (PySem.W.fnOf "is_row" "is_row" (defArgs sIsRow) (defBody sIsRow) (defScope sIsRow) .none kVir dcir pmir anir cdir ctir), slir⟩)
    (cgir : PySem.W.codeIn K cdir "is_row" = true)
    (kgir : PySem.W.keepIn K (.ref gir) = true)
    (agrp : PySem.W.nsIn K mainGlobals "read_pairs" = some (some (.ref grp)))
    (lgrp : K.lookup grp = some ⟨ocrp, odrp, .func (PySem.W.fnOf "read_pairs" "read_pairs" (defArgs sRdPairs) (defBody sRdPairs) (defScope sRdPairs) .none kVrp dcrp pmrp anrp cdrp ctrp), slrp⟩)
    (cgrp : PySem.W.codeIn K cdrp "read_pairs" = true)
    (kgrp : PySem.W.keepIn K (.ref grp) = true)
    (agsp : PySem.W.nsIn K mainGlobals "shows_apart" = some (some (.ref gsp)))
    (lgsp : K.lookup gsp = some ⟨ocsp, odsp, .func (PySem.W.fnOf "shows_apart" "shows_apart" (defArgs sApart) (defBody sApart) (defScope sApart) .none kVsp dcsp pmsp ansp cdsp ctsp), slsp⟩)
    (cgsp : PySem.W.codeIn K cdsp "shows_apart" = true)
    (kgsp : PySem.W.keepIn K (.ref gsp) = true)
    (agsq : PySem.W.nsIn K mainGlobals "shows_within" = some (some (.ref gsq)))
    (lgsq : K.lookup gsq = some ⟨ocsq, odsq, .func (PySem.W.fnOf "shows_within" "shows_within" (defArgs sWithin) (defBody sWithin) (defScope sWithin) .none kVsq dcsq pmsq ansq cdsq ctsq), slsq⟩)
    (cgsq : PySem.W.codeIn K cdsq "shows_within" = true)
    (kgsq : PySem.W.keepIn K (.ref gsq) = true)
    (agac : PySem.W.nsIn K mainGlobals "accepts" = some (some (.ref gac)))
    (lgac : K.lookup gac = some ⟨ocac, odac, .func (PySem.W.fnOf "accepts" "accepts" (defArgs sAccepts) (defBody sAccepts) (defScope sAccepts) .none kVac dcac pmac anac cdac ctac), slac⟩)
    (cgac : PySem.W.codeIn K cdac "accepts" = true)
    (kgac : PySem.W.keepIn K (.ref gac) = true)
    (aglc : PySem.W.nsIn K mainGlobals "_law_cell" = some (some (.ref glc)))
    (lglc : K.lookup glc = some ⟨oclc, odlc, .func (PySem.W.fnOf "_law_cell" "_law_cell" (defArgs sCell) (defBody sCell) (defScope sCell) .none kVlc dclc pmlc anlc cdlc ctlc), sllc⟩)
    (cglc : PySem.W.codeIn K cdlc "_law_cell" = true)
    (kglc : PySem.W.keepIn K (.ref glc) = true)
    (aglu : PySem.W.nsIn K mainGlobals "_law_purse" = some (some (.ref glu)))
    (lglu : K.lookup glu = some ⟨oclu, odlu, .func (PySem.W.fnOf "_law_purse" "_law_purse" (defArgs sPurse) (defBody sPurse) (defScope sPurse) .none kVlu dclu pmlu anlu cdlu ctlu), sllu⟩)
    (cglu : PySem.W.codeIn K cdlu "_law_purse" = true)
    (kglu : PySem.W.keepIn K (.ref glu) = true)
    (aglp : PySem.W.nsIn K mainGlobals "_law_pick" = some (some (.ref glp)))
    (lglp : K.lookup glp = some ⟨oclp, odlp, .func (PySem.W.fnOf "_law_pick" "_law_pick" (defArgs sPick) (defBody sPick) (defScope sPick) .none kVlp dclp pmlp anlp cdlp ctlp), sllp⟩)
    (cglp : PySem.W.codeIn K cdlp "_law_pick" = true)
    (kglp : PySem.W.keepIn K (.ref glp) = true)
    (aglt : PySem.W.nsIn K mainGlobals "_law_letters" = some (some (.ref glt)))
    (lglt : K.lookup glt = some ⟨oclt, odlt, .func (PySem.W.fnOf "_law_letters" "_law_letters" (defArgs sLetters) (defBody sLetters) (defScope sLetters) .none kVlt dclt pmlt anlt cdlt ctlt), sllt⟩)
    (cglt : PySem.W.codeIn K cdlt "_law_letters" = true)
    (kglt : PySem.W.keepIn K (.ref glt) = true)
    (agla : PySem.W.nsIn K mainGlobals "_law_aim" = some (some (.ref gla)))
    (lgla : K.lookup gla = some ⟨ocla, odla, .func (PySem.W.fnOf "_law_aim" "_law_aim" (defArgs sAim) (defBody sAim) (defScope sAim) .none kVla dcla pmla anla cdla ctla), slla⟩)
    (cgla : PySem.W.codeIn K cdla "_law_aim" = true)
    (kgla : PySem.W.keepIn K (.ref gla) = true)
    (aglb : PySem.W.nsIn K mainGlobals "_law_box" = some (some (.ref glb)))
    (lglb : K.lookup glb = some ⟨oclb, odlb, .func (PySem.W.fnOf "_law_box" "_law_box" (defArgs sBox) (defBody sBox) (defScope sBox) .none kVlb dclb pmlb anlb cdlb ctlb), sllb⟩)
    (cglb : PySem.W.codeIn K cdlb "_law_box" = true)
    (kglb : PySem.W.keepIn K (.ref glb) = true)
    (aglx : PySem.W.nsIn K mainGlobals "_law_text" = some (some (.ref glx)))
    (lglx : K.lookup glx = some ⟨oclx, odlx, .func (PySem.W.fnOf "_law_text" "_law_text" (defArgs sText) (defBody sText) (defScope sText) .none kVlx dclx pmlx anlx cdlx ctlx), sllx⟩)
    (cglx : PySem.W.codeIn K cdlx "_law_text" = true)
    (kglx : PySem.W.keepIn K (.ref glx) = true)
    (agle : PySem.W.nsIn K mainGlobals "_law_end" = some (some (.ref gle)))
    (lgle : K.lookup gle = some ⟨ocle, odle, .func (PySem.W.fnOf "_law_end" "_law_end" (defArgs sEnd) (defBody sEnd) (defScope sEnd) .none kVle dcle pmle anle cdle ctle), slle⟩)
    (cgle : PySem.W.codeIn K cdle "_law_end" = true)
    (kgle : PySem.W.keepIn K (.ref gle) = true)
    (agli : PySem.W.nsIn K mainGlobals "_law_is_fine" = some (some (.ref gli)))
    (lgli : K.lookup gli = some ⟨ocli, odli, .func (PySem.W.fnOf "_law_is_fine" "_law_is_fine" (defArgs sFine) (defBody sFine) (defScope sFine) .none kVli dcli pmli anli cdli ctli), slli⟩)
    (cgli : PySem.W.codeIn K cdli "_law_is_fine" = true)
    (kgli : PySem.W.keepIn K (.ref gli) = true)
    (aglf : PySem.W.nsIn K mainGlobals "_law_first" = some (some (.ref glf)))
    (lglf : K.lookup glf = some ⟨oclf, odlf, .func (PySem.W.fnOf "_law_first" "_law_first" (defArgs sFirst) (defBody sFirst) (defScope sFirst) .none kVlf dclf pmlf anlf cdlf ctlf), sllf⟩)
    (cglf : PySem.W.codeIn K cdlf "_law_first" = true)
    (kglf : PySem.W.keepIn K (.ref glf) = true)
    (aglv : PySem.W.nsIn K mainGlobals "_law_twins" = some (some (.ref glv)))
    (lglv : K.lookup glv = some ⟨oclv, odlv, .func (PySem.W.fnOf "_law_twins" "_law_twins" (defArgs sTwins) (defBody sTwins) (defScope sTwins) .none kVlv dclv pmlv anlv cdlv ctlv), sllv⟩)
    (cglv : PySem.W.codeIn K cdlv "_law_twins" = true)
    (kglv : PySem.W.keepIn K (.ref glv) = true)
    (aglw : PySem.W.nsIn K mainGlobals "_law_wider" = some (some (.ref glw)))
    (lglw : K.lookup glw = some ⟨oclw, odlw, .func (PySem.W.fnOf "_law_wider" "_law_wider" (defArgs sWider) (defBody sWider) (defScope sWider) .none kVlw dclw pmlw anlw cdlw ctlw), sllw⟩)
    (cglw : PySem.W.codeIn K cdlw "_law_wider" = true)
    (kglw : PySem.W.keepIn K (.ref glw) = true)
    (aglm : PySem.W.nsIn K mainGlobals "_law_mate" = some (some (.ref glm)))
    (lglm : K.lookup glm = some ⟨oclm, odlm, .func (PySem.W.fnOf "_law_mate" "_law_mate" (defArgs sMate) (defBody sMate) (defScope sMate) .none kVlm dclm pmlm anlm cdlm ctlm), sllm⟩)
    (cglm : PySem.W.codeIn K cdlm "_law_mate" = true)
    (kglm : PySem.W.keepIn K (.ref glm) = true)
    (aglq : PySem.W.nsIn K mainGlobals "_law_is_within" = some (some (.ref glq)))
    (lglq : K.lookup glq = some ⟨oclq, odlq, .func (PySem.W.fnOf "_law_is_within" "_law_is_within" (defArgs sLIsW) (defBody sLIsW) (defScope sLIsW) .none kVlq dclq pmlq anlq cdlq ctlq), sllq⟩)
    (cglq : PySem.W.codeIn K cdlq "_law_is_within" = true)
    (kglq : PySem.W.keepIn K (.ref glq) = true)
    (agls : PySem.W.nsIn K mainGlobals "_law_is_apart" = some (some (.ref gls)))
    (lgls : K.lookup gls = some ⟨ocls, odls, .func (PySem.W.fnOf "_law_is_apart" "_law_is_apart" (defArgs sLIsA) (defBody sLIsA) (defScope sLIsA) .none kVls dcls pmls anls cdls ctls), slls⟩)
    (cgls : PySem.W.codeIn K cdls "_law_is_apart" = true)
    (kgls : PySem.W.keepIn K (.ref gls) = true)
    (agld : PySem.W.nsIn K mainGlobals "_law_are_told" = some (some (.ref gld)))
    (lgld : K.lookup gld = some ⟨ocld, odld, .func (PySem.W.fnOf "_law_are_told" "_law_are_told" (defArgs sAreTold) (defBody sAreTold) (defScope sAreTold) .none kVld dcld pmld anld cdld ctld), slld⟩)
    (cgld : PySem.W.codeIn K cdld "_law_are_told" = true)
    (kgld : PySem.W.keepIn K (.ref gld) = true)
    (aglg : PySem.W.nsIn K mainGlobals "_law_right" = some (some (.ref glg)))
    (lglg : K.lookup glg = some ⟨oclg, odlg, .func (PySem.W.fnOf "_law_right" "_law_right" (defArgs sRight) (defBody sRight) (defScope sRight) .none kVlg dclg pmlg anlg cdlg ctlg), sllg⟩)
    (cglg : PySem.W.codeIn K cdlg "_law_right" = true)
    (kglg : PySem.W.keepIn K (.ref glg) = true)
    (agll : PySem.W.nsIn K mainGlobals "law" = some (some (.ref gll)))
    (lgll : K.lookup gll = some ⟨ocll, odll, .func (PySem.W.fnOf "law" "law" (defArgs sLaw) (defBody sLaw) (defScope sLaw) .none kVll dcll pmll anll cdll ctll), slll⟩)
    (cgll : PySem.W.codeIn K cdll "law" = true)
    (kgll : PySem.W.keepIn K (.ref gll) = true)
    (lzps : K.lookup cps = some ⟨ozps, owps, .fields vzps, szps⟩)
    (pzps : vzps[11]? = some (.ref Pps))
    (lzpt : K.lookup cpt = some ⟨ozpt, owpt, .fields vzpt, szpt⟩)
    (pzpt : vzpt[11]? = some (.ref Ppt))
    (lzpa : K.lookup cpa = some ⟨ozpa, owpa, .fields vzpa, szpa⟩)
    (pzpa : vzpa[11]? = some (.ref Ppa))
    (lzwn : K.lookup cwn = some ⟨ozwn, owwn, .fields vzwn, szwn⟩)
    (pzwn : vzwn[11]? = some (.ref Pwn))
    (amri : PySem.W.findIn K (.ref CU) "__init__" = some (some (.ref gri)))
    (airi : PySem.W.isFn K (.ref gri) = true)
    (lgri : K.lookup gri = some ⟨ocri, odri, .func (PySem.W.fnOf "__init__" "Rule.__init__" (defArgs sInit) (defBody sInit) (defScope sInit) .none kVri dcri pmri anri cdri ctri), slri⟩)
    (cgri : PySem.W.codeIn K cdri "Rule.__init__" = true)
    (kgri : PySem.W.keepIn K (.ref gri) = true)
    (atT : PySem.W.findIn K (.ref CU) "text" = some (some (.ref pT)))
    (gtT : PySem.W.specialIn K (.ref pT) "__get__" = some (some (.builtin "property.__get__")))
    (ttT : PySem.W.takesIn K (.ref pT) = some true)
    (rtT : PySem.W.recIn K pT "property" = some (.ref gpT :: rsT))
    (lgpT : K.lookup gpT = some ⟨ocpT, odpT, .func (PySem.W.fnOf "text" "Rule.text" (defArgs (inClass sRule 1)) (defBody (inClass sRule 1)) (defScope (inClass sRule 1)) .none kVpT dcpT pmpT anpT cdpT ctpT), slpT⟩)
    (cgpT : PySem.W.codeIn K cdpT "Rule.text" = true)
    (kgpT : PySem.W.keepIn K (.ref gpT) = true)
    (atS : PySem.W.findIn K (.ref CU) "signs" = some (some (.ref pS)))
    (gtS : PySem.W.specialIn K (.ref pS) "__get__" = some (some (.builtin "property.__get__")))
    (ttS : PySem.W.takesIn K (.ref pS) = some true)
    (rtS : PySem.W.recIn K pS "property" = some (.ref gpS :: rsS))
    (lgpS : K.lookup gpS = some ⟨ocpS, odpS, .func (PySem.W.fnOf "signs" "Rule.signs" (defArgs (inClass sRule 2)) (defBody (inClass sRule 2)) (defScope (inClass sRule 2)) .none kVpS dcpS pmpS anpS cdpS ctpS), slpS⟩)
    (cgpS : PySem.W.codeIn K cdpS "Rule.signs" = true)
    (kgpS : PySem.W.keepIn K (.ref gpS) = true)
    (atM : PySem.W.findIn K (.ref CU) "moods" = some (some (.ref pM)))
    (gtM : PySem.W.specialIn K (.ref pM) "__get__" = some (some (.builtin "property.__get__")))
    (ttM : PySem.W.takesIn K (.ref pM) = some true)
    (rtM : PySem.W.recIn K pM "property" = some (.ref gpM :: rsM))
    (lgpM : K.lookup gpM = some ⟨ocpM, odpM, .func (PySem.W.fnOf "moods" "Rule.moods" (defArgs (inClass sRule 3)) (defBody (inClass sRule 3)) (defScope (inClass sRule 3)) .none kVpM dcpM pmpM anpM cdpM ctpM), slpM⟩)
    (cgpM : PySem.W.codeIn K cdpM "Rule.moods" = true)
    (kgpM : PySem.W.keepIn K (.ref gpM) = true)
    (atG : PySem.W.findIn K (.ref CU) "good" = some (some (.ref pG)))
    (gtG : PySem.W.specialIn K (.ref pG) "__get__" = some (some (.builtin "property.__get__")))
    (ttG : PySem.W.takesIn K (.ref pG) = some true)
    (rtG : PySem.W.recIn K pG "property" = some (.ref gpG :: rsG))
    (lgpG : K.lookup gpG = some ⟨ocpG, odpG, .func (PySem.W.fnOf "good" "Rule.good" (defArgs (inClass sRule 4)) (defBody (inClass sRule 4)) (defScope (inClass sRule 4)) .none kVpG dcpG pmpG anpG cdpG ctpG), slpG⟩)
    (cgpG : PySem.W.codeIn K cdpG "Rule.good" = true)
    (kgpG : PySem.W.keepIn K (.ref gpG) = true)
    (av0 : PySem.W.nsIn K mainGlobals "MOST_SIGNS" = some (some (.int 3 tk0)))
    (av1 : PySem.W.nsIn K mainGlobals "MOST_MOODS" = some (some (.int 300 tk1)))
    (av3 : PySem.W.nsIn K mainGlobals "LONGEST_WORD" = some (some (.int 8 tk3)))
    (av4 : PySem.W.nsIn K mainGlobals "LETTERS" = some (some (.str abc tk4)))
    (atTT : PySem.W.nsIn K mainGlobals "TITLES" = some (some (.ref tT)))
    (ltT : K.lookup tT = some ⟨.type "tuple", none, .seq #[.str "signs" u0, .str "moods" u1, .str "good" u2] nT, slT⟩)
    (pg : PySem.W.plainGet K CU Str.empty = true)
    (hd : PySem.W.hasDictIn K CU = true)
    (po : PySem.W.plainOver K CU = true)
    (sa : PySem.W.findIn K (.ref CU) "__setattr__" = some (some (.builtin "object.__setattr__")))
    (mk : PySem.W.makesIn K CU = true)
    (kc : PySem.W.keepIn K (.ref CU) = true)
    (nf0 : PySem.W.findIn K (.ref CU) "written" = some none)
    (nf1 : PySem.W.findIn K (.ref CU) "letters" = some none)
    (nf2 : PySem.W.findIn K (.ref CU) "words" = some none)
    (nf3 : PySem.W.findIn K (.ref CU) "chosen" = some none)
    (nf4 : PySem.W.findIn K (.ref CU) "goals" = some none)
    (ic1 : PySem.W.findIn K (.ref CU) "__class__" = some (some (.builtin "object.__class__")))
    (ic2 : PySem.W.specialIn K (.builtin "object.__class__") "__get__" = some (some (.builtin "getset_descriptor.__get__")))
    (ic3 : PySem.W.takesIn K (.builtin "object.__class__") = some true)
    (ic4 : PySem.W.mroIn K CU (.type "object") = some true)
    (ic5 : PySem.W.kitOne K (.ref CU) (.ref CU) = some true)
    (ataC : PySem.W.nsIn K mainGlobals "CLAIMS" = some (some (.ref aC)))
    (ltaC : K.lookup aC = some ⟨.type "dict", none, .dict esC nC, #[]⟩)
    (klaC : PySem.W.KeysLit w.params esC.toList)
    (loaC : (aC == sysModules) = false)
    (ksp : PySem.W.nsIn K aC "apart" = some (some (.ref gsp)))
    (ksq : PySem.W.nsIn K aC "within" = some (some (.ref gsq)))
    (ndT : [Pps, Ppt, Ppa, Pwn].Nodup)
    (hcf : chkF K = true) :
    ∃ fd : FuncData, (∀ (s : Shared) (v : Value), BindsTo s fd ⟨[v], []⟩ [("_law_script", v)]) ∧ ∀ base : Heap, K.In base → base.Ns mainGlobals mg → (∀ q ∈ [(cps, Pps), (cpt, Ppt), (cpa, Ppa), (cwn, Pwn)], TabB base mg q.1 q.2) → FnG l.prog w K mg base CX0 13 fa fd ["_law_script"] (spLaw4 [(Pps, qStep), (Ppt, qTest), (Ppa, qPa), (Pwn, qWi)] K) := by
  have e := hfa.symm.trans (PySem.W.mg_of X G agll)
  cases e
  have fr := fun {x : Str} (hx : x ∈ frees) => free_of X G hcf hx
  have mcCU := PySem.W.mg_of X G acCU
  have mcC0 := PySem.W.mg_of X G acC0
  have Fol := fun_mk (st := sMade) lgol cgol kgol
  have bol := Fol.binds (ps := ["text", "letters"]) fun _ _ _ _ _ _ us hl => match us, hl with | [_, _], _ => rfl
  have mol := PySem.W.mg_of X G agol
  have Fiw := fun_mk (st := sWord) lgiw cgiw kgiw
  have biw := Fiw.binds (ps := ["text"]) fun _ _ _ _ _ _ us hl => match us, hl with | [_], _ => rfl
  have miw := PySem.W.mg_of X G agiw
  have Fas := fun_mk (st := sSigns) lgas cgas kgas
  have bas := Fas.binds (ps := ["words"]) fun _ _ _ _ _ _ us hl => match us, hl with | [_], _ => rfl
  have mas := PySem.W.mg_of X G agas
  have Fam := fun_mk (st := sMoods) lgam cgam kgam
  have bam := Fam.binds (ps := ["words"]) fun _ _ _ _ _ _ us hl => match us, hl with | [_], _ => rfl
  have mam := PySem.W.mg_of X G agam
  have Fag := fun_mk (st := sGood) lgag cgag kgag
  have bag := Fag.binds (ps := ["words", "moods"]) fun _ _ _ _ _ _ us hl => match us, hl with | [_, _], _ => rfl
  have mag := PySem.W.mg_of X G agag
  have Frg := fun_mk (st := sGoals) lgrg cgrg kgrg
  have brg := Frg.binds (ps := ["signs", "moods", "rows"]) fun _ _ _ _ _ _ us hl => match us, hl with | [_, _, _], _ => rfl
  have mrg := PySem.W.mg_of X G agrg
  have Frr := fun_mk (st := sRead) lgrr cgrr kgrr
  have brr := Frr.binds (ps := ["text"]) fun _ _ _ _ _ _ us hl => match us, hl with | [_], _ => rfl
  have mrr := PySem.W.mg_of X G agrr
  have Fcr := fun_mk (st := sCRule) lgcr cgcr kgcr
  have bcr := Fcr.binds (ps := ["value"]) fun _ _ _ _ _ _ us hl => match us, hl with | [_], _ => rfl
  have mcr := PySem.W.mg_of X G agcr
  have Fcf := fun_mk (st := sCFit) lgcf cgcf kgcf
  have bcf := Fcf.binds (ps := ["one", "other"]) fun _ _ _ _ _ _ us hl => match us, hl with | [_, _], _ => rfl
  have mcf := PySem.W.mg_of X G agcf
  have Fex := fun_mk (st := sExplored) lgex cgex kgex
  have bex := Fex.binds (ps := ["signs", "starts", "step", "most"]) fun _ _ _ _ _ _ us hl => match us, hl with | [_, _, _, _], _ => rfl
  have mex := PySem.W.mg_of X G agex
  have Frb := fun_mk (st := sRowBack) lgrb cgrb kgrb
  have brb := Frb.binds (ps := ["came", "state"]) fun _ _ _ _ _ _ us hl => match us, hl with | [_, _], _ => rfl
  have mrb := PySem.W.mg_of X G agrb
  have Ffr := fun_mk (st := sFirstRow) lgfr cgfr kgfr
  have bfr := Ffr.binds (ps := ["signs", "start", "step", "wanted"]) fun _ _ _ _ _ _ us hl => match us, hl with | [_, _, _, _], _ => rfl
  have mfr := PySem.W.mg_of X G agfr
  have Ffm := fun_mk (st := sFirstMo) lgfm cgfm kgfm
  have bfm := Ffm.binds (ps := ["one", "other"]) fun _ _ _ _ _ _ us hl => match us, hl with | [_, _], _ => rfl
  have mfm := PySem.W.mg_of X G agfm
  have Fps := fun_mk (st := sPairStep) lgps cgps kgps
  have bps := Fps.binds (ps := ["one", "other"]) fun _ _ _ _ _ _ us hl => match us, hl with | [_, _], _ => rfl
  have mps := PySem.W.mg_of X G agps
  have Fpt := fun_mk (st := sPairTest) lgpt cgpt kgpt
  have bpt := Fpt.binds (ps := ["one", "other", "test"]) fun _ _ _ _ _ _ us hl => match us, hl with | [_, _, _], _ => rfl
  have mpt := PySem.W.mg_of X G agpt
  have Ffs := fun_mk (st := sFirstSh) lgfs cgfs kgfs
  have bfs := Ffs.binds (ps := ["one", "other", "test"]) fun _ _ _ _ _ _ us hl => match us, hl with | [_, _, _], _ => rfl
  have mfs := PySem.W.mg_of X G agfs
  have Fpa := fun_mk (st := sParting) lgpa cgpa kgpa
  have bpa := Fpa.binds (ps := ["one", "other"]) fun _ _ _ _ _ _ us hl => match us, hl with | [_, _], _ => rfl
  have mpa := PySem.W.mg_of X G agpa
  have Fwn := fun_mk (st := sWithinR) lgwn cgwn kgwn
  have bwn := Fwn.binds (ps := ["one", "other"]) fun _ _ _ _ _ _ us hl => match us, hl with | [_, _], _ => rfl
  have mwn := PySem.W.mg_of X G agwn
  have Fca := fun_mk (st := sCertA) lgca cgca kgca
  have bca := Fca.binds (ps := ["one", "other"]) fun _ _ _ _ _ _ us hl => match us, hl with | [_, _], _ => rfl
  have mca := PySem.W.mg_of X G agca
  have Fcw := fun_mk (st := sCertW) lgcw cgcw kgcw
  have bcw := Fcw.binds (ps := ["one", "other"]) fun _ _ _ _ _ _ us hl => match us, hl with | [_, _], _ => rfl
  have mcw := PySem.W.mg_of X G agcw
  have Fro := fun_mk (st := sRuleOf) lgro cgro kgro
  have bro := Fro.binds (ps := ["text"]) fun _ _ _ _ _ _ us hl => match us, hl with | [_], _ => rfl
  have mro := PySem.W.mg_of X G agro
  have Ftw := fun_mk (st := sTwoR) lgtw cgtw kgtw
  have btw := Ftw.binds (ps := ["one", "other"]) fun _ _ _ _ _ _ us hl => match us, hl with | [_, _], _ => rfl
  have mtw := PySem.W.mg_of X G agtw
  have Fsa := fun_mk (st := sAsSet) lgsa cgsa kgsa
  have bsa := Fsa.binds (ps := ["words"]) fun _ _ _ _ _ _ us hl => match us, hl with | [_], _ => rfl
  have msa := PySem.W.mg_of X G agsa
  have Fwa := fun_mk (st := sWalked) lgwa cgwa kgwa
  have bwa := Fwa.binds (ps := ["rule", "mood", "rows"]) fun _ _ _ _ _ _ us hl => match us, hl with | [_, _, _], _ => rfl
  have mwa := PySem.W.mg_of X G agwa
  have Feg := fun_mk (st := sEndsG) lgeg cgeg kgeg
  have beg := Feg.binds (ps := ["rule", "mood", "rows"]) fun _ _ _ _ _ _ us hl => match us, hl with | [_, _, _], _ => rfl
  have meg := PySem.W.mg_of X G ageg
  have Fir := fun_mk (st := sIsRow) lgir cgir kgir
  have bir := Fir.binds (ps := ["rule", "value"]) fun _ _ _ _ _ _ us hl => match us, hl with | [_, _], _ => rfl
  have mir := PySem.W.mg_of X G agir
  have Frp := fun_mk (st := sRdPairs) lgrp cgrp kgrp
  have brp := Frp.binds (ps := ["one", "other", "paper"]) fun _ _ _ _ _ _ us hl => match us, hl with | [_, _, _], _ => rfl
  have mrp := PySem.W.mg_of X G agrp
  have Fsp := fun_mk (st := sApart) lgsp cgsp kgsp
  have bsp := Fsp.binds (ps := ["one", "other", "paper"]) fun _ _ _ _ _ _ us hl => match us, hl with | [_, _, _], _ => rfl
  have msp := PySem.W.mg_of X G agsp
  have Fsq := fun_mk (st := sWithin) lgsq cgsq kgsq
  have bsq := Fsq.binds (ps := ["one", "other", "paper"]) fun _ _ _ _ _ _ us hl => match us, hl with | [_, _, _], _ => rfl
  have msq := PySem.W.mg_of X G agsq
  have Fac := fun_mk (st := sAccepts) lgac cgac kgac
  have bac := Fac.binds (ps := ["claim", "paper"]) fun _ _ _ _ _ _ us hl => match us, hl with | [_, _], _ => rfl
  have mac := PySem.W.mg_of X G agac
  have Flc := fun_mk (st := sCell) lglc cglc kglc
  have blc := Flc.binds (ps := ["_law_cells", "_law_k"]) fun _ _ _ _ _ _ us hl => match us, hl with | [_, _], _ => rfl
  have mlc := PySem.W.mg_of X G aglc
  have Flu := fun_mk (st := sPurse) lglu cglu kglu
  have blu := Flu.binds (ps := ["_law_cell_here"]) fun _ _ _ _ _ _ us hl => match us, hl with | [_], _ => rfl
  have mlu := PySem.W.mg_of X G aglu
  have Flp := fun_mk (st := sPick) lglp cglp kglp
  have blp := Flp.binds (ps := ["_law_purse_here", "_law_size"]) fun _ _ _ _ _ _ us hl => match us, hl with | [_, _], _ => rfl
  have mlp := PySem.W.mg_of X G aglp
  have Flt := fun_mk (st := sLetters) lglt cglt kglt
  have blt := Flt.binds (ps := ["_law_purse_here", "_law_size"]) fun _ _ _ _ _ _ us hl => match us, hl with | [_, _], _ => rfl
  have mlt := PySem.W.mg_of X G aglt
  have Fla := fun_mk (st := sAim) lgla cgla kgla
  have bla := Fla.binds (ps := ["_law_purse_here", "_law_way", "_law_size", "_law_count", "_law_spot", "_law_step"]) fun _ _ _ _ _ _ us hl => match us, hl with | [_, _, _, _, _, _], _ => rfl
  have mla := PySem.W.mg_of X G agla
  have Flb := fun_mk (st := sBox) lglb cglb kglb
  have blb := Flb.binds (ps := ["_law_purse_here", "_law_letters_here"]) fun _ _ _ _ _ _ us hl => match us, hl with | [_, _], _ => rfl
  have mlb := PySem.W.mg_of X G aglb
  have Flx := fun_mk (st := sText) lglx cglx kglx
  have blx := Flx.binds (ps := ["_law_box_here"]) fun _ _ _ _ _ _ us hl => match us, hl with | [_], _ => rfl
  have mlx := PySem.W.mg_of X G aglx
  have Fle := fun_mk (st := sEnd) lgle cgle kgle
  have ble := Fle.binds (ps := ["_law_box_here", "_law_begin", "_law_line"]) fun _ _ _ _ _ _ us hl => match us, hl with | [_, _, _], _ => rfl
  have mle := PySem.W.mg_of X G agle
  have Fli := fun_mk (st := sFine) lgli cgli kgli
  have bli := Fli.binds (ps := ["_law_box_here", "_law_line"]) fun _ _ _ _ _ _ us hl => match us, hl with | [_, _], _ => rfl
  have mli := PySem.W.mg_of X G agli
  have Flf := fun_mk (st := sFirst) lglf cglf kglf
  have blf := Flf.binds (ps := ["_law_one_box", "_law_two_box", "_law_word"]) fun _ _ _ _ _ _ us hl => match us, hl with | [_, _, _], _ => rfl
  have mlf := PySem.W.mg_of X G aglf
  have Flv := fun_mk (st := sTwins) lglv cglv kglv
  have blv := Flv.binds (ps := ["_law_purse_here", "_law_box_here"]) fun _ _ _ _ _ _ us hl => match us, hl with | [_, _], _ => rfl
  have mlv := PySem.W.mg_of X G aglv
  have Flw := fun_mk (st := sWider) lglw cglw kglw
  have blw := Flw.binds (ps := ["_law_purse_here", "_law_box_here"]) fun _ _ _ _ _ _ us hl => match us, hl with | [_, _], _ => rfl
  have mlw := PySem.W.mg_of X G aglw
  have Flm := fun_mk (st := sMate) lglm cglm kglm
  have blm := Flm.binds (ps := ["_law_purse_here", "_law_box_here"]) fun _ _ _ _ _ _ us hl => match us, hl with | [_, _], _ => rfl
  have mlm := PySem.W.mg_of X G aglm
  have Flq := fun_mk (st := sLIsW) lglq cglq kglq
  have blq := Flq.binds (ps := ["_law_box_here", "_law_mate_here", "_law_slip"]) fun _ _ _ _ _ _ us hl => match us, hl with | [_, _, _], _ => rfl
  have mlq := PySem.W.mg_of X G aglq
  have Fls := fun_mk (st := sLIsA) lgls cgls kgls
  have bls := Fls.binds (ps := ["_law_box_here", "_law_mate_here", "_law_slip"]) fun _ _ _ _ _ _ us hl => match us, hl with | [_, _, _], _ => rfl
  have mls := PySem.W.mg_of X G agls
  have Fld := fun_mk (st := sAreTold) lgld cgld kgld
  have bld := Fld.binds (ps := ["_law_box_here", "_law_mate_here"]) fun _ _ _ _ _ _ us hl => match us, hl with | [_, _], _ => rfl
  have mld := PySem.W.mg_of X G agld
  have Flg := fun_mk (st := sRight) lglg cglg kglg
  have blg := Flg.binds (ps := ["_law_purse_here"]) fun _ _ _ _ _ _ us hl => match us, hl with | [_], _ => rfl
  have mlg := PySem.W.mg_of X G aglg
  have Fll := fun_mk (st := sLaw) lgll cgll kgll
  have bll := Fll.binds (ps := ["_law_script"]) fun _ _ _ _ _ _ us hl => match us, hl with | [_], _ => rfl
  have mll := PySem.W.mg_of X G agll
  have Fri := fun_mk (st := sInit) lgri cgri kgri
  have bri := Fri.binds (ps := ["self", "text"]) fun _ _ _ _ _ _ us hl => match us, hl with | [_, _], _ => rfl
  have FpT := fun_mk (st := (inClass sRule 1)) lgpT cgpT kgpT
  have bpT := FpT.binds (ps := ["self"]) fun _ _ _ _ _ _ us hl => match us, hl with | [_], _ => rfl
  have FpS := fun_mk (st := (inClass sRule 2)) lgpS cgpS kgpS
  have bpS := FpS.binds (ps := ["self"]) fun _ _ _ _ _ _ us hl => match us, hl with | [_], _ => rfl
  have FpM := fun_mk (st := (inClass sRule 3)) lgpM cgpM kgpM
  have bpM := FpM.binds (ps := ["self"]) fun _ _ _ _ _ _ us hl => match us, hl with | [_], _ => rfl
  have FpG := fun_mk (st := (inClass sRule 4)) lgpG cgpG kgpG
  have bpG := FpG.binds (ps := ["self"]) fun _ _ _ _ _ _ us hl => match us, hl with | [_], _ => rfl
  have v0 := PySem.W.mg_of X G av0
  have v1 := PySem.W.mg_of X G av1
  have v3 := PySem.W.mg_of X G av3
  have v4 := PySem.W.mg_of X G av4
  refine ⟨PySem.W.fnOf "law" "law" (defArgs sLaw) (defBody sLaw) (defScope sLaw) .none kVll dcll pmll anll cdll ctll, fun s v => .of_eq rfl, fun base _ _ hTB => ?_⟩
  have TBs : TabB base mg cps Pps := hTB (cps, Pps) (by simp)
  have TBt : TabB base mg cpt Ppt := hTB (cpt, Ppt) (by simp)
  have TBp : TabB base mg cpa Ppa := hTB (cpa, Ppa) (by simp)
  have TBw : TabB base mg cwn Pwn := hTB (cwn, Pwn) (by simp)
  have nd1 : Pps ≠ Ppt ∧ Pps ≠ Ppa ∧ Pps ≠ Pwn ∧ Ppt ≠ Ppa ∧ Ppt ≠ Pwn ∧ Ppa ≠ Pwn := by
    simp only [List.nodup_cons, List.mem_cons, List.not_mem_nil, or_false, not_or] at ndT
    exact ⟨ndT.1.1, ndT.1.2.1, ndT.1.2.2, ndT.2.1.1, ndT.2.1.2, ndT.2.2.1⟩
  obtain ⟨d1, d2, d3, d4, d5, d6⟩ := nd1
  have uq : ∀ (Pz : Addr) (qz : Str), (Pz, qz) ∈ [(Pps, qStep), (Ppt, qTest), (Ppa, qPa), (Pwn, qWi)] → ∀ z ∈ [(Pps, qStep), (Ppt, qTest), (Ppa, qPa), (Pwn, qWi)], z.1 = Pz → z.2 = qz := by
    intro Pz qz hz z hz2 e
    simp only [List.mem_cons, List.not_mem_nil, or_false, Prod.mk.injEq] at hz hz2
    rcases hz with ⟨rfl, rfl⟩ | ⟨rfl, rfl⟩ | ⟨rfl, rfl⟩ | ⟨rfl, rfl⟩ <;> rcases hz2 with rfl | rfl | rfl | rfl <;> first | rfl | exact absurd e d1 | exact absurd e.symm d1 | exact absurd e d2 | exact absurd e.symm d2 | exact absurd e d3 | exact absurd e.symm d3 | exact absurd e d4 | exact absurd e.symm d4 | exact absurd e d5 | exact absurd e.symm d5 | exact absurd e d6 | exact absurd e.symm d6
  have ms : (Pps, qStep) ∈ [(Pps, qStep), (Ppt, qTest), (Ppa, qPa), (Pwn, qWi)] := by simp
  have mt : (Ppt, qTest) ∈ [(Pps, qStep), (Ppt, qTest), (Ppa, qPa), (Pwn, qWi)] := by simp
  have mp : (Ppa, qPa) ∈ [(Pps, qStep), (Ppt, qTest), (Ppa, qPa), (Pwn, qWi)] := by simp
  have mw : (Pwn, qWi) ∈ [(Pps, qStep), (Ppt, qTest), (Ppa, qPa), (Pwn, qWi)] := by simp
  have T : RuC K CU := ⟨⟨pg, hd, po, sa⟩, nf0, nf1, nf2, nf3, nf4⟩
  have IU : InR K CU := ⟨T.cl, ic1, ic2, ic3, ic4, ic5⟩
  have hOl : Hv l.prog w K mg base 1 "made_of" ["text", "letters"] spMade := ⟨_, _, ok_made Fol (fr (by decide)), bol, mol, kgol⟩
  have hIw : Hv l.prog w K mg base 2 "is_word" ["text"] spWord := ⟨_, _, ok_word Fiw hOl (fr (by decide)) v3 v4, biw, miw, kgiw⟩
  have hAs : Hv l.prog w K mg base 2 "are_signs" ["words"] (spSigns K) := ⟨_, _, ok_signs Fas hOl v4 (fr (by decide)) (fr (by decide)) (fr (by decide)) v0, bas, mas, kgas⟩
  have hAm : Hv l.prog w K mg base 3 "are_moods" ["words"] (spMoods K) := ⟨_, _, ok_moods Fam hIw (fr (by decide)) (fr (by decide)) (fr (by decide)) v1, bam, mam, kgam⟩
  have hAg : Hv l.prog w K mg base 1 "are_good" ["words", "moods"] (spGood K) := ⟨_, _, ok_good Fag, bag, mag, kgag⟩
  have hRg : Hv l.prog w K mg base 1 "read_goals" ["signs", "moods", "rows"] spGoals := ⟨_, _, ok_goals Frg (fr (by decide)) (fr (by decide)), brg, mrg, kgrg⟩
  have kT : ∀ H, SqT K H tT (titles.map V.str) := fun H => .inr ⟨_, _, _, ltT, rfl, rfl, by show 3 ≤ sizeLine; decide, .cons ⟨_, rfl⟩ (.cons ⟨_, rfl⟩ (.cons ⟨_, rfl⟩ .nil))⟩
  have hRr : Hv l.prog w K mg base 4 "read_rule" ["text"] spRead := ⟨_, _, ok_read Frr hAs hAm hAg hRg (PySem.W.mg_of X G atTT) kT (fr (by decide)) (fr (by decide)), brr, mrr, kgrr⟩
  have GI := ok_init (P := l.prog) (w := w) (base := base) Fri T hRr (fr (by decide)) (fr (by decide))
  have MI : Mk K CU gri := ⟨mk, amri, airi, kc⟩
  have hRo : Hv l.prog w K mg base 7 "rule_of" ["text"] (spRuleOf CU) := ⟨_, _, ok_ruleOf Fro MI GI bri mcCU mcC0, bro, mro, kgro⟩
  have scT : FnScope ["self"] ["self"] (defScope (inClass sRule 1)) := ⟨rfl, rfl, rfl, by decide +kernel, rfl, by decide +kernel, by decide +kernel⟩
  have GT : FnOk l.prog w K mg base CX0 1 gpT _ ["self"] (getSp CU "written") := fn_getter lgpT cgpT scT rfl rfl T.cl nf0
  have PT : PrF l.prog w K mg base CU "text" "written" := ⟨pT, gpT, _, ⟨atT, gtT, ttT, _, rtT⟩, GT, bpT⟩
  have scS : FnScope ["self"] ["self"] (defScope (inClass sRule 2)) := ⟨rfl, rfl, rfl, by decide +kernel, rfl, by decide +kernel, by decide +kernel⟩
  have GS : FnOk l.prog w K mg base CX0 1 gpS _ ["self"] (getSp CU "letters") := fn_getter lgpS cgpS scS rfl rfl T.cl nf1
  have PS : PrF l.prog w K mg base CU "signs" "letters" := ⟨pS, gpS, _, ⟨atS, gtS, ttS, _, rtS⟩, GS, bpS⟩
  have scM : FnScope ["self"] ["self"] (defScope (inClass sRule 3)) := ⟨rfl, rfl, rfl, by decide +kernel, rfl, by decide +kernel, by decide +kernel⟩
  have GM : FnOk l.prog w K mg base CX0 1 gpM _ ["self"] (getSp CU "words") := fn_getter lgpM cgpM scM rfl rfl T.cl nf2
  have PM : PrF l.prog w K mg base CU "moods" "words" := ⟨pM, gpM, _, ⟨atM, gtM, ttM, _, rtM⟩, GM, bpM⟩
  have scG : FnScope ["self"] ["self"] (defScope (inClass sRule 4)) := ⟨rfl, rfl, rfl, by decide +kernel, rfl, by decide +kernel, by decide +kernel⟩
  have GG : FnOk l.prog w K mg base CX0 1 gpG _ ["self"] (getSp CU "chosen") := fn_getter lgpG cgpG scG rfl rfl T.cl nf3
  have PG : PrF l.prog w K mg base CU "good" "chosen" := ⟨pG, gpG, _, ⟨atG, gtG, ttG, _, rtG⟩, GG, bpG⟩
  have hWa : Hv l.prog w K mg base 1 "walked" ["rule", "mood", "rows"] (spWalked CU) := ⟨_, _, ok_walked Fwa T, bwa, mwa, kgwa⟩
  have hEg : Hv l.prog w K mg base 3 "ends_good" ["rule", "mood", "rows"] (spEndsG CU) := ⟨_, _, ok_endsG Feg T hWa PG, beg, meg, kgeg⟩
  have hIr : Hv l.prog w K mg base 3 "is_row" ["rule", "value"] (spIsRowG CU) := ⟨_, _, ok_isRowG Fir T hOl PS (fr (by decide)) (fr (by decide)), bir, mir, kgir⟩
  have hSa : Hv l.prog w K mg base 1 "as_set" ["words"] spAsSet := ⟨_, _, ok_asSet Fsa, bsa, msa, kgsa⟩
  have hRp : Hv l.prog w K mg base 3 "read_pairs" ["one", "other", "paper"] (spReadP CU) := ⟨_, _, ok_readP Frp T hSa PM (fr (by decide)) (fr (by decide)) (fr (by decide)) (fr (by decide)) (fr (by decide)), brp, mrp, kgrp⟩
  have DC : KDict K w aC esC nC := ⟨ltaC, klaC, loaC⟩
  have gC := PySem.W.mg_of X G ataC
  have hTwo : Hv l.prog w K mg base 8 "two_rules" ["one", "other"] (spTwoR CU) := ⟨_, _, ok_twoR Ftw T hRo PS, btw, mtw, kgtw⟩
  have Nsp := ok_apart Fsp T hTwo hIr hEg PM
  have Nsq := ok_within Fsq T hTwo hRp hSa PM PG PS (fr (by decide)) (fr (by decide))
  have GAa := ok_accA Fac DC gC ksp Nsp kgsp bsp (fr (by decide)) (fr (by decide)) (fr (by decide)) (fr (by decide))
  have GAw := ok_accW Fac DC gC ksq Nsq kgsq bsq (fr (by decide)) (fr (by decide)) (fr (by decide)) (fr (by decide))
  have hCr : Hv l.prog w K mg base 1 "check_rule" ["value"] (spCkR CU) := ⟨_, _, ok_ckR Fcr IU (fr (by decide)) mcCU, bcr, mcr, kgcr⟩
  have hCf : Hv l.prog w K mg base 3 "check_fit" ["one", "other"] (spCkFit CU) := ⟨_, _, ok_ckFit Fcf T hCr PS, bcf, mcf, kgcf⟩
  have hRb : Hv l.prog w K mg base 1 "row_back" ["came", "state"] (spRowBack K) := ⟨_, _, ok_rowBack Frb (fr (by decide)), brb, mrb, kgrb⟩
  have hFr : Hv l.prog w K mg base 3 "first_row" ["signs", "start", "step", "wanted"] (spFirstRow l.prog w K mg base) := ⟨_, _, ok_firstRow Ffr hRb (fr (by decide)), bfr, mfr, kgfr⟩
  have hFm : Hv l.prog w K mg base 3 "first_moods" ["one", "other"] (spFirstMo CU) := ⟨_, _, ok_firstMo Ffm T PM, bfm, mfm, kgfm⟩
  have hPs : Hv l.prog w K mg base 1 "pair_step" ["one", "other"] (spPairStep K l.prog w mg base [(Pps, qStep), (Ppt, qTest), (Ppa, qPa), (Pwn, qWi)] CU) := ⟨_, _, ok_pairStep lgps cgps TBs ms (uq _ _ ms) T, bps, mps, kgps⟩
  have hPt : Hv l.prog w K mg base 3 "pair_test" ["one", "other", "test"] (spPairTest K l.prog w mg base [(Pps, qStep), (Ppt, qTest), (Ppa, qPa), (Pwn, qWi)] CU) := ⟨_, _, ok_pairTest lgpt cgpt TBt mt (uq _ _ mt) T PG, bpt, mpt, kgpt⟩
  have hFs : Hv l.prog w K mg base 4 "first_shown" ["one", "other", "test"] (spFirstSh K l.prog w mg base [(Pps, qStep), (Ppt, qTest), (Ppa, qPa), (Pwn, qWi)] CU) := ⟨_, _, ok_firstSh Ffs T PS hFr hFm hPs hPt, bfs, mfs, kgfs⟩
  have hPa : Hv l.prog w K mg base 5 "parting" ["one", "other"] (spShow K l.prog w mg base [(Pps, qStep), (Ppt, qTest), (Ppa, qPa), (Pwn, qWi)] CU ftNe rowV) := ⟨_, _, ok_partingS lgpa cgpa TBp mp (uq _ _ mp) hCf hFs, bpa, mpa, kgpa⟩
  have hWn : Hv l.prog w K mg base 5 "within" ["one", "other"] (spShow K l.prog w mg base [(Pps, qStep), (Ppt, qTest), (Ppa, qPa), (Pwn, qWi)] CU ftAn fun o => .bl o.isNone) := ⟨_, _, ok_withinS lgwn cgwn TBw mw (uq _ _ mw) hCf hFs, bwn, mwn, kgwn⟩
  have hEx : Hv l.prog w K mg base 3 "explored" ["signs", "starts", "step", "most"] (spExplored l.prog w K mg base) := ⟨_, _, ok_explored Fex (fr (by decide)) (fr (by decide)) (fr (by decide)), bex, mex, kgex⟩
  have hCA : Hv l.prog w K mg base 6 "certify_apart" ["one", "other"] (spCertA K l.prog w mg base [(Pps, qStep), (Ppt, qTest), (Ppa, qPa), (Pwn, qWi)] CU) := ⟨_, _, ok_certA Fca T PT hPa, bca, mca, kgca⟩
  have GCW := ok_certW (P := l.prog) (w := w) (base := base) (T := [(Pps, qStep), (Ppt, qTest), (Ppa, qPa), (Pwn, qWi)]) Fcw T PT PM PS hWn hEx hFm hPs (fr (by decide)) (fr (by decide))
  have hCe : Hv l.prog w K mg base 1 "_law_cell" ["_law_cells", "_law_k"] (spCell K) := ⟨_, _, ok_cell Flc (fr (by decide)) (fr (by decide)), blc, mlc, kglc⟩
  have hPu : Hv l.prog w K mg base 1 "_law_purse" ["_law_cell_here"] spPurse := ⟨_, _, ok_purse Flu (fr (by decide)) (fr (by decide)), blu, mlu, kglu⟩
  have hPk : Hv l.prog w K mg base 1 "_law_pick" ["_law_purse_here", "_law_size"] spPk := ⟨_, _, ok_pk Flp (fr (by decide)) (fr (by decide)), blp, mlp, kglp⟩
  have hLt : Hv l.prog w K mg base 2 "_law_letters" ["_law_purse_here", "_law_size"] spLetters := ⟨_, _, ok_letters Flt hPk (fr (by decide)), blt, mlt, kglt⟩
  have hAi : Hv l.prog w K mg base 2 "_law_aim" ["_law_purse_here", "_law_way", "_law_size", "_law_count", "_law_spot", "_law_step"] spAim := ⟨_, _, ok_aim Fla hPk (fr (by decide)), bla, mla, kgla⟩
  have hBx : Hv l.prog w K mg base 3 "_law_box" ["_law_purse_here", "_law_letters_here"] spBox := ⟨_, _, ok_box Flb hPk hAi (fr (by decide)) (fr (by decide)) (fr (by decide)), blb, mlb, kglb⟩
  have hTx : Hv l.prog w K mg base 1 "_law_text" ["_law_box_here"] spTextB := ⟨_, _, ok_textB Flx, blx, mlx, kglx⟩
  have hEn : Hv l.prog w K mg base 1 "_law_end" ["_law_box_here", "_law_begin", "_law_line"] spEndB := ⟨_, _, ok_endB Fle, ble, mle, kgle⟩
  have hFn : Hv l.prog w K mg base 2 "_law_is_fine" ["_law_box_here", "_law_line"] spGood1 := ⟨_, _, ok_fine4 Fli hEn, bli, mli, kgli⟩
  have hFi : Hv l.prog w K mg base 1 "_law_first" ["_law_one_box", "_law_two_box", "_law_word"] spFirstQ := ⟨_, _, ok_firstQ Flf (fr (by decide)), blf, mlf, kglf⟩
  have hTw : Hv l.prog w K mg base 2 "_law_twins" ["_law_purse_here", "_law_box_here"] spTwins := ⟨_, _, ok_twins Flv hPk (fr (by decide)) (fr (by decide)), blv, mlv, kglv⟩
  have hWi : Hv l.prog w K mg base 2 "_law_wider" ["_law_purse_here", "_law_box_here"] spWider := ⟨_, _, ok_wider Flw hPk (fr (by decide)), blw, mlw, kglw⟩
  have hMa : Hv l.prog w K mg base 4 "_law_mate" ["_law_purse_here", "_law_box_here"] spMate4 := ⟨_, _, ok_mate4 Flm hPk hBx hTw hWi, blm, mlm, kglm⟩
  have hIA : Hv l.prog w K mg base 3 "_law_is_apart" ["_law_box_here", "_law_mate_here", "_law_slip"] spLIsA := ⟨_, _, ok_lIsA Fls hFn (fr (by decide)) (fr (by decide)), bls, mls, kgls⟩
  have hIW : Hv l.prog w K mg base 1 "_law_is_within" ["_law_box_here", "_law_mate_here", "_law_slip"] spLIsW := ⟨_, _, ok_lIsW Flq (fr (by decide)) (fr (by decide)) (fr (by decide)) (fr (by decide)), blq, mlq, kglq⟩
  have R : R74 l.prog w K mg base CU [(Pps, qStep), (Ppt, qTest), (Ppa, qPa), (Pwn, qWi)] := {
    hTx := hTx
    hFi := hFi
    hIA := hIA
    hIW := hIW
    hCA := hCA
    hAA := ⟨_, _, GAa, bac, mac, kgac⟩
    hAW := ⟨_, _, GAw, bac, mac, kgac⟩
    cw := ⟨_, _, GCW, bcw, mcw, kgcw, kb_rev Fcw rfl⟩
    ru := ⟨_, _, MI, GI, bri, mcCU⟩
    hIs := (fr (by decide))
    hTu := (fr (by decide))
    hL := (fr (by decide)) }
  have hTo : Hv l.prog w K mg base 11 "_law_are_told" ["_law_box_here", "_law_mate_here"] (spTold CU [(Pps, qStep), (Ppt, qTest), (Ppa, qPa), (Pwn, qWi)]) := ⟨_, _, ok_told Fld R, bld, mld, kgld⟩
  have hRi : Hv l.prog w K mg base 12 "_law_right" ["_law_purse_here"] (spRightP4 [(Pps, qStep), (Ppt, qTest), (Ppa, qPa), (Pwn, qWi)]) := ⟨_, _, ok_right4 Flg hPk hLt hBx hMa hTo, blg, mlg, kglg⟩
  exact FnG_of (ok_law4 Fll (fr (by decide)) (fr (by decide)) (fr (by decide)) (fr (by decide)) (fr (by decide)) hCe hPu hRi)
end
end My
open PySem PySem.W PyProof.Rows
set_option maxRecDepth 100000 in
set_option maxHeartbeats 0 in
theorem PySem.Challenge.cw_shortlooks_k74_whole_certified_apart_and_holds : PySem.Challenge.rw_shortlooks_k74_whole_certified_apart_and.Holds := by
  w_on; o_law; k_head; (case hw => w_witness2)
  k_fill
  refine' L2.walk_GT (l := PySem.Challenge.rw_shortlooks_k74_whole_certified_apart_and) (n := 63) (k := 13) (x := "_law_script") (ts := [(_, _), (_, _), (_, _), (_, _)]) (sp := fun K ts => My.spLaw4 (My.tbOf ts) K) rfl (by decide) rfl ⟨rfl, by decide, by decide⟩ (fun w h Y => PySem.W.km_in_of Y) ?Y ?F (fun _ _ a ns hl hT hS => ⟨a, ns, rfl, hS, hl, My.tabs_tb hT, fun _ => rfl⟩)
  case F =>
    intro w mg fa h KX G hmg
    refine' My.all_mk KX G hmg ?acCU ?acC0 ?agol ?lgol ?cgol ?kgol ?agiw ?lgiw ?cgiw ?kgiw ?agas ?lgas ?cgas ?kgas ?agam ?lgam ?cgam ?kgam ?agag ?lgag ?cgag ?kgag ?agrg ?lgrg ?cgrg ?kgrg ?agrr ?lgrr ?cgrr ?kgrr ?agcr ?lgcr ?cgcr ?kgcr ?agcf ?lgcf ?cgcf ?kgcf ?agex ?lgex ?cgex ?kgex ?agrb ?lgrb ?cgrb ?kgrb ?agfr ?lgfr ?cgfr ?kgfr ?agfm ?lgfm ?cgfm ?kgfm ?agps ?lgps ?cgps ?kgps ?agpt ?lgpt ?cgpt ?kgpt ?agfs ?lgfs ?cgfs ?kgfs ?agpa ?lgpa ?cgpa ?kgpa ?agwn ?lgwn ?cgwn ?kgwn ?agca ?lgca ?cgca ?kgca ?agcw ?lgcw ?cgcw ?kgcw ?agro ?lgro ?cgro ?kgro ?agtw ?lgtw ?cgtw ?kgtw ?agsa ?lgsa ?cgsa ?kgsa ?agwa ?lgwa ?cgwa ?kgwa ?ageg ?lgeg ?cgeg ?kgeg ?agir ?lgir ?cgir ?kgir ?agrp ?lgrp ?cgrp ?kgrp ?agsp ?lgsp ?cgsp ?kgsp ?agsq ?lgsq ?cgsq ?kgsq ?agac ?lgac ?cgac ?kgac ?aglc ?lglc ?cglc ?kglc ?aglu ?lglu ?cglu ?kglu ?aglp ?lglp ?cglp ?kglp ?aglt ?lglt ?cglt ?kglt ?agla ?lgla ?cgla ?kgla ?aglb ?lglb ?cglb ?kglb ?aglx ?lglx ?cglx ?kglx ?agle ?lgle ?cgle ?kgle ?agli ?lgli ?cgli ?kgli ?aglf ?lglf ?cglf ?kglf ?aglv ?lglv ?cglv ?kglv ?aglw ?lglw ?cglw ?kglw ?aglm ?lglm ?cglm ?kglm ?aglq ?lglq ?cglq ?kglq ?agls ?lgls ?cgls ?kgls ?agld ?lgld ?cgld ?kgld ?aglg ?lglg ?cglg ?kglg ?agll ?lgll ?cgll ?kgll ?lzps ?pzps ?lzpt ?pzpt ?lzpa ?pzpa ?lzwn ?pzwn ?amri ?airi ?lgri ?cgri ?kgri ?atT ?gtT ?ttT ?rtT ?lgpT ?cgpT ?kgpT ?atS ?gtS ?ttS ?rtS ?lgpS ?cgpS ?kgpS ?atM ?gtM ?ttM ?rtM ?lgpM ?cgpM ?kgpM ?atG ?gtG ?ttG ?rtG ?lgpG ?cgpG ?kgpG ?av0 ?av1 ?av3 ?av4 ?atTT ?ltT ?pg ?hd ?po ?sa ?mk ?kc ?nf0 ?nf1 ?nf2 ?nf3 ?nf4 ?ic1 ?ic2 ?ic3 ?ic4 ?ic5 ?ataC ?ltaC ?klaC ?loaC ?ksp ?ksq ?ndT ?hcf
    (case acCU => k_is)
    (case acC0 => k_is)
    (case agol => k_is)
    (case lgol => k_is)
    (case cgol => k_is)
    (case kgol => k_is)
    (case agiw => k_is)
    (case lgiw => k_is)
    (case cgiw => k_is)
    (case kgiw => k_is)
    (case agas => k_is)
    (case lgas => k_is)
    (case cgas => k_is)
    (case kgas => k_is)
    (case agam => k_is)
    (case lgam => k_is)
    (case cgam => k_is)
    (case kgam => k_is)
    (case agag => k_is)
    (case lgag => k_is)
    (case cgag => k_is)
    (case kgag => k_is)
    (case agrg => k_is)
    (case lgrg => k_is)
    (case cgrg => k_is)
    (case kgrg => k_is)
    (case agrr => k_is)
    (case lgrr => k_is)
    (case cgrr => k_is)
    (case kgrr => k_is)
    (case agcr => k_is)
    (case lgcr => k_is)
    (case cgcr => k_is)
    (case kgcr => k_is)
    (case agcf => k_is)
    (case lgcf => k_is)
    (case cgcf => k_is)
    (case kgcf => k_is)
    (case agex => k_is)
    (case lgex => k_is)
    (case cgex => k_is)
    (case kgex => k_is)
    (case agrb => k_is)
    (case lgrb => k_is)
    (case cgrb => k_is)
    (case kgrb => k_is)
    (case agfr => k_is)
    (case lgfr => k_is)
    (case cgfr => k_is)
    (case kgfr => k_is)
    (case agfm => k_is)
    (case lgfm => k_is)
    (case cgfm => k_is)
    (case kgfm => k_is)
    (case agps => k_is)
    (case lgps => k_is)
    (case cgps => k_is)
    (case kgps => k_is)
    (case agpt => k_is)
    (case lgpt => k_is)
    (case cgpt => k_is)
    (case kgpt => k_is)
    (case agfs => k_is)
    (case lgfs => k_is)
    (case cgfs => k_is)
    (case kgfs => k_is)
    (case agpa => k_is)
    (case lgpa => k_is)
    (case cgpa => k_is)
    (case kgpa => k_is)
    (case agwn => k_is)
    (case lgwn => k_is)
    (case cgwn => k_is)
    (case kgwn => k_is)
    (case agca => k_is)
    (case lgca => k_is)
    (case cgca => k_is)
    (case kgca => k_is)
    (case agcw => k_is)
    (case lgcw => k_is)
    (case cgcw => k_is)
    (case kgcw => k_is)
    (case agro => k_is)
    (case lgro => k_is)
    (case cgro => k_is)
    (case kgro => k_is)
    (case agtw => k_is)
    (case lgtw => k_is)
    (case cgtw => k_is)
    (case kgtw => k_is)
    (case agsa => k_is)
    (case lgsa => k_is)
    (case cgsa => k_is)
    (case kgsa => k_is)
    (case agwa => k_is)
    (case lgwa => k_is)
    (case cgwa => k_is)
    (case kgwa => k_is)
    (case ageg => k_is)
    (case lgeg => k_is)
    (case cgeg => k_is)
    (case kgeg => k_is)
    (case agir => k_is)
    (case lgir => k_is)
    (case cgir => k_is)
    (case kgir => k_is)
    (case agrp => k_is)
    (case lgrp => k_is)
    (case cgrp => k_is)
    (case kgrp => k_is)
    (case agsp => k_is)
    (case lgsp => k_is)
    (case cgsp => k_is)
    (case kgsp => k_is)
    (case agsq => k_is)
    (case lgsq => k_is)
    (case cgsq => k_is)
    (case kgsq => k_is)
    (case agac => k_is)
    (case lgac => k_is)
    (case cgac => k_is)
    (case kgac => k_is)
    (case aglc => k_is)
    (case lglc => k_is)
    (case cglc => k_is)
    (case kglc => k_is)
    (case aglu => k_is)
    (case lglu => k_is)
    (case cglu => k_is)
    (case kglu => k_is)
    (case aglp => k_is)
    (case lglp => k_is)
    (case cglp => k_is)
    (case kglp => k_is)
    (case aglt => k_is)
    (case lglt => k_is)
    (case cglt => k_is)
    (case kglt => k_is)
    (case agla => k_is)
    (case lgla => k_is)
    (case cgla => k_is)
    (case kgla => k_is)
    (case aglb => k_is)
    (case lglb => k_is)
    (case cglb => k_is)
    (case kglb => k_is)
    (case aglx => k_is)
    (case lglx => k_is)
    (case cglx => k_is)
    (case kglx => k_is)
    (case agle => k_is)
    (case lgle => k_is)
    (case cgle => k_is)
    (case kgle => k_is)
    (case agli => k_is)
    (case lgli => k_is)
    (case cgli => k_is)
    (case kgli => k_is)
    (case aglf => k_is)
    (case lglf => k_is)
    (case cglf => k_is)
    (case kglf => k_is)
    (case aglv => k_is)
    (case lglv => k_is)
    (case cglv => k_is)
    (case kglv => k_is)
    (case aglw => k_is)
    (case lglw => k_is)
    (case cglw => k_is)
    (case kglw => k_is)
    (case aglm => k_is)
    (case lglm => k_is)
    (case cglm => k_is)
    (case kglm => k_is)
    (case aglq => k_is)
    (case lglq => k_is)
    (case cglq => k_is)
    (case kglq => k_is)
    (case agls => k_is)
    (case lgls => k_is)
    (case cgls => k_is)
    (case kgls => k_is)
    (case agld => k_is)
    (case lgld => k_is)
    (case cgld => k_is)
    (case kgld => k_is)
    (case aglg => k_is)
    (case lglg => k_is)
    (case cglg => k_is)
    (case kglg => k_is)
    (case agll => k_is)
    (case lgll => k_is)
    (case cgll => k_is)
    (case kgll => k_is)
    (case lzps => k_is)
    (case pzps => exact rfl)
    (case lzpt => k_is)
    (case pzpt => exact rfl)
    (case lzpa => k_is)
    (case pzpa => exact rfl)
    (case lzwn => k_is)
    (case pzwn => exact rfl)
    (case amri => k_is)
    (case airi => k_is)
    (case lgri => k_is)
    (case cgri => k_is)
    (case kgri => k_is)
    (case atT => k_is)
    (case gtT => k_is)
    (case ttT => k_is)
    (case rtT => k_is)
    (case lgpT => k_is)
    (case cgpT => k_is)
    (case kgpT => k_is)
    (case atS => k_is)
    (case gtS => k_is)
    (case ttS => k_is)
    (case rtS => k_is)
    (case lgpS => k_is)
    (case cgpS => k_is)
    (case kgpS => k_is)
    (case atM => k_is)
    (case gtM => k_is)
    (case ttM => k_is)
    (case rtM => k_is)
    (case lgpM => k_is)
    (case cgpM => k_is)
    (case kgpM => k_is)
    (case atG => k_is)
    (case gtG => k_is)
    (case ttG => k_is)
    (case rtG => k_is)
    (case lgpG => k_is)
    (case cgpG => k_is)
    (case kgpG => k_is)
    (case av0 => k_is)
    (case av1 => k_is)
    (case av3 => k_is)
    (case av4 => k_is)
    (case atTT => k_is)
    (case ltT => k_is)
    (case pg => k_is)
    (case hd => k_is)
    (case po => k_is)
    (case sa => k_is)
    (case mk => k_is)
    (case kc => k_is)
    (case nf0 => k_is)
    (case nf1 => k_is)
    (case nf2 => k_is)
    (case nf3 => k_is)
    (case nf4 => k_is)
    (case ic1 => k_is)
    (case ic2 => k_is)
    (case ic3 => k_is)
    (case ic4 => k_is)
    (case ic5 => first | kernel_rfl | rfl | decide)
    (case ataC => k_is)
    (case ltaC => k_is)
    (case klaC => exact ⟨⟨_, _, rfl, rfl⟩, ⟨_, _, rfl, rfl⟩, ⟨_, _, rfl, rfl⟩, ⟨_, _, rfl, rfl⟩, ⟨_, _, rfl, rfl⟩, trivial⟩)
    (case loaC => exact rfl)
    (case ksp => k_is)
    (case ksq => k_is)
    (case ndT => exact of_decide_eq_true (by kernel_rfl))
    (case hcf => kernel_rfl)
  case Y =>
    intro w h Y q hq
    simp only [List.mem_cons, List.not_mem_nil, or_false] at hq
    rcases hq with hq | hq | hq | hq <;> (rw [hq]; exact ⟨PySem.W.km_tabs_of Y _ (by repeat first | exact List.Mem.head _ | apply List.Mem.tail), by kernel_rfl, PySem.W.codeHd_of_K (PySem.W.km_in_of Y) (by kernel_rfl)⟩)
