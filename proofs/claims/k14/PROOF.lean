import PyProof.Rows.All
import Wide.All
import OpenK.AllK
import Wide.FinOn
import PyProof.EqAt
import PyProof.EqKinds
import PyProof.TupleCall
import KE.KFromBytes
import HandS.ForMost
import HandS.Exc
import HandS.ExcInit
import HandS.ExcIs
import HandS.IsInst
import HandS.ExcOwn
import HandS.ExcValue
import HandS.Defaults
import HandS.Set
import HandS.Strs
import PyProof.Rows.SetFrom
import PyProof.StrWalks
import PyProof.Rows.SortStr
import PyProof.Rows.SortShellAny
import PyProof.SetRoads
import HandS.DictComp
import HandS.Walk
import HandS.NoneIn
import HandS.Flow
import HandS.FStr
import HandS.Star
import HandS.Property
import HandS.HotCalls
import KE.KUnpack
import KE.KTryMore
import HandS.Lambda
import HandS.EndTab
import PyProof.StrLawsRepr
import HandS.SetBool
import KE.KUnpackStar
import HandS.TupAny
import PyProof.StrBlock2
import PyProof.Rows.StrMeet
import PyProof.NeKinds
import PyProof.ReprLen
import PySem.Challenge.RW_shortlooks_k14_looks
set_option Elab.async false
set_option linter.all false
set_option maxRecDepth 100000
set_option maxHeartbeats 8000000
namespace PySem
namespace GX
open PySem.W PySem.Calls PyProof.Rows PySem.HandSPX
open Builtin Builtin.ObjectAttr

section
variable {M : Model} {Ar : Around} {Er : Value → Shared → Prop} {hh : Heap} {gg : Array GenState} {dd : Drawn} {tt : Nat} {oo : OsState}
variable {n1 n2 : Str} {C N : Addr} {b1 b2 b3 : List Value} {hx : Bool} {l1 : List Str} {l2 : List Value} {ab : Bool} {cl : Option Bool} {da : Option Addr} {m0 m1 m2 m3 m5 : Option Value} {B nid iid : String}

theorem chkNew (F : ExcBaseFacts B nid iid b3) (hT : ∀ Y : String, b2.contains (.type Y) = b3.contains (.type Y)) {rs : List Value} {kw : List (Str × Value)} {Q : Unit → Shared → Prop}
    (hC : hh.get? C = some (excClassObj n1 n2 C N b1 b2 hx l1 l2 ab cl da m0 m1 m2 m3 m5 nid))
    (hq : Q () ⟨hh, gg, dd, tt, oo⟩) :
    wpAny M Ar (checkBuiltinCall nid ⟨.ref C :: rs, kw⟩) Q Er ⟨hh, gg, dd, tt, oo⟩ := by
  have c1 : (Value.ref C :: b2).contains (.type B) = true := by
    rw [List.contains_cons, hT, F.hasB, Bool.or_true]
  have c2 := F.noStar
  simp only [checkBuiltinCall, F.newKind, F.newSplit, F.newRow]
  repeat (first
    | refine wpAny_loadPart_at hC ?_
    | (refine wpAny_isSubtype_exc hC ?_; rw [c1])
    | refine wpAny_staticBase_exc hC ?_
    | refine wpAny_madeBy_exc hC ?_
    | simp only [bne_self_eq_false, Bool.false_eq_true, if_false]
    | wp_step)
  exact hq
end
section
variable {pr : Program} {wd : World} {Ar : Around} {Er : Value → Shared → Prop} {Rr : Result → Shared → Prop} {hh : Heap} {gg : Array GenState} {dd : Drawn} {tt : Nat} {oo : OsState}
variable {n1 n2 : Str} {C N : Addr} {b1 b2 b3 : List Value} {hx : Bool} {l1 : List Str} {l2 : List Value} {ab : Bool} {cl : Option Bool} {da : Option Addr} {m0 m1 m2 m3 m5 : Option Value} {B nid iid : String}

theorem newK (F : ExcBaseFacts B nid iid b3) (hT : ∀ Y : String, b2.contains (.type Y) = b3.contains (.type Y)) {rs : List Value} {kw : List (Str × Value)}
    (hC : hh.get? C = some (excClassObj n1 n2 C N b1 b2 hx l1 l2 ab cl da m0 m1 m2 m3 m5 nid))
    (hq : Rr (.ok (.ret (.ref (hh.objs.size + 1)))) ⟨(hh.push (W.kdv_tup rs)).push (excO C hh.objs.size), gg, dd, tt, oo⟩)
    (hrs : rs.length ≤ sizeLine) :
    codeAny (model pr wd) Ar (.builtin nid ⟨.ref C :: rs, kw⟩) Rr ⟨hh, gg, dd, tt, oo⟩ := by
  have c0 := F.ends
  have cB : (Value.ref C :: b2).contains (.type B) = true := by
    rw [List.contains_cons, hT, F.hasB, Bool.or_true]
  have cA : (Value.ref C :: b2).contains (.type "AttributeError") = false := by
    rw [List.contains_cons, hT, F.noAttr]; rfl
  have cN : (Value.ref C :: b2).contains (.type "NameError") = false := by
    rw [List.contains_cons, hT, F.noName]; rfl
  refine codeAny_builtinAt F.entry ?_
  unfold Builtin.«BaseException.__new__»
  refine wpAt_bind ?_
  show wpAt _ _ _ (stack >>= _) _ _ _
  refine wpAt_bind (wpAt_stack fun p below => wpAt_of_wpAny ?_)
  wp_walk
  refine wpAt_of_wpAny ?_
  rw [F.owner]
  repeat (first
    | with_reducible refine wpAny_madeHere_exc F.canon hC ?_
    | with_reducible refine wpAny_loadPart_at hC ?_
    | (with_reducible refine wpAny_isSubtype_exc hC ?_; first | rw [cB] | rw [cA] | rw [cN])
    | wp_step)
  show Rr _ _
  rw [Heap.size_push]
  exact hq
end
end GX
end PySem
namespace PySem
namespace GX
open PySem.W PySem.Calls PyProof.Rows PySem.HandSPX
open Builtin Builtin.ObjectAttr
section
variable {M : Model} {Ar : Around} {Er : Value → Shared → Prop} {hh : Heap} {gg : Array GenState} {dd : Drawn} {tt : Nat} {oo : OsState}
variable {n1 n2 : Str} {C N : Addr} {b1 b2 b3 : List Value} {hx : Bool} {l1 : List Str} {l2 : List Value} {ab : Bool} {cl : Option Bool} {da : Option Addr} {m0 m1 m2 m3 m5 : Option Value} {B nid iid : String}
theorem chkCall {rs : List Value} {kw : List (Str × Value)} {Q : Unit → Shared → Prop}
    (hC : hh.get? C = some (excClassObj n1 n2 C N b1 b2 hx l1 l2 ab cl da m0 m1 m2 m3 m5 nid))
    (hq : Q () ⟨hh, gg, dd, tt, oo⟩) :
    wpAny M Ar (checkBuiltinCall "type.__call__" ⟨.ref C :: rs, kw⟩) Q Er ⟨hh, gg, dd, tt, oo⟩ := by
  have z3 := tc_sub
  have zT : (⟨hh, gg, dd, tt, oo⟩ : Shared).TypeIs (.ref C) "type" := ⟨_, hC, rfl⟩
  simp only [checkBuiltinCall, tc_kind, tc_split]
  repeat (any_goals (first
    | assumption
    | with_reducible refine wpAny_loadPart_at hC ?_
    | with_reducible refine wpAny_onRaise ?_
    | with_reducible refine wpAny_map ?_
    | wp_step))
end
section
variable {pr : Program} {wd : World} {Ar : Around} {Er : Value → Shared → Prop} {Rr : Result → Shared → Prop} {hh : Heap} {gg : Array GenState} {dd : Drawn} {tt : Nat} {oo : OsState}
variable {n1 n2 : Str} {C N : Addr} {b1 b2 b3 : List Value} {hx : Bool} {l1 : List Str} {l2 : List Value} {ab : Bool} {cl : Option Bool} {da : Option Addr} {m0 m1 m2 m3 m5 : Option Value} {B nid iid : String}

theorem typeK (F : ExcBaseFacts B nid iid b3) (hT : ∀ Y : String, b2.contains (.type Y) = b3.contains (.type Y)) {rs : List Value} {kw : List (Str × Value)} {fI : Addr} {Q : Fin → Shared → Prop}
    (hC : hh.get? C = some (excClassObj n1 n2 C N b1 b2 hx l1 l2 ab cl da m0 m1 m2 m3 m5 nid))
    (hi : W.Looks (model pr wd) hh (typeLookup (.ref C) "__init__") (some (.ref fI)))
    (hb : ∀ self, W.Looks (model pr wd) hh (bindSpecial (.ref fI) self) (.ref fI, [self]))
    (hrs : rs.length ≤ sizeLine)
    (hq : codeAny (model pr wd) Ar (.call (.ref fI) ⟨.ref (hh.objs.size + 1) :: rs, kw⟩)
      (fun r s' => match r with
        | .ok (.ret v) => v = .none ∧ Q (.done (.ret (.ref (hh.objs.size + 1)))) s'
        | .ok _ => False
        | .error e => Er e s')
      ⟨(hh.push (W.kdv_tup rs)).push (excO C hh.objs.size), gg, dd, tt, oo⟩) :
    wpAny (model pr wd) Ar (Builtin.«type.__call__» ⟨.ref C :: rs, kw⟩) Q Er ⟨hh, gg, dd, tt, oo⟩ := by
  repeat (first
    | with_reducible refine wpAny_loadPart_at hC ?_
    | with_reducible refine wpAny_madeBy_exc hC ?_
    | wp_step)
  refine codeAny_call_builtin_code (Code.quiet_builtin _ F.quiet) (chkNew F hT hC ?_)
  refine newK F hT hC ?_ hrs
  show wpAny _ _ _ _ _ _
  have kk : ∀ b o, hh.get? b = some o → ((hh.push (W.kdv_tup rs)).push (excO C hh.objs.size)).get? b = some o :=
    fun b o e => Heap.get?_push_of_some _ (Heap.get?_push_of_some _ e)
  have hC1 := kk _ _ hC
  have hgt : ((hh.push (W.kdv_tup rs)).push (excO C hh.objs.size)).get? (hh.objs.size + 1) = some (excO C hh.objs.size) := by
    heap_get
  have cC : (Value.ref C :: b2).contains (.ref C) = true := by simp
  have j1 := hi.keeps kk
  have j2 := (hb (.ref (hh.objs.size + 1))).keeps kk
  unfold isInstance
  repeat (first
    | with_reducible refine wpAny_loadPart_at hgt ?_
    | (with_reducible refine wpAny_isSubtype_exc hC1 ?_; rw [cC])
    | wp_step)
  show wpAny _ _ (typeLookup (.ref C) _) _ _ _
  refine j1.at ?_
  refine wpAny_holding (wpAny_bind (j2.at ?_))
  refine wpAny_bind (wpAny_call (codeAny_mono hq fun r s' z => ?_))
  rcases r with e | (v | _ | _ | _) <;> first | exact z | exact z.elim | skip
  obtain ⟨rfl, z⟩ := z
  first
    | exact wpAny_pure (wpAny_pure z)
    | (wp_walk; exact z)

theorem callK (F : ExcBaseFacts B nid iid b3) (hT : ∀ Y : String, b2.contains (.type Y) = b3.contains (.type Y)) {rs : List Value} {kw : List (Str × Value)} {fI : Addr}
    (hC : hh.get? C = some (excClassObj n1 n2 C N b1 b2 hx l1 l2 ab cl da m0 m1 m2 m3 m5 nid))
    (hi : W.Looks (model pr wd) hh (typeLookup (.ref C) "__init__") (some (.ref fI)))
    (hb : ∀ self, W.Looks (model pr wd) hh (bindSpecial (.ref fI) self) (.ref fI, [self]))
    (hrs : rs.length ≤ sizeLine)
    (hq : codeAny (model pr wd) (Ar.under (.builtin "type.__call__" ⟨.ref C :: rs, kw⟩)) (.call (.ref fI) ⟨.ref (hh.objs.size + 1) :: rs, kw⟩) (W.InitBack (hh.objs.size + 1) Rr)
      ⟨(hh.push (W.kdv_tup rs)).push (excO C hh.objs.size), gg, dd, tt, oo⟩) :
    codeAny (model pr wd) Ar (.call (.ref C) ⟨rs, kw⟩) Rr ⟨hh, gg, dd, tt, oo⟩ := by
  have z1 := tc_lookup
  have z2 := tc_bind (.ref C)
  have zT : (⟨hh, gg, dd, tt, oo⟩ : Shared).TypeIs (.ref C) "type" := ⟨_, hC, rfl⟩
  refine codeAny_of_tree ?_
  show wpAny _ _ (callAny (.ref C) _) _ _ _
  repeat (any_goals (first
    | assumption
    | with_reducible refine wpAny_loadPart_at hC ?_
    | wp_step))
  refine ⟨rfl, ?_⟩
  refine codeAny_call_builtin_at (Code.quiet_builtin _ (by decide +kernel)) entry_typeCall (chkCall hC (typeK F hT hC hi hb hrs ?_))
  refine codeAny_mono hq fun r s' z => ?_
  rcases r with e | (v | _ | _ | _) <;> exact z
end
end GX
end PySem
namespace PySem
namespace GX
open PySem.W PySem.Calls PyProof.Rows PySem.HandSPX
open Builtin Builtin.ObjectAttr
/-- what an own class's mro must say for a store to an instance -/
structure MroOk (l : List Value) : Prop where
  pass : ∀ self, refuseLoop self "__setattr__" l = pure ()
  ob : l.contains (.type "object") = true
  ne : l.isEmpty = false
section
variable {pr : Program} {wd : World} {Ar : Around} {Er : Value → Shared → Prop} {Rr : Result → Shared → Prop} {hh : Heap} {gg : Array GenState} {dd : Drawn} {tt : Nat} {oo : OsState}
theorem osaN {K : W.Frag} {nm : Str} {tk : Tok} {v : Value} {x C : Addr} {fv : Array Value} {cd : ClassData}
    (X : K.In hh) (hx : hh.get? x = some { cls := .ref C, data := .fields fv }) (hcd : W.clsIn K C = some cd) (hm : MroOk cd.mro) (hd : cd.hasDict = true)
    (ha : W.findIn K (.ref C) nm = some none)
    (hq : ∀ h' tk' dx, (∀ b o, b ≠ x → hh.get? b = some o → h'.get? b = some o) → hh.objs.size ≤ dx → dx ≠ x →
      h'.get? x = some { cls := .ref C, dict := some dx, data := .fields fv } →
      h'.Ns1 dx (fun y => if y = nm then some v else none) → Rr (.ok (.ret .none)) ⟨h', gg, dd, tk', oo⟩) :
    codeAny (model pr wd) Ar (.call (.builtin "object.__setattr__") ⟨[.ref x, .str nm tk, v], []⟩) Rr ⟨hh, gg, dd, tt, oo⟩ := by
  have I : W.InstAt hh x { cls := .ref C, data := .fields fv } C none := ⟨hx, rfl, rfl, trivial⟩
  have SF := F.store_object
  have hne := hm.ne
  have hxs : x ≠ hh.objs.size := Nat.ne_of_lt (Heap.lt_size hx)
  have sub : W.Looks (model pr wd) hh (isInstance (.ref x) (.type "object")) true :=
    I.type.andThen (W.looks_mroIn X (by unfold W.mroIn; rw [hcd, Option.bind_some, if_neg (by rw [hne]; decide), hm.ob]))
  refine codeAny_call_builtin SF.slot.plain SF.entry (@W.check_slot (model pr wd) _ _ ⟨hh, gg, dd, tt, oo⟩ "object.__setattr__" "object" "__setattr__" (.ref x)
    [.str nm tk, v] [] _ SF.kind SF.split sub (SF.args (.ref x) (.str nm tk) v) ?_)
  have lm : W.Looks (model pr wd) hh (mroOf (.ref C)) cd.mro := (W.looks_clsIn X hcd).andThen .now
  have lt : W.Looks (model pr wd) hh (storeTaker? none) none := .now
  have lc : W.Looks (model pr wd) hh (classData C) cd := W.looks_clsIn X hcd
  rw [W.osa_eq, refuse_eq]
  refine wpAny_bind (wpAny_bind (I.type.at (wpAny_bind (lm.at ?_))))
  rw [hm.pass]
  refine wpAny_pure (wpAny_bind (I.type.at (wpAny_bind ((W.looks_findIn X ha).at (wpAny_bind (lt.at ?_))))))
  show wpAny _ _ (storeInOwnDict (.ref x) (.ref C) (.str nm tk) nm v false) _ _ _
  obtain ⟨c1, c2, c3, c4, c5, c6, c7, c8, c9, c10, c11⟩ := cd
  dsimp only at hd
  subst hd
  unfold storeInOwnDict ownDictForStores
  repeat (first
    | with_reducible refine store_in_new ?_ ?_
    | with_reducible refine wpAny_loadPart_at hx ?_
    | with_reducible refine lc.at ?_
    | wp_step)
  · exact ⟨_, #[], _, (Heap.get?_update_ne _ _ _ _ hxs.symm).trans (Heap.get?_push_at rfl rfl), rfl, fun e he => absurd he (by simp), fun _ => rfl⟩
  · intro h' tk' hn' hs
    have hx1 : (hh.push { cls := .type "dict", data := .dict #[] }).get? x = some { cls := .ref C, data := .fields fv } :=
      Heap.get?_push_of_some _ hx
    refine hq h' tk' hh.objs.size (fun b o hb ho => ?_) (Nat.le_refl _) hxs.symm ?_ hn'
    · exact (hs.2 b (Nat.ne_of_lt (Heap.lt_size ho))).trans ((Heap.get?_update_ne _ _ _ _ hb).trans (Heap.get?_push_of_some _ ho))
    · exact (hs.2 x hxs).trans (Heap.get?_update_self _ hx1 rfl)
theorem osaO {K : W.Frag} {nm : Str} {tk : Tok} {v : Value} {x C dx : Addr} {fv : Array Value} {cd : ClassData} {m0 : Str → Option Value} {nl : List Str}
    (X : K.In hh) (hx : hh.get? x = some { cls := .ref C, dict := some dx, data := .fields fv }) (hns : hh.Ns1 dx m0) (hw : Within m0 nl) (hz : nl.length ≤ 1000)
    (hcd : W.clsIn K C = some cd) (hm : MroOk cd.mro) (hd : cd.hasDict = true) (ha : W.findIn K (.ref C) nm = some none)
    (hq : ∀ h' tk', (∀ b o, b ≠ dx → hh.get? b = some o → h'.get? b = some o) →
      h'.Ns1 dx (fun y => if y = nm then some v else m0 y) → Rr (.ok (.ret .none)) ⟨h', gg, dd, tk', oo⟩) :
    codeAny (model pr wd) Ar (.call (.builtin "object.__setattr__") ⟨[.ref x, .str nm tk, v], []⟩) Rr ⟨hh, gg, dd, tt, oo⟩ := by
  obtain ⟨oD, esD, epD, hoD, hdD, _⟩ := hns.count hw
  have I : W.InstAt hh x { cls := .ref C, dict := some dx, data := .fields fv } C (some oD) := ⟨hx, rfl, rfl, hoD⟩
  have SF := F.store_object
  have hne := hm.ne
  have sub : W.Looks (model pr wd) hh (isInstance (.ref x) (.type "object")) true :=
    I.type.andThen (W.looks_mroIn X (by unfold W.mroIn; rw [hcd, Option.bind_some, if_neg (by rw [hne]; decide), hm.ob]))
  refine codeAny_call_builtin SF.slot.plain SF.entry (@W.check_slot (model pr wd) _ _ ⟨hh, gg, dd, tt, oo⟩ "object.__setattr__" "object" "__setattr__" (.ref x)
    [.str nm tk, v] [] _ SF.kind SF.split sub (SF.args (.ref x) (.str nm tk) v) ?_)
  have lm : W.Looks (model pr wd) hh (mroOf (.ref C)) cd.mro := (W.looks_clsIn X hcd).andThen .now
  have lt : W.Looks (model pr wd) hh (storeTaker? none) none := .now
  have lc : W.Looks (model pr wd) hh (classData C) cd := W.looks_clsIn X hcd
  rw [W.osa_eq, refuse_eq]
  refine wpAny_bind (wpAny_bind (I.type.at (wpAny_bind (lm.at ?_))))
  rw [hm.pass]
  refine wpAny_pure (wpAny_bind (I.type.at (wpAny_bind ((W.looks_findIn X ha).at (wpAny_bind (lt.at ?_))))))
  show wpAny _ _ (storeInOwnDict (.ref x) (.ref C) (.str nm tk) nm v false) _ _ _
  obtain ⟨c1, c2, c3, c4, c5, c6, c7, c8, c9, c10, c11⟩ := cd
  dsimp only at hd
  subst hd
  unfold storeInOwnDict ownDictForStores
  repeat (first
    | with_reducible refine PySem.OEX.store_in_old hns hw hz ?_
    | with_reducible refine wpAny_loadPart_at hx ?_
    | with_reducible refine lc.at ?_
    | wp_step)
  intro h' tk' hn' hs
  exact hq h' tk' (fun b o hb ho => (hs.2 b hb).trans ho) hn'
end
/-! the three built-in bases -/
abbrev tailOf (B : String) : List Value := [.type B, .type "Exception", .type "BaseException", .type "object"]
theorem pass_VE : ∀ self, refuseLoop self "__setattr__" (tailOf "ValueError") = pure () := fun self => by kernel_rfl
theorem pass_LE : ∀ self, refuseLoop self "__setattr__" (tailOf "LookupError") = pure () := fun self => by kernel_rfl
theorem pass_AE : ∀ self, refuseLoop self "__setattr__" (tailOf "ArithmeticError") = pure () := fun self => by kernel_rfl
theorem mroOk2 {B : String} {a b : Addr} (hp : ∀ self, refuseLoop self "__setattr__" (tailOf B) = pure ()) : MroOk (.ref a :: .ref b :: tailOf B) :=
  ⟨fun self => by rw [refuseLoop_ref, refuseLoop_ref]; exact hp self, by simp [List.contains_cons], rfl⟩
end GX
end PySem
namespace PySem
namespace GX
open PySem.W PySem.Calls PyProof.Rows PySem.HandSPX
section
variable {pr : Program} {wd : World} {Ar : Around} {Er : Value → Shared → Prop} {s : Shared} {K : Frag} {x D : Addr} {ox : Obj} {od : Option Obj}
theorem classG {Q : Option Value → Shared → Prop} (T : L2.ExcC K D) (X : K.In s.heap) (I : InstAt s.heap x ox D od) (h : Q (some (.ref D)) { s with toks := s.toks + 1 }) :
    wpAny (model pr wd) Ar (getAttr? (.ref x) "__class__") Q Er s := by
  have cs : (clsIn K D).isSome = true := by
    obtain ⟨cd, hc, _⟩ := any_some T.hd
    rw [hc]; rfl
  have hf : findObj K D od "__class__" = some (.bind (.builtin "getset_descriptor.__get__") (.builtin "object.__class__")) := by
    cases od with
    | none => exact findObj_dataN cs T.ha T.hn T.ht
    | some o => exact findObj_data cs T.ha T.hn T.ht
  obtain ⟨hp, g, d, t, os⟩ := s
  have y0 := I.type (M := model pr wd)
  have y1 := looks_findIn (M := model pr wd) X T.hg
  have y2 := looks_findIn (M := model pr wd) X T.hk
  have y3 := looks_find (M := model pr wd) X I hf
  have sub : Looks (model pr wd) hp (isInstance (.ref x) (.type "BaseException")) true := y0.andThen (looks_subIn X T.hs)
  have e0 : (false && onTheHeap (Value.builtin "BaseException.__getattribute__")) = false := rfl
  have e2 : (Value.builtin "BaseException.__getattribute__" == Value.builtin "object.__getattribute__") = false := by
    decide +kernel
  have e1 : (onTheHeap (Value.ref D) && Value.builtin "BaseException.__getattribute__" == Value.builtin "object.__getattribute__") = false := by
    rw [e2]; rfl
  unfold getAttr? getAttrBy? getAttrBy
  refine wpAny_bind (wpAny_mkText (wpAny_bind (wpAny_attempt (wpAny_holding (wpAny_bind (y0.at (wpAny_bind (y1.at ?_))))))))
  show wpAny _ _ (if (onTheHeap (Value.ref D) && Value.builtin "BaseException.__getattribute__" == Value.builtin "object.__getattribute__") = true then _ else _) _ _ _
  rw [e1, if_neg Bool.false_ne_true]
  unfold getAttrByItsOwn hookBefore
  refine wpAny_bind ?_
  rw [if_pos (show onTheHeap (Value.ref D) = true from rfl)]
  refine y2.at ?_
  refine wpAny_bind (wpAny_attempt (wpAny_holding ?_))
  unfold callGetattribute
  rw [e0, if_neg Bool.false_ne_true]
  unfold boundAndCalled
  rw [PySem.F.excAttr_ValueError.ga.bind (.ref x)]
  refine wpAny_bind (wpAny_pure ?_)
  show wpAny _ _ (call (.builtin "BaseException.__getattribute__") [.ref x, .str "__class__" t]) _ _ _
  refine wpAny_call (codeAny_call_builtin PySem.F.excAttr_ValueError.ga.plain PySem.F.entry_bexc_ga ?_)
  refine @check_slot (model pr wd) _ _ ⟨hp, g, d, t + 1, os⟩ "BaseException.__getattribute__" "BaseException" "__getattribute__" (.ref x)
    [.str "__class__" t] [] _ (by decide +kernel) (by decide +kernel) sub (PySem.F.args_bexc_ga (.ref x) (.str "__class__" t)) ?_
  unfold Builtin.«object.__getattribute__»
  refine wpAny_bind (wpAny_of_eq (a := ((Value.ref x : Value), [Value.str "__class__" t])) (by first | rfl | (simp only [slotArgs]; rfl)) ?_)
  refine wpAny_bind (wpAny_pure (wpAny_bind (y0.at (wpAny_bind (y3.at ?_)))))
  show wpAny _ _ (holding [Value.builtin "object.__class__"] (call (.builtin "getset_descriptor.__get__") [.builtin "object.__class__", .ref x, .ref D]) >>= ret) _ _ _
  refine wpAny_bind (wpAny_holding (wpAny_call (class_get (s := ⟨hp, g, d, t + 1, os⟩) (ox := ox) (od := od) X I T.hm ?_)))
  refine wpAny_pure ?_
  show wpAny _ _ (handedOut (.ref D)) _ _ _
  rw [handedOut_of (v := .ref D) rfl]
  first
    | exact wpAny_pure (wpAny_pure h)
    | exact wpAny_pure h
    | exact wpAny_pure (wpAny_bind (wpAny_pure (wpAny_pure h)))
theorem kitG (T : L2.ExcC K D) : KitX K (.ref x) (.ref D) (fun h => InstAt h x ox D od) where
  ty := fun _ _ _ I => I.type
  it := fun _ _ X _ => by
    obtain ⟨cdD, hcD, _⟩ := any_some T.hd
    unfold clsIn at hcD
    split at hcD
    · rename_i c' d' cd' sl' ho
      intro A' Q' E' s' k q
      unfold isType loadHead
      exact wpAny_bind (wpAny_loadPart (k _ _ (X _ _ ho)) (wpAny_pure q))
    · cases hcD
  ne := fun h tp dd its n sl X htp => by
    obtain ⟨cdD, hcD, _⟩ := any_some T.hd
    refine Bool.eq_false_iff.mpr fun q => ?_
    have e : D = tp := Value.ref.inj (beq_iff_eq.mp q)
    subst e
    unfold clsIn at hcD
    split at hcD
    · rename_i c' d' cd' sl' ho
      have z := (X _ _ ho).symm.trans htp
      cases z
    · cases hcD
  ca := fun X I k => classG T X I k
end
end GX
end PySem
namespace L2
open PySem PySem.Spec PyProof.Rows PySem.GX
/-- what the written part says of an own exception class at C over a built-in base -/
structure ExG (K : PySem.W.Frag) (C : Addr) : Prop extends ExcC K C where
  cls : ∃ (B nid iid : String) (b3 : List Value) (nm q : Str) (N : Addr) (bs bm : List Value) (sn : List Str) (sub : List Value) (ab : Bool) (col : Option Bool) (dd : Option Addr) (k0 k1 k2 k3 k5 : Option Value),
    ExcBaseFacts B nid iid b3 ∧ (∀ Y : String, bm.contains (.type Y) = b3.contains (.type Y)) ∧ MroOk (.ref C :: bm) ∧
    K.lookup C = some (excClassObj nm q C N bs bm true sn sub ab col dd k0 k1 k2 k3 k5 nid)
  sa : PySem.W.findIn K (.ref C) "__setattr__" = some (some (.builtin "object.__setattr__"))
  kC : PySem.W.keepIn K (.ref C) = true
/-- an exception at a of the class at C with the fields fs (its dict at d) -/
structure ExAt (H : Hp) (a C d : Addr) (fs : List (Str × V)) : Prop where
  ob : H a = some (exo a C (some d))
  di : H d = some (exd d fs)
section
variable {X : Cx} {pins : List (Addr × Obj)} {σ : St} {H : Hp} {s : Shared} {a C d : Addr} {fs : List (Str × V)}
/-- as the library's looks at an instance want it -/
theorem inst_ex {od : Option Addr} (I : Inv X pins σ H s) (e : H a = some (exo a C od)) (hd : ∀ dx, od = some dx → ∃ fs, H dx = some (exd dx fs)) :
    ∃ (ox : Obj) (o : Option Obj), PySem.W.InstAt s.heap a ox C o := by
  obtain ⟨t1, ho⟩ := exo_at I.hok e
  cases od with
  | none => exact ⟨_, none, ⟨ho, rfl, rfl, trivial⟩⟩
  | some dx =>
    obtain ⟨fs, ed⟩ := hd dx rfl
    obtain ⟨mA, ⟨o, es, ep, h1, h2⟩, _⟩ := exd_at I.hok ed
    exact ⟨_, some o, ⟨ho, rfl, rfl, h1⟩⟩
end
/-- isinstance(e, c), e an exception that is a value -/
def rIsX (K : PySem.W.Frag) : List V → Hp → VK → Prop := fun xs H Q => ∃ (a D : Addr) (od : Option Addr) (c : V) (u : Value) (b : Bool), xs = [.ref a, c] ∧ ExcC K D ∧ H a = some (exo a D od) ∧
  (∀ dx, od = some dx → ∃ fs, H dx = some (exd dx fs)) ∧ ClsV c u ∧ PySem.W.kitOne K (.ref D) u = some b ∧ Q (.bl b) H
theorem call_isX {X : Cx} : CallR X (.builtin "isinstance") (rIsX X.K) := by
  intro pins s σ H xs us Q I r h
  obtain ⟨a, D, od, c, u, b, rfl, T, e, hd, k, ek, q⟩ := h
  obtain ⟨u1, u2, rfl, r1, r2⟩ := vals2 r
  have e2 := k.eq r2
  subst e2
  obtain rfl : u1 = Value.ref a := r1
  obtain ⟨ox, o, J⟩ := inst_ex I e hd
  exact PySem.W.kia_one (kitG T) I.kIn J ek (fun z => nomatch z) fun tk => ⟨.bl b, H, I.tok tk, rfl, q⟩
section
variable {X : Cx} {pins : List (Addr × Obj)} {σ : St} {H : Hp} {s : Shared} {a C dx : Addr} {f : Str} {y : V} {u : Value} {fs : List (Str × V)}
/-- e.f -/
def tXf (K : PySem.W.Frag) (f : Str) (te : TE) : TE := fun σ H Q => te σ H fun x H1 => ∃ (a C d : Addr) (fs : List (Str × V)) (v : V), x = .ref a ∧ ExcC K C ∧ ExAt H1 a C d fs ∧
  PySem.W.findIn K (.ref C) f = some none ∧ fs.lookup f = some v ∧ Q v H1
theorem pe_xf {e : Expr} {te : TE} {pos : Pos} (he : PE X e te) (hb : attributeBase e f X.env (eval e X.env) = eval e X.env := by rfl) : PE X (.Attribute e f pos) (tXf X.K f te) := by
  refine ⟨fun pins s σ H Q I h => ?_⟩
  refine attr_of hb (thn (he.run pins s σ H _ I h) fun u s1 hh => ?_)
  obtain ⟨x, H1, I1, rx, a, C, d, fs, v, ex, T, ea, no, l, q⟩ := hh
  subst ex
  obtain rfl : u = Value.ref a := rx
  obtain ⟨t1, ho⟩ := exo_at I1.hok ea.ob
  obtain ⟨mA, hns, rel⟩ := exd_at I1.hok ea.di
  obtain ⟨od, hod, hl⟩ := lookIn_ns hns
  obtain ⟨u, hu, ru⟩ := RelO.some_of (v := v) (o := mA f) (by rw [← l]; exact rel f)
  have J : PySem.W.InstAt s1.heap a _ C (some od) := ⟨ho, rfl, rfl, hod⟩
  exact HandSPX.exc_get I1.kIn J T.hg T.hk T.hs (PySem.W.findObj_own T.hd no rfl (by rw [hl, hu])) (handed_of ru) ⟨v, H1, I1.tok _, ru, q⟩
end
end L2
namespace L2
open PySem PySem.Spec PyProof.Rows PySem.GX
section
variable {X : Cx} {pins : List (Addr × Obj)} {σ : St} {H : Hp} {s : Shared} {a C dx : Addr} {f : Str} {y : V} {u : Value} {fs : List (Str × V)} {Q : Unit → Shared → Prop} {Er : Value → Shared → Prop} {Ar : Around}
/-- the first store gives the exception its dict -/
theorem ostN (T : ExG X.K C) (I : Inv X pins σ H s) (e : H a = some (exo a C none)) (hno : PySem.W.findIn X.K (.ref C) f = some none) (ry : RelV y u)
    (h : ∀ dx s', H dx = none → dx ≠ a → Inv X pins σ (upd (upd H dx (exd dx [(f, y)])) a (exo a C (some dx))) s' → Q () s') :
    wpAny (model X.prog X.w) Ar (setAttr (.ref a) f u) Q Er s := by
  obtain ⟨B, nid, iid, b3, nm, q, N, bs, bm, sn, sub, ab, col, dd, k0, k1, k2, k3, k5, FB, hT, hM, hC⟩ := T.cls
  have hcl : PySem.W.clsIn X.K C = some { name := nm, bases := bs, mro := .ref C :: bm, ns := N, qualname := q, hasDict := true, slotNames := sn, subclasses := sub, abstract := ab, collection := col, hasDel := false } := by
    unfold PySem.W.clsIn; rw [hC] <;> rfl
  obtain ⟨t1, ho⟩ := exo_at I.hok e
  obtain ⟨hp, g, d, t, os⟩ := s
  refine PySem.W.set_plain I.kIn (ox := { cls := .ref C, dict := none, data := .fields #[.ref t1, .none, .none, .none, .bool false, .none] })
    (od := none) ⟨ho, rfl, rfl, trivial⟩ T.sa ?_
  refine osaN I.kIn ho hcl hM rfl hno (fun h' tk' dx k dn dne hx hn => ?_)
  have free1 : H dx = none := I.hok.fresh dn
  have ndx : ∀ {b : Addr} {o : Obj}, hp.get? b = some o → b ≠ dx :=
    fun {b o} q => Nat.ne_of_lt (Nat.lt_of_lt_of_le (Heap.lt_size q) dn)
  have nea : ∀ {b : Addr}, H b = none → b ≠ a := fun {b} n z => by
    rw [z, e] at n; cases n
  have U1 : Un X.fs [] H (upd (upd H dx (exd dx [(f, y)])) a (exo a C (some dx))) hp h' := by
    refine ⟨fun b o q n _ _ => k b o (nea n) q, fun b o q n _ _ => ⟨o.slots, k b o (nea n) q⟩, fun b o q n _ => ?_, fun b o q _ => ?_, fun b xs q => ?_, fun b o v q => ?_, fun b ps q => ⟨#[], ?_⟩⟩
    · rw [upd_ne (nea n), upd_ne (ndx q)]; exact n
    · by_cases hb : b = a
      · exact ⟨_, by rw [hb]; exact hx⟩
      · exact ⟨o, k b o hb q⟩
    · rw [upd_ne (at_ne e q exo_tup), upd_ne (ne_of_none q free1)]; exact q
    · rw [upd_ne (at_ne e q exo_frz), upd_ne (ne_of_none q free1)]; exact q
    · rw [upd_ne (at_ne e q exo_tbl), upd_ne (ne_of_none q free1), q]; simp
  refine h dx _ free1 dne (I.un (t' := tk') U1 fun b o q => ?_)
  by_cases hb : b = a
  · subst hb
    rw [upd_same] at q; cases q
    exact exo_ok hx
  · rw [upd_ne hb] at q
    by_cases hd : b = dx
    · subst hd
      rw [upd_same] at q; cases q
      exact exd_ok hn (relO_put (fs := []) ry fun g => True.intro)
    · rw [upd_ne hd] at q
      refine (I.hok b o q).stay (fun c v hc z => k c v ?_ z) (fun c hc => ?_) (fun c xs hc => ?_)
      · rcases hc with hc | hc
        · rw [hc]; exact hb
        · exact at_ne e hc exo_own
      · rw [upd_ne (at_ne e hc exo_own), upd_ne (ne_of_none hc free1)]; exact hc
      · rw [upd_ne (at_ne e hc exo_tup), upd_ne (ne_of_none hc free1)]; exact hc
theorem ostO (T : ExG X.K C) (I : Inv X pins σ H s) (e : H a = some (exo a C (some dx))) (ed : H dx = some (exd dx fs)) (hl : fs.length ≤ 900) (hno : PySem.W.findIn X.K (.ref C) f = some none) (ry : RelV y u)
    (h : ∀ s', Inv X pins σ (upd H dx (exd dx ((f, y) :: fs))) s' → Q () s') : wpAny (model X.prog X.w) Ar (setAttr (.ref a) f u) Q Er s := by
  obtain ⟨B, nid, iid, b3, nm, q, N, bs, bm, sn, sub, ab, col, dd, k0, k1, k2, k3, k5, FB, hT, hM, hC⟩ := T.cls
  have hcl : PySem.W.clsIn X.K C = some { name := nm, bases := bs, mro := .ref C :: bm, ns := N, qualname := q, hasDict := true, slotNames := sn, subclasses := sub, abstract := ab, collection := col, hasDel := false } := by
    unfold PySem.W.clsIn; rw [hC] <;> rfl
  obtain ⟨t1, ho⟩ := exo_at I.hok e
  obtain ⟨mA, hns, rel⟩ := exd_at I.hok ed
  have hw := within_of rel
  obtain ⟨hp, g, d, t, os⟩ := s
  obtain ⟨oD, _, _, hoD, _, _⟩ := hns.count hw
  refine PySem.W.set_plain I.kIn (ox := { cls := .ref C, dict := some dx, data := .fields #[.ref t1, .none, .none, .none, .bool false, .none] })
    (od := some oD) ⟨ho, rfl, rfl, hoD⟩ T.sa ?_
  refine osaO I.kIn ho hns hw (by rw [List.length_map]; omega) hcl hM rfl hno (fun h' tk' k hn => ?_)
  have hd : ∃ o, h'.get? dx = some o := by
    obtain ⟨o, _, _, e', _⟩ := hn
    exact ⟨o, e'⟩
  exact h _ (I.write (t' := tk') (x := dx) (e := dx) (o := exd dx ((f, y) :: fs)) (by rw [ed]; exact True.intro) (.inl rfl) k hd (exd_ok hn (relO_put ry rel)))
end
/-- self.f = e in an own exception's __init__ -/
def tOsG (K : PySem.W.Frag) (f : Str) (to te : TE) : TS := fun D σ H => te σ H fun y H1 => to σ H1 fun x H2 => ∃ a C : Addr, x = .ref a ∧ ExG K C ∧ PySem.W.findIn K (.ref C) f = some none ∧
  ((H2 a = some (exo a C none) ∧ ∀ dx, H2 dx = none → dx ≠ a → D.nx σ (upd (upd H2 dx (exd dx [(f, y)])) a (exo a C (some dx)))) ∨
    ∃ (dx : Addr) (fs : List (Str × V)), H2 a = some (exo a C (some dx)) ∧ H2 dx = some (exd dx fs) ∧ fs.length ≤ 900 ∧ D.nx σ (upd H2 dx (exd dx ((f, y) :: fs))))
/-- C(e, .., k = v, ..), C's own __init__ keeping sp: the exception stays a tracked value -/
def tMkG (C : Addr) (n m : Nat) (sp : Sp) (gV : List V → List V → List V) (t tk : TA) : TE := fun σ H Q => t σ H fun vs H1 => tk σ H1 fun zs H2 => vs.length = n ∧ zs.length = m ∧ vs.length ≤ 1000 ∧
  ∀ a, H2 a = none → sp (gV (.ref a :: vs) zs) (upd H2 a (exo a C none)) (fun v H3 => v = .non ∧ Q (.ref a) H3) (fun _ _ _ => False)
section
variable {X : Cx} {o e : Expr} {es : List Expr} {to te : TE} {ta tk : TA} {f : Str} {p p' p1 p2 pos : Pos} {kws : List Keyword} {ks : List Str} {n : Nat}
theorem ps_osG (ho : PE X o to) (he : PE X e te) (hs : swapsWith e (some (.Attribute o f p')) pos.line X.env = pure false := by rfl) : PS X (.Assign [.Attribute o f p'] e pos) (tOsG X.K f to te) := by
  refine ⟨fun pins s σ H D I h => ?_⟩
  refine plainObj_wpAny_Assign_Attribute (thn (he.run pins s σ H _ I h) fun v s1 ⟨y, H1, I1, r1, q1⟩ => thn (ho.run pins s1 σ H1 _ I1 q1) fun u s2 ⟨x, H2, I2, r2, a, C, ex, T, hno, q⟩ => ?_) hs
  subst ex
  obtain rfl : u = Value.ref a := r2
  rcases q with ⟨ea, q⟩ | ⟨dx, fs, ea, ed, hl, q⟩
  · exact ostN T I2 ea hno r1 fun dx s' n ne J => ⟨σ, _, J, q dx n ne⟩
  · exact ostO T I2 ea ed hl hno r1 fun s' J => ⟨σ, _, J, q⟩
variable {CX : CXT} {x : Str} {C fI : Addr} {k : Nat} {fd : FuncData} {ps : List Str} {sp : Sp} {g : List Value → List Value → List Value} {gV : List V → List V → List V}
theorem run_mkG {pins : List (Addr × Obj)} {σ : St} {H : Hp} {s : Shared} {Q : VK} {us ws : List Value} {vs zs : List V} (T : ExG X.K C) (iC : PySem.W.findIn X.K (.ref C) "__init__" = some (some (.ref fI)))
    (tI : PySem.W.typeIn X.K (.ref fI) = some (.type "function")) (F1 : FnOk X.prog X.w X.K X.mg X.base CX k fI fd ps sp) (hr : Room (k + 1) X.A) (hb : KBn X.K fd ps (n + 1) ks g gV) (hx : Passes CX X (fun _ _ _ => False))
    (I : Inv X pins σ H s) (r : Vals vs us) (rz : Vals zs ws) (l1 : vs.length = n) (l2 : zs.length = ks.length) (l3 : vs.length ≤ 1000)
    (h : ∀ a, H a = none → sp (gV (.ref a :: vs) zs) (upd H a (exo a C none)) (fun v H3 => v = .non ∧ Q (.ref a) H3) (fun _ _ _ => False)) :
    wpAny (model X.prog X.w) X.A (call (.ref C) us (ks.zip ws)) (EP X pins σ Q) X.xe s := by
  obtain ⟨B, nid, iid, b3, nm, q, N, bs, bm, sn, sub, ab, col, dd, k0, k1, k2, k3, k5, FB, hT, hM, hC⟩ := T.cls
  obtain ⟨hp, gn, dr, tkk, os⟩ := s
  have hsz : hp.objs.size ≤ hp.objs.size + 1 := Nat.le_succ _
  have hn : H (hp.objs.size + 1) = none := I.hok.fresh hsz
  have hq := h (hp.objs.size + 1) hn
  have kk : ∀ b o, hp.get? b = some o → ((hp.push (PySem.W.kdv_tup us)).push (PySem.HandSPX.excO C hp.objs.size)).get? b = some o :=
    fun b o e => Heap.get?_push_of_some _ (Heap.get?_push_of_some _ e)
  have hgt : ((hp.push (PySem.W.kdv_tup us)).push (PySem.HandSPX.excO C hp.objs.size)).get? (hp.objs.size + 1) = some (PySem.HandSPX.excO C hp.objs.size) := by
    heap_get
  have I2 : Inv X pins σ (upd H (hp.objs.size + 1) (exo (hp.objs.size + 1) C none)) ⟨(hp.push (PySem.W.kdv_tup us)).push (PySem.HandSPX.excO C hp.objs.size), gn, dr, tkk, os⟩ :=
    I.laid (t' := tkk) (a := hp.objs.size + 1) (o := exo (hp.objs.size + 1) C none)
      (h' := (hp.push (PySem.W.kdv_tup us)).push (PySem.HandSPX.excO C hp.objs.size)) kk hsz (exo_ok hgt)
  have r1 : Vals (V.ref (hp.objs.size + 1) :: vs) (Value.ref (hp.objs.size + 1) :: us) := .cons rfl r
  have r2 := hb.rel r1 rz
  have n1 : (Value.ref (hp.objs.size + 1) :: us).length = n + 1 := by
    rw [List.length_cons, ← r.length, l1]
  have hus : us.length ≤ sizeLine := by
    rw [← Paired.length r, sizeLine_eq]; omega
  refine wpAny_call (callK FB hT (I.kIn _ _ hC) (PySem.W.looks_findIn I.kIn iC) (fun self => PySem.W.bind_fn I.kIn self tI) hus
    (codeAny_mono (F1.run _ X.stack _ _ ⟨Value.ref (hp.objs.size + 1) :: us, ks.zip ws⟩ (g (Value.ref (hp.objs.size + 1) :: us) ws) _ _ (fun _ _ _ => False)
      (hr.make C us (ks.zip ws)) (I2.env0.make C us (ks.zip ws)) (hb.to _ (Value.ref (hp.objs.size + 1) :: us) ws I2.kIn n1 (rz.length.symm.trans l2)) r2 hq) fun r s' hq' => ?_))
  cases r with
  | error er => exact hx pins σ _ _ er s' I2 hq'
  | ok fl =>
    cases fl with
    | ret u =>
      obtain ⟨v, H', I3, rv, ev, q3⟩ := I2.after hq'
      subst ev
      exact ⟨rv, ⟨V.ref (hp.objs.size + 1), H', I3, rfl, q3⟩⟩
    | next => exact False.elim hq'
    | brk => exact False.elim hq'
    | cont => exact False.elim hq'
theorem pe_mkG (T : ExG X.K C) (iC : PySem.W.findIn X.K (.ref C) "__init__" = some (some (.ref fI))) (tI : PySem.W.typeIn X.K (.ref fI) = some (.type "function"))
    (F1 : FnOk X.prog X.w X.K X.mg X.base CX k fI fd ps sp) (hr : Room (k + 1) X.A) (hg : Gl X x) (hm : X.mg x = some (.ref C)) (hb : KBn X.K fd ps (n + 1) [] g gV) (hx : Passes CX X (fun _ _ _ => False)) (ha : PA X (e :: es) ta)
    (hdb : (x == ("__debug__" : Str)) = false := by decide) (he : starEach (e :: es) X.env = (false, eval e X.env) :: starEach es X.env := by rfl) (hpl : (backTo pos (starEach es X.env)).any (·.1) = false := by rfl) :
    PE X (.Call (.Name x p) (e :: es) [] pos) (tMkG C n 0 sp gV ta tNil) := by
  refine ⟨fun pins s σ H Q I h => ?_⟩
  refine wpAny_Call_Name_kw (ld_glob I hg hm ?_ hdb)
  refine PySem.W.callWith_K (h₀ := X.base) I.ok.mod.kin T.kC (thn (ha.run pos pins s σ H _ I h) fun us s1 ⟨vs, H1, I1, r, l1, l2, l3, q⟩ => ⟨I1.kIn, ?_⟩) he hpl
  exact run_mkG (ws := []) (zs := []) T iC tI F1 hr hb hx I1 r .nil l1 l2 l3 q
theorem pe_mkGK (T : ExG X.K C) (iC : PySem.W.findIn X.K (.ref C) "__init__" = some (some (.ref fI))) (tI : PySem.W.typeIn X.K (.ref fI) = some (.type "function"))
    (F1 : FnOk X.prog X.w X.K X.mg X.base CX k fI fd ps sp) (hr : Room (k + 1) X.A) (hg : Gl X x) (hm : X.mg x = some (.ref C)) (hb : KBn X.K fd ps 1 ks g gV) (hx : Passes CX X (fun _ _ _ => False)) (hkw : PK X kws tk)
    (hall : (backToKw pos (keywordEach kws X.env)).all (·.1.isSome) = true := by rfl) (hks : (backToKw pos (keywordEach kws X.env)).filterMap (·.1) = ks := by rfl) (hdb : (x == ("__debug__" : Str)) = false := by decide)
    (hpl : ((backTo pos (starEach [] X.env)).any (·.1) || (backToKw pos (keywordEach kws X.env)).any (·.1.isNone)) = false := by rfl) :
    PE X (.Call (.Name x p) [] kws pos) (tMkG C 0 ks.length sp gV tNil tk) := by
  refine ⟨fun pins s σ H Q I h => ?_⟩
  refine wpAny_Call_Name_kw (ld_glob I hg hm ?_ hdb)
  refine PySem.W.callWith_KW0 (h₀ := X.base) I.ok.mod.kin T.kC hall ?_ hpl
  refine thn (hkw.run pos pins s σ H _ I h) fun ws s2 ⟨zs, H2, I2, rz, l1, l2, l3, q2⟩ => ⟨I2.kIn, ?_⟩
  rw [hks]
  exact run_mkG (us := []) (vs := []) T iC tI F1 hr hb hx I2 .nil rz rfl l2 (Nat.zero_le _) q2
end
end L2
namespace L2
open PySem PySem.Spec PyProof.Rows PySem.GX
/-- flat things -/
inductive Fl : V → PyData → Prop
  | non : Fl .non .none
  | bl (b : Bool) : Fl (.bl b) (.bool b)
  | int (i : Int) : Fl (.int i) (.int i)
  | str (x : Str) : Fl (.str x) (.str x)
mutual
/-- the data that a value is, dicts of flat things among them -/
inductive Sh (K : PySem.W.Frag) (H : Hp) : V → PyData → Prop
  | fl {v : V} {d : PyData} : Fl v d → Sh K H v d
  | lst {a : Addr} {xs : List V} {ds : List PyData} : SqL K H a xs → ShAll K H xs ds → Sh K H (.ref a) (.list ds)
  | tup {a : Addr} {xs : List V} {ds : List PyData} : SqT K H a xs → ShAll K H xs ds → Sh K H (.ref a) (.tuple ds)
  | dic {a : Addr} {kvs : List (Key × V)} {kds : List (PyData × PyData)} : H a = some (.dK kvs) → Paired Fl (kvs.map fun p => kV p.1) (kds.map (·.1)) → Paired Fl (kvs.map (·.2)) (kds.map (·.2)) →
      Sh K H (.ref a) (.dict kds)
inductive ShAll (K : PySem.W.Frag) (H : Hp) : List V → List PyData → Prop
  | nil : ShAll K H [] []
  | cons {v : V} {vs : List V} {d : PyData} {ds : List PyData} : Sh K H v d → ShAll K H vs ds → ShAll K H (v :: vs) (d :: ds)
end
section
variable {pr : Program} {wd : World} {h0 : Heap}
theorem Fl.reads {v : V} {d : PyData} {u : Value} (f : Fl v d) (r : RelV v u) : Reads h0 u d [] := by
  cases f with
  | non => cases r; exact .none
  | bl b => cases r; exact .bool b
  | int i => obtain ⟨t, rfl⟩ := r; exact .int i t
  | str x => obtain ⟨t, rfl⟩ := r; exact .str x t
theorem Fl.repr {v : V} {d : PyData} {u : Value} (f : Fl v d) (r : RelV v u) (hs : d.showable = true) (hz : d.shown.length ≤ sizeLine) (n : Nat) (bs : List Addr) : ReprK pr wd bs h0 n u d.shown := by
  cases f with
  | non => cases r; simp only [PyData.shown]; exact .of_is ReprIs.none _ _ _
  | bl b => cases r; simp only [PyData.shown]; exact .of_is (ReprIs.bool b) _ _ _
  | int i => obtain ⟨t, rfl⟩ := r; simp only [PyData.shown]; exact .of_is (ReprIs.int t (by simpa [PyData.showable] using hs)) _ _ _
  | str x => obtain ⟨t, rfl⟩ := r; simp only [PyData.shown]; exact .of_is (ReprIs.str x t (by simpa only [PyData.shown] using hz)) _ _ _
theorem flAll_reads : ∀ {vs : List V} {ds : List PyData} {us : List Value}, Paired Fl vs ds → Vals vs us → ReadsAll h0 us ds []
  | _, _, _, .nil, .nil => .nil
  | _, _, _, .cons f t, .cons r q => ReadsAll.cons (as := []) (bs := []) (f.reads r) (flAll_reads t q)
theorem flAll_repr (n : Nat) (bs : List Addr) : ∀ {vs : List V} {ds : List PyData} {us : List Value}, Paired Fl vs ds → Vals vs us → PyData.showableAll ds = true → (∀ t ∈ PyData.shownAll ds, t.length ≤ sizeLine) → ReprAllK pr wd bs h0 n us (PyData.shownAll ds)
  | _, _, _, .nil, .nil, _, _ => by simp only [PyData.shownAll]; exact .nil
  | _, d :: ds, _, .cons f t, .cons r q, hs, hz => by
    have hs' : d.showable = true ∧ PyData.showableAll ds = true := by simpa [PyData.showableAll] using hs
    simp only [PyData.shownAll] at hz ⊢
    exact .cons (f.repr r hs'.1 (hz _ (List.mem_cons_self ..)) n bs) (flAll_repr n bs t q hs'.2 fun t ht => hz t (List.mem_cons_of_mem _ ht))
end
theorem pairs_split {P : Program} {w : World} : ∀ {es : List DictEntry} {kvs : List (Key × V)} {vs : List (Key × Value)}, Pairs (mixKind P w) es vs → KV kvs vs → Vals (kvs.map fun p => kV p.1) (es.map (·.key)) ∧ Vals (kvs.map (·.2)) (es.map (·.val))
  | _, _, _, .nil, .nil => ⟨.nil, .nil⟩
  | e :: es, (k, v) :: kvs, (k', u) :: vs, .cons h1 h2 t, .cons r q => by
    obtain ⟨a, b⟩ := pairs_split t q
    obtain ⟨r1, r2⟩ := r
    have r1' : k = k' := r1
    subst r1'
    have hk : keyIs k e.key = true := h1
    have h2' : e.val = u := h2
    have rk : RelV (kV k) e.key := by
      rcases keyIs_shape hk with ⟨i, t, rfl, q⟩ | ⟨x, t, rfl, q⟩
      · exact ⟨t, q⟩
      · exact ⟨t, q⟩
    exact ⟨.cons rk a, .cons (show RelV v e.val by rw [h2']; exact r2) b⟩
section
variable {X : Cx} {pins : List (Addr × Obj)} {σ : St} {H : Hp} {s : Shared}
mutual
theorem Sh.both (I : Inv X pins σ H s) : ∀ (d : PyData) (v : V) (u : Value), Sh X.K H v d → RelV v u → d.showable = true → d.shown.length ≤ sizeLine →
    (∃ as, Reads s.heap u d as) ∧ ∃ bs, ReadAtMost s.heap d.depth bs ∧ ReprK X.prog X.w bs s.heap d.depth u d.shown
  | .none, _, _, h, r, hs, hz => by
    cases h with
    | fl f => exact ⟨⟨_, f.reads r⟩, [], (fun _ z => nomatch z), f.repr r hs hz _ _⟩
  | .bool b, _, _, h, r, hs, hz => by
    cases h with
    | fl f => exact ⟨⟨_, f.reads r⟩, [], (fun _ z => nomatch z), f.repr r hs hz _ _⟩
  | .int i, _, _, h, r, hs, hz => by
    cases h with
    | fl f => exact ⟨⟨_, f.reads r⟩, [], (fun _ z => nomatch z), f.repr r hs hz _ _⟩
  | .str x, _, _, h, r, hs, hz => by
    cases h with
    | fl f => exact ⟨⟨_, f.reads r⟩, [], (fun _ z => nomatch z), f.repr r hs hz _ _⟩
  | .list ds, _, _, h, r, hs, hz => by
    cases h with
    | fl f => cases f
    | @lst a xs _ hq ha =>
      cases r
      obtain ⟨its, rv, ⟨o, n, ho, hc, _, hd⟩, _⟩ := I.list hq
      have hz' : (listText (PyData.shownAll ds)).length ≤ sizeLine := by simpa only [PyData.shown] using hz
      obtain ⟨⟨as, hr⟩, bs, hb, hk⟩ := Sh.bothAll I ds xs its ha rv (by simpa [PyData.showable] using hs) (fun t ht => Nat.le_trans (listText_mem_le ht) hz')
      have rr : Reads s.heap (.ref a) (.list ds) _ := Reads.list ho hc hd hr
      have hna : a ∉ bs := not_mem_of_deeper rr (by simp only [PyData.depth]; omega) hb
      refine ⟨⟨_, rr⟩, a :: bs, ReadAtMost.cons rr (by simp only [PyData.depth]; omega) hb, ?_⟩
      simp only [PyData.depth, PyData.shown]
      cases its with
      | nil =>
        cases hr
        simp only [PyData.shownAll, listText_nil]
        exact ReprK.listEmpty ho hc hd
      | cons x l => exact ReprK.list ho hc hd hna (by simpa using hk.length_eq) (fun i y e => hk.item i y (by simpa using e))
  | .tuple ds, _, _, h, r, hs, hz => by
    cases h with
    | fl f => cases f
    | @tup a xs _ hq ha =>
      cases r
      obtain ⟨its, rv, ⟨o, ho, hc, n, hd⟩, _⟩ := I.tuple hq
      have hz' : (tupleText (PyData.shownAll ds)).length ≤ sizeLine := by simpa only [PyData.shown] using hz
      obtain ⟨⟨as, hr⟩, bs, hb, hk⟩ := Sh.bothAll I ds xs its ha rv (by simpa [PyData.showable] using hs) (fun t ht => Nat.le_trans (tupleText_mem_le ht) hz')
      have rr : Reads s.heap (.ref a) (.tuple ds) _ := Reads.tuple ho hc hd hr
      have hna : a ∉ bs := not_mem_of_deeper rr (by simp only [PyData.depth]; omega) hb
      refine ⟨⟨_, rr⟩, a :: bs, ReadAtMost.cons rr (by simp only [PyData.depth]; omega) hb, ?_⟩
      simp only [PyData.depth, PyData.shown]
      exact ReprK.tuple ho hc hd hna hk
  | .dict kds, _, _, h, r, hs, hz => by
    cases h with
    | fl f => cases f
    | @dic a kvs _ hq fk fv =>
      cases r
      obtain ⟨_, hsys, vs, rkv, o, es, ep, ho, ⟨hc, _⟩, hd, _, hp, _⟩ := I.hok a _ hq
      obtain ⟨vk, vv⟩ := pairs_split hp rkv
      obtain ⟨hs1, hs2⟩ := PyData.showableKv_split kds (by simpa [PyData.showable] using hs)
      have hz' : (dictText (PyData.shownKv kds)).length ≤ sizeLine := by simpa only [PyData.shown] using hz
      have k1 : ReprAllK X.prog X.w [] s.heap (PyData.depthKv kds) _ _ := flAll_repr (PyData.depthKv kds) [] fk vk hs1 (fun t ht => by
        obtain ⟨p, hp, hl⟩ := PyData.shownKv_key_le kds t ht
        exact Nat.le_trans hl (Nat.le_trans (dictText_mem_le hp) hz'))
      have k2 : ReprAllK X.prog X.w [] s.heap (PyData.depthKv kds) _ _ := flAll_repr (PyData.depthKv kds) [] fv vv hs2 (fun t ht => by
        obtain ⟨p, hp, hl⟩ := PyData.shownKv_val_le kds t ht
        exact Nat.le_trans hl (Nat.le_trans (dictText_mem_le hp) hz'))
      have rr : Reads s.heap (.ref a) (.dict kds) _ := Reads.dict ho hc hd (flAll_reads fk vk) (flAll_reads fv vv)
      refine ⟨⟨_, rr⟩, [a], ReadAtMost.cons rr (n := 0) (Nat.zero_le _) (fun _ z => nomatch z), ?_⟩
      simp only [PyData.depth, PyData.shown, PyData.shownKv_eq]
      exact ReprK.dict ho hc hd hsys (fun z => nomatch z) (ReprEntriesK.of_two es.toList _ _ k1 k2)
theorem Sh.bothAll (I : Inv X pins σ H s) : ∀ (ds : List PyData) (vs : List V) (us : List Value), ShAll X.K H vs ds → Vals vs us → PyData.showableAll ds = true → (∀ t ∈ PyData.shownAll ds, t.length ≤ sizeLine) →
    (∃ as, ReadsAll s.heap us ds as) ∧ ∃ bs, ReadAtMost s.heap (PyData.depthAll ds) bs ∧ ReprAllK X.prog X.w bs s.heap (PyData.depthAll ds) us (PyData.shownAll ds)
  | [], _, _, h, r, _, _ => by
    cases h
    cases r
    refine ⟨⟨_, ReadsAll.nil⟩, [], (fun _ z => nomatch z), ?_⟩
    simp only [PyData.shownAll]
    exact .nil
  | d :: ds, _, _, h, r, hs, hz => by
    cases h with
    | cons h1 h2 =>
      cases r with
      | cons r1 r2 =>
        have hs' : d.showable = true ∧ PyData.showableAll ds = true := by simpa [PyData.showableAll] using hs
        simp only [PyData.shownAll] at hz
        obtain ⟨⟨as, q1⟩, b1, hb1, k1⟩ := Sh.both I d _ _ h1 r1 hs'.1 (hz _ (List.mem_cons_self ..))
        obtain ⟨⟨bs, q2⟩, b2, hb2, k2⟩ := Sh.bothAll I ds _ _ h2 r2 hs'.2 (fun t ht => hz t (List.mem_cons_of_mem _ ht))
        refine ⟨⟨_, ReadsAll.cons q1 q2⟩, b1 ++ b2, ?_, ?_⟩
        · simp only [PyData.depthAll]
          exact (hb1.mono (Nat.le_max_left _ _)).append (hb2.mono (Nat.le_max_right _ _))
        · simp only [PyData.depthAll, PyData.shownAll]
          exact .cons ((k1.more fun b hb => List.mem_append_left _ hb).level_le (Nat.le_max_left _ _)) (k2.more_le (fun b hb => List.mem_append_right _ hb) (Nat.le_max_right _ _))
end
end
/-- repr(x), x a list -/
def rRepr (K : PySem.W.Frag) : List V → Hp → VK → Prop := fun xs H Q => ∃ (a : Addr) (ds : List PyData), xs = [.ref a] ∧ Sh K H (.ref a) (.list ds) ∧ PyData.showableAll ds = true ∧ (PyData.list ds).shown.length ≤ sizeLine ∧ (PyData.list ds).depth ≤ 60 ∧
  Q (.str (PyData.list ds).shown) H
theorem call_reprL {X : Cx} (hg : X.A.guards = some []) (hu : X.A.units + 64 < cLine) : CallR X (.builtin "repr") (rRepr X.K) := by
  intro pins s σ H xs us Q I r h
  obtain ⟨a, ds, rfl, hsh, hs, hz, hdp, q⟩ := h
  cases r with
  | cons r1 r2 =>
    cases r2
    cases r1
    cases hsh with
    | fl f => cases f
    | @lst _ xs _ hq ha =>
      obtain ⟨its, rv, ⟨o, n, ho, hc, _, hd⟩, _⟩ := I.list hq
      have hz' : (listText (PyData.shownAll ds)).length ≤ sizeLine := by simpa only [PyData.shown] using hz
      obtain ⟨⟨as, hr⟩, bs, hb, hk⟩ := Sh.bothAll I ds xs its ha rv hs (fun t ht => Nat.le_trans (listText_mem_le ht) hz')
      have rr : Reads s.heap (.ref a) (.list ds) _ := Reads.list ho hc hd hr
      have hna : a ∉ bs := not_mem_of_deeper rr (by simp only [PyData.depth]; omega) hb
      simp only [PyData.depth] at hdp
      simp only [PyData.shown] at q
      refine call_repr_slot (by omega) ⟨o, ho, hc⟩ F.slot_list_repr.toG ?_
      have fin : ∀ (h' : Heap) (u : Tok) (tk : Nat), (∀ b o, s.heap.get? b = some o → h'.get? b = some o) → EP X pins σ Q (.str (listText (PyData.shownAll ds)) u) { s with heap := h', toks := tk } :=
        fun h' u tk k => ⟨.str (listText (PyData.shownAll ds)), H, I.kept k, ⟨u, rfl⟩, q⟩
      cases its with
      | nil =>
        cases hr
        simp only [PyData.shownAll, listText_nil] at fin
        exact call_list_repr_empty ⟨o, ho, hc⟩ ho hd ⟨_, _, rfl, fin s.heap _ _ fun _ _ e => e⟩
      | cons x l =>
        exact call_list_reprK ho hc hd hna (by simpa using hk.length_eq) (fun i y e => hk.item i y (by simpa using e)) hg (fun b _ => Clear.nil b)
          (by show X.A.units + 1 + _ < cLine; omega) (fun _ _ e => e) (fun h' u tk k => ⟨_, _, rfl, fin h' u tk k⟩) hz'
end L2
namespace L2
open PySem PySem.Spec PyProof.Rows PySem.GX
/-- a def's promise where no repr is under way -/
structure FnG (P : Program) (w : World) (K : PySem.W.Frag) (mg : Str → Option Value) (base : Heap) (CX : CXT) (k : Nat) (f : Addr) (fd : FuncData) (ps : List Str) (sp : Sp) : Prop where
  len : ∀ vs H Q E, sp vs H Q E → vs.length = ps.length
  run : ∀ (A : Around) (outer : List Env) (s : Shared) (H : Hp) (args : Args) (us : List Value) (vs : List V) (Q : VK) (E : XK), A.guards = some [] → Room k A → Env0 P w K mg base A outer s H →
    BindsTo s fd args (ps.zip us) → Vals vs us → sp vs H Q E → codeAny (model P w) A (.call (.ref f) args) (CR CX outer P w H s Q E) s
section
variable {P : Program} {w : World} {K : PySem.W.Frag} {mg : Str → Option Value} {base : Heap} {CX : CXT}
theorem fnG_of {k : Nat} {f : Addr} {name qual : Str} {params : Arguments} {body : List Stmt} {scope : Scope} {dV kV doc pm cdv ct oc : Value} {an od : Option Addr}
    {osl : Array (Option Value)} {N ps : List Str} {sp : Sp} (lk : K.lookup f = some ⟨oc, od, .func (PySem.W.fnOf name qual params body scope dV kV doc pm an cdv ct), osl⟩)
    (hcd : PySem.W.codeIn K cdv qual = true) (S : FnScope N ps scope) (len : ∀ vs H Q E, sp vs H Q E → vs.length = ps.length)
    (hbody : ∀ (A : Around) (outer : List Env) (s : Shared) (H : Hp) (vs : List V) (Q : VK) (E : XK), A.guards = some [] → Room k (A.deeper (envOfC qual scope s.heap.objs.size f cdv)) → sp vs H Q E →
      ∃ t, PSs (cxOf CX P w K mg base N qual scope f cdv A outer s H E) body t ∧ t { nx := fun _ H' => Q .non H', rt := Q } (start N vs) H) :
    FnG P w K mg base CX (k + 1) f (PySem.W.fnOf name qual params body scope dV kV doc pm an cdv ct) ps sp := by
  refine ⟨len, fun A outer s H args us vs Q E hgd hr e0 hb r hsp => ?_⟩
  have hl := len _ _ _ _ hsp
  have KX : K.In s.heap := e0.mod.kin.keeps fun b o e => (e0.bs b o e).1
  have lim : s.heap.NoLimit := e0.mod.nolimit.keeps fun b o e => (e0.bs b o e).1
  have hkind : ∀ y ∈ ps.zip us, scope.names.lookup y.1 = some .local ∨
      (scope.names.lookup y.1 = some .cell ∧ ((cellsFrom (s.heap.objs.size + 1) scope.names []).lookup y.1).isSome = true) := fun ⟨n, v⟩ hy => by
    rcases S.par n (List.of_mem_zip hy).1 with q | q
    · exact .inl q
    · exact .inr ⟨q, PySem.W.cellsFrom_some _ _ _ (.inl q)⟩
  refine codeAny_call_function hr.depth (KX _ _ lk) rfl S.co S.gen rfl (PySem.W.codeRec_of KX hcd) (hb _ _ _ _ ?_)
  refine wpAny_newFunctionEnv_cells S.kind hkind fun env he s1 x => ?_
  subst he
  refine ⟨lim.keeps x.toInCall.keep, codeAny_func ?_⟩
  obtain ⟨t, ht, hq⟩ := hbody A outer s H vs Q E hgd (hr.deeper _) hsp
  have I : Inv (cxOf CX P w K mg base N qual scope f cdv A outer s H E) [] (start N vs) H s1 := inv_start S hr.hd e0 hl r x
  refine wpAny_mono (ht.run [] s1 (start N vs) H _ I hq) (fun fl s' hs => ?_) fun e s' hs => hs
  cases fl with
  | ret u =>
    obtain ⟨v, σ', H', J, rv, q⟩ := hs
    exact ⟨v, H', J.os, J.bare, J.base, J.hok, rv, q⟩
  | next =>
    obtain ⟨σ', H', J, q⟩ := hs
    exact ⟨V.non, H', J.os, J.bare, J.base, J.hok, rfl, q⟩
  | brk =>
    obtain ⟨_, _, _, q⟩ := hs
    exact False.elim q
  | cont =>
    obtain ⟨_, _, _, q⟩ := hs
    exact False.elim q
theorem Fun.okG {x qual : Str} {st : Stmt} {f : Addr} {fd : FuncData} {N ps : List Str} {k : Nat} {sp : Sp} (F : Fun K x qual st f fd) (S : FnScope N ps (defScope st)) (len : ∀ vs H Q E, sp vs H Q E → vs.length = ps.length)
    (hbody : ∀ (cdv : Value) (A : Around) (outer : List Env) (s : Shared) (H : Hp) (vs : List V) (Q : VK) (E : XK), A.guards = some [] → Room k (A.deeper (envOfC qual (defScope st) s.heap.objs.size f cdv)) → sp vs H Q E →
      ∃ t, PSs (cxOf CX0 P w K mg base N qual (defScope st) f cdv A outer s H E).nox (defBody st) t ∧ t { nx := fun _ H' => Q .non H', rt := Q } (start N vs) H) : FnG P w K mg base CX0 (k + 1) f fd ps sp := by
  obtain ⟨oc, od, kV, doc, pm, an, cdv, ct, osl, rfl, lk, hcd⟩ := F.ex
  refine fnG_of lk hcd S len fun A outer s H vs Q E hgd hr hsp => ?_
  obtain ⟨t, h, q⟩ := hbody cdv A outer s H vs Q E hgd hr hsp
  exact ⟨t, h.nox, q⟩
end
section
variable {X : Cx} {CX : CXT} {k : Nat} {f C : Addr} {fd : FuncData} {ps : List Str} {sp : Sp} {E : XK} {x : Str} {p pos : Pos} {e : Expr} {es : List Expr} {t : TA}
theorem pe_callG (F : FnG X.prog X.w X.K X.mg X.base CX k f fd ps sp) (hgd : X.A.guards = some []) (hr : Room k X.A) (hg : Gl X x) (hm : X.mg x = some (.ref f)) (hk : PySem.W.keepIn X.K (.ref f) = true) (hb : Binds X.K fd ps []) (hx : Passes CX X E)
    (ha : PA X (e :: es) t) (hdb : (x == ("__debug__" : Str)) = false := by decide) (he : starEach (e :: es) X.env = (false, eval e X.env) :: starEach es X.env := by rfl) (hpl : (backTo pos (starEach es X.env)).any (·.1) = false := by rfl) :
    PE X (.Call (.Name x p) (e :: es) [] pos) (tCall sp [] E t) := by
  refine ⟨fun pins s σ H Q I h => ?_⟩
  refine wpAny_Call_Name_kw (ld_glob I hg hm ?_ hdb)
  refine PySem.W.callWith_K (h₀ := X.base) I.ok.mod.kin hk (thn (ha.run pos pins s σ H _ I h) fun us s1 ⟨vs, H1, I1, r, q⟩ => ⟨I1.kIn, ?_⟩) he hpl
  have r2 : Vals (vs ++ []) (us ++ []) := r.append .nil
  have hl : (us ++ []).length = ps.length := by rw [← r2.length]; exact F.len _ _ _ _ q
  refine wpAny_call (codeAny_mono (F.run X.A X.stack s1 H1 ⟨us, []⟩ (us ++ []) (vs ++ []) Q E hgd hr I1.env0 (hb s1 us I1.kIn hl) r2 q) fun r s' hq => ?_)
  cases r with
  | error e => exact hx pins σ H1 s1 e s' I1 hq
  | ok fl =>
    cases fl with
    | ret u => exact I1.after hq
    | next => exact False.elim hq
    | brk => exact False.elim hq
    | cont => exact False.elim hq
/-- X(), an own exception class without own __init__ -/
theorem pe_exc0G {bmB : List Value} {B nid iid : String} (F : ExcBaseFacts B nid iid bmB) (q : PySem.W.excIn X.K C bmB nid = true) (gC : X.mg x = some (.ref C)) (kC : PySem.W.keepIn X.K (.ref C) = true) (hg : Gl X x)
    (hdb : (x == ("__debug__" : Str)) = false := by decide) :
    PE X (.Call (.Name x p) [] [] pos) (fun σ H Q => ∀ a, H a = none → Q (.ref a) (upd H a (exo a C none))) := by
  refine ⟨fun pins s σ H Q I h => ?_⟩
  refine wpAny_Call_Name_kw (ld_glob I hg gC ?_ hdb)
  refine PySem.W.callWith_K0 I.kIn kC ?_
  obtain ⟨bm, N, nm, qn, bs, hdct, sn, sub, ab, col, dd, k0, k1, k2, k3, k5, mN, hC, hN, hni, T⟩ := exc_obj I.kIn q
  refine wpAny_call_exc_subT F T hC hN hni (fun h' a hm => ?_) (by show 0 ≤ sizeLine; exact Nat.zero_le _)
  have hn : H a = none := I.hok.gone hm.new
  obtain ⟨t, ht, _, _⟩ := hm.there
  exact ⟨.ref a, upd H a (exo a C none), I.laidN hm.keeps hm.new hn (exo_ok ht), rfl, h a hn⟩
end
/-- the law's call, its promise where no repr is under way -/
theorem law_callG {P : Program} {w : World} {K : PySem.W.Frag} {mg mb : Str → Option Value} {CX : CXT} {k : Nat} {fa a : Addr} {fd : FuncData} {x : Str} {sp : Sp} {s1 : Shared} {vs : List Value} {ns : List Int}
    (KX : K.In s1.heap) (hns : s1.heap.Ns mainGlobals mg) (hb : s1.heap.Ns builtinsNs mb) (hbb : ∀ x : Str, x ≠ "__name__" → mb x = bootBuiltins x) (hlim : s1.heap.NoLimit) (hg : s1.gens = #[])
    (ha : s1.heap.get? a = some { cls := .type "list", data := .seq vs.toArray }) (hi : IntsAre vs ns) (hl : ns.length ≤ sizeLine) (hr : Room k callerA)
    (F : ∀ base : Heap, K.In base → base.Ns mainGlobals mg → FnG P w K mg base CX k fa fd [x] sp) (hbind : ∀ (s : Shared) (u : Value), BindsTo s fd ⟨[u], []⟩ [(x, u)])
    (hsp : ∀ H : Hp, Only H → SqL K H a (ns.map V.int) → sp [.ref a] H (fun v _ => v = .bl true) fun _ _ _ => False)
    (hCX : ∀ H e s', CX [] H s1 (fun _ _ _ => False) e s' → False) :
    codeAny (model P w) callerA (.call (.ref fa) ⟨[.ref a], []⟩) (fun r s' => r = .ok (.ret (.bool true)) ∧ OldK s1.heap s'.heap ∧ s'.os = s1.os ∧ AllBare s'.gens) s1 := by
  have rv := vals_ints hi
  have lenV := hi.length
  have core : ∀ H : Hp, Only H → SqL K H a (ns.map V.int) → HOk P w H s1.heap → (∀ b, H b ≠ none → b = a) → (H a ≠ none → K.lookup a = none) →
      codeAny (model P w) callerA (.call (.ref fa) ⟨[.ref a], []⟩) (fun r s' => r = .ok (.ret (.bool true)) ∧ OldK s1.heap s'.heap ∧ s'.os = s1.os ∧ AllBare s'.gens) s1 := by
    intro H hO hS hok hA hK
    have isA : ∀ {b : Addr} {u : HO}, H b = some u → b = a := fun {b u} q => hA b (by rw [q]; simp)
    have nod : ∀ {b : Addr} {o : Obj} {es : Array DictEntry} {ep : Nat}, s1.heap.get? b = some o → o.data = .dict es ep → H b = none := fun {b o es ep} e d => by
      cases q : H b with
      | none => rfl
      | some u =>
        have e1 := isA q
        subst e1
        rw [ha] at e
        cases e
        cases (show Data.seq vs.toArray _ = Data.dict es ep from d)
    have nsK : ∀ {b : Addr} {m : Str → Option Value}, s1.heap.Ns b m → (hidT s1.heap H).Ns b m :=
      fun {b m} ⟨o, es, ep, e, d, r⟩ => ⟨o, es, ep, hidT_get e (nod e d), d, r⟩
    have hKb : K.In (hidT s1.heap H) := fun b o e => hidT_get (KX b o e) (by
      cases q : H b with
      | none => rfl
      | some u =>
        have e1 := isA q
        subst e1
        rw [hK (by rw [q]; simp)] at e
        cases e)
    have hM : Mod K mg (hidT s1.heap H) :=
      ⟨hKb, nsK hns, ⟨mb, nsK hb, hbb⟩, let ⟨mc, h1, h2⟩ := hlim; ⟨mc, nsK h1, h2⟩⟩
    have e0 : Env0 P w K mg (hidT s1.heap H) callerA [] s1 H :=
      ⟨rfl, hM, fun b o e => of_hidT e, Nat.le_of_eq (hidT_size _ _), trivial, fun b hb => absurd (show b ∈ ([] : List Addr) from hb) (by simp), hok, .of_eq hg⟩
    refine codeAny_mono ((F _ hKb (nsK hns)).run callerA [] s1 H ⟨[.ref a], []⟩ [.ref a] [.ref a] _ _ rfl hr e0 (hbind s1 (.ref a)) (.cons rfl .nil) (hsp H hO hS)) fun r s' h => ?_
    cases r with
    | error e => exact (hCX H e s' h).elim
    | ok fl =>
      cases fl with
      | next => exact False.elim h
      | brk => exact False.elim h
      | cont => exact False.elim h
      | ret u =>
        obtain ⟨v, H', os, bare, un, hok', r', q⟩ := h
        have qv : v = .bl true := q
        subst qv
        obtain rfl : u = Value.bool true := r'
        refine ⟨rfl, OldK.of_keep fun b o e => ?_, os, bare⟩
        cases q : H b with
        | none => exact un.keep b o e q (by intro z; exact absurd (show b ∈ ([] : List Addr) from z) (by simp)) (by simp)
        | some u =>
          rcases hO b with z | ⟨ob, xs, z⟩
          · rw [q] at z; cases z
          · have z2 := un.frzs b ob _ z
            obtain ⟨e1, _⟩ := hok b _ z
            obtain ⟨e2, _⟩ := hok' b _ z2
            rw [e] at e1
            cases e1
            exact e2
  cases hk : K.lookup a with
  | some o =>
    have e := KX a o hk
    rw [ha] at e
    cases e
    refine core (fun _ => none) (fun _ => .inl rfl) (.inr ⟨_, vs.toArray, _, hk, rfl, rfl, rfl, by rw [List.size_toArray, lenV]; exact hl, by simpa using rv⟩)
      (fun b u z => by cases (show (none : Option HO) = some u from z)) (fun b z => absurd rfl z) fun z => absurd rfl z
  | none =>
    refine core (fun b => if b = a then some (.frz { cls := .type "list", data := .seq vs.toArray } (.lst (ns.map V.int))) else none)
      (fun b => ?_) (.inl (.inr ⟨{ cls := .type "list", data := .seq vs.toArray }, if_pos rfl⟩)) (fun b u z => ?_) (fun b z => ?_) fun _ => hk
    · by_cases hb : b = a
      · exact .inr ⟨_, _, if_pos hb⟩
      · exact .inl (if_neg hb)
    · by_cases hb : b = a
      · have z1 := (if_pos hb).symm.trans z
        cases z1
        subst hb
        exact ⟨ha, by rw [List.length_map]; exact hl, vs, _, rv, ha⟩
      · have z1 := (if_neg hb).symm.trans z
        cases z1
    · by_cases hb : b = a
      · exact hb
      · exact absurd (if_neg hb) z
theorem walk_G {l : PySem.W.OpenLaw} {n k : Nat} {q : Program} {loose : List Str} {XP : (Str → Option Value) → Heap → Prop} {YP : World → Heap → Prop} {d : DefRec} {K : Params → PySem.W.Frag} {sp : PySem.W.Frag → Sp} {x : Str}
    (hn : l.most = some n) (hn2 : n ≤ sizeLine) (hdf : d.params.defaults = []) (hr : Room k callerA)
    (hY : ∀ (w : World) (h : Heap), YP w h → (K w.params).In h)
    (F : ∀ (w : World) (mg : Str → Option Value) (fa : Addr) (h : Heap), (K w.params).In h → h.Ns mainGlobals mg → mg d.name = some (.ref fa) →
      ∃ fd : FuncData, (∀ (s : Shared) (u : Value), BindsTo s fd ⟨[u], []⟩ [(x, u)]) ∧
        ∀ base : Heap, (K w.params).In base → base.Ns mainGlobals mg → FnG l.prog w (K w.params) mg base CX0 k fa fd [x] (sp (K w.params)))
    (hsp : ∀ (K : PySem.W.Frag) (H : Hp) (a : Addr) (ns : List Int), ns.length ≤ n → Only H → SqL K H a (ns.map V.int) → sp K [.ref a] H (fun v _ => v = .bl true) fun _ _ _ => False) :
    PySem.W.WalkO q loose XP YP l.row.toRowW d [] (fun f vs => PySem.call f vs) := by
  refine Att.attach_call hn hdf fun w s₀ s1 mg mb fa o pm cd doc a vs ns G Y ho hd hcd hmg hobj hints hlen hg => ?_
  have KX := hY w _ Y
  obtain ⟨fd, hb, hF⟩ := F w mg fa _ KX G.T.g hmg
  exact law_callG KX G.T.g G.T.b G.T.builtins G.T.nolimit hg hobj hints (Nat.le_trans hlen hn2) hr hF hb (fun H hO hS => hsp (K w.params) H a ns hlen hO hS) fun _ _ _ z => z
end L2
namespace L2
open PySem PySem.Spec PyProof.Rows PySem.GX
/-! sets of texts that can be walked: ys are the members, none twice -/
def keyS (e : Int × Value) : Str := match e.2 with | .str k _ => k | _ => Str.empty
def GoodS (w : World) (e : Int × Value) : Prop := ∃ k tk, e.2 = Value.str k tk ∧ e.1 = hashStr w k
def SetT (w : World) (h : Heap) (a : Addr) (ys : List Str) : Prop :=
  ∃ o es ep t, h.get? a = some o ∧ o.ExactSet ∧ o.data = .set es ep t ∧ (∀ e ∈ es.toList, GoodS w e) ∧ (es.toList.map keyS).Perm ys ∧ ys.Nodup ∧
    es.size < scanBound ∧ t.fits es.size = true ∧ Ris t.place.toList ∧ (w.params.followText "set-order" = true ∨ t.led = true)
/-- one more member -/
def ins (ys : List Str) (k : Str) : List Str := if k ∈ ys then ys else k :: ys
theorem ins_nodup {ys : List Str} {k : Str} (h : ys.Nodup) : (ins ys k).Nodup := by
  unfold ins
  split
  · exact h
  · exact List.nodup_cons.mpr ⟨‹_›, h⟩
theorem ins_len (ys : List Str) (k : Str) : (ins ys k).length ≤ ys.length + 1 := by
  unfold ins
  split
  · omega
  · rw [List.length_cons]; omega
section
variable {P : Program} {w : World} {h h' : Heap} {a : Addr} {ys : List Str}
theorem SetT.at (R : SetT w h a ys) (k : ∀ o, h.get? a = some o → h'.get? a = some o) : SetT w h' a ys := by
  obtain ⟨o, es, ep, t, ho, r⟩ := R
  exact ⟨o, es, ep, t, k o ho, r⟩
theorem goodS_elems {l : List (Int × Value)} (g : ∀ e ∈ l, GoodS w e) : ElemsOf (strKind P w) l := fun e he => by
  obtain ⟨k, tk, h1, h2⟩ := g e he
  exact ⟨⟨k, by rw [h1]; exact strKind_is P w k tk, h2⟩, by rw [h1] <;> rfl⟩
theorem goodS_is {e : Int × Value} (g : GoodS w e) (k : Str) : (strKind P w).is k e.2 = true ↔ keyS e = k := by
  obtain ⟨k0, tk, h1, _⟩ := g
  unfold keyS
  rw [h1]
  constructor
  · intro z
    obtain ⟨t, e2⟩ := Value.isStrOf_shape (x := k) (v := .str k0 tk) z
    cases e2
    rfl
  · intro z
    have z' : k0 = k := z
    rw [z']
    exact strKind_is P w k tk
theorem goodS_mem {l : List (Int × Value)} (g : ∀ e ∈ l, GoodS w e) (k : Str) : k ∈ l.map keyS ↔ ∃ e ∈ l, (strKind P w).is k e.2 = true := by
  rw [List.mem_map]
  constructor
  · rintro ⟨e, he, q⟩
    exact ⟨e, he, (goodS_is (g e he) k).2 q⟩
  · rintro ⟨e, he, q⟩
    exact ⟨e, he, (goodS_is (g e he) k).1 q⟩
end
section
variable {P : Program} {w : World} {A : Around} {E : Value → Shared → Prop} {s : Shared} {a : Addr} {ys : List Str}
theorem setT_tail {g : Bool → Sem Unit} (hg : ∀ (b : Bool) (s₁ : Shared) (Q' : Unit → Shared → Prop), Q' () s₁ → wpAny (model P w) A (g b) Q' E s₁)
    {o : Obj} {es : Array (Int × Value)} {ep : Nat} {t : SetTable} (ho : s.heap.get? a = some o) (hex : o.ExactSet) (hd : o.data = .set es ep t)
    {es1 : Array (Int × Value)} {t2 : SetTable} {zs : List Str} (g1 : ∀ e ∈ es1.toList, GoodS w e) (p1 : (es1.toList.map keyS).Perm zs) (nd1 : zs.Nodup)
    (hb1 : es1.size < scanBound) (hf2 : t2.fits es1.size = true) (hr : Ris t2.place.toList) (hl : w.params.followText "set-order" = true ∨ t2.led = true) {wd : Bool} {R : Option Bool → Shared → Prop}
    (hR : ∀ h', Heap.SameBut a s.heap h' → SetT w h' a zs → R (some true) { s with heap := h' }) :
    wpAny (model P w) A (do
        storeSet a es1 t2
        if (!wd && t2.tooFull) = true then do
            g (relayAll t2 es1 (SetTable.grown es1.size)).2.2
            storeSet a (relayAll t2 es1 (SetTable.grown es1.size)).1 (relayAll t2 es1 (SetTable.grown es1.size)).2.1
            pure (some true)
          else pure (some true)) R E s := by
  refine wpAny_bind (wpAny_storeSet_of ho hd ?_ (fits_of_scanBound hb1))
  have ho1 := store_at (es' := es1) (t' := t2) ho hd
  have sb1 := Heap.SameBut.update s.heap a (Obj.putSet es1 t2)
  split
  · have c1 := relayAll_perm t2 es1 (SetTable.grown es1.size)
    have c2 := relayAll_fits t2 es1 (SetTable.grown es1.size)
    have c3 := relayAll_ris t2 es1 (SetTable.grown es1.size)
    have c4 := relayAll_led t2 es1 (SetTable.grown es1.size)
    generalize relayAll t2 es1 (SetTable.grown es1.size) = Z at c1 c2 c3 c4 ⊢
    obtain ⟨es2, t3, gv⟩ := Z
    dsimp only at c1 c2 c3 c4 ⊢
    have hsz : es2.size = es1.size := by
      rw [← Array.length_toList, c1.length_eq, Array.length_toList]
    have hb2 : es2.size < scanBound := by rw [hsz]; exact hb1
    refine wpAny_bind (hg _ _ _ ?_)
    refine wpAny_bind (wpAny_storeSet_of ho1 rfl ?_ (fits_of_scanBound hb2))
    have ho2 := store_at (es' := es2) (t' := t3) ho1 rfl
    refine wpAny_pure (hR _ (sb1.trans (Heap.SameBut.update _ a _)) ?_)
    exact ⟨_, es2, _, t3, ho2, hex, rfl, fun e he => g1 e (c1.mem_iff.mp he), (c1.map keyS).trans p1, nd1, hb2, c2, c3, hl.imp id fun z => by rw [c4]; exact z⟩
  · exact wpAny_pure (hR _ sb1 ⟨_, es1, _, t2, ho1, hex, rfl, g1, p1, nd1, hb1, hf2, hr, hl⟩)
theorem setT_add {k : Str} {tk : Tok} {Q : Bool → Shared → Prop} (R : SetT w s.heap a ys) (room : ys.length + 1 < scanBound)
    (hQ : ∀ (b : Bool) h', Heap.SameBut a s.heap h' → SetT w h' a (ins ys k) → Q b { s with heap := h' }) :
    wpAny (model P w) A (setAddHashed a (.str k tk) ((strKind P w).hash k)) Q E s := by
  obtain ⟨o, es, ep, t, ho, hex, hd, g, pm0, nd, hb, hf, hr, hl⟩ := R
  have hkey : (strKind P w).is k (.str k tk) = true := strKind_is P w k tk
  have hsc : (Value.str k tk).scannable = true := rfl
  have hel : ElemsOf (strKind P w) es.toList := goodS_elems g
  unfold setAddHashed setAddHashedIn
  refine wpAny_holding (wpAny_bind (wpAny_setState_of ho hd hf ?_))
  dsimp only
  rw [byScan_of hsc hb hel]
  simp only [↓reduceIte]
  unfold setAddByScan
  refine wpAny_bind ?_
  refine wpAny_bind (wpAny_rule ?_)
  refine wpAny_bind (wpAny_setScan_of hkey ho hd hf hel ?_)
  cases hfi : List.findIdx? (fun e => (strKind P w).is k e.2) es.toList with
  | some j =>
    dsimp only
    obtain ⟨hj, pj, _⟩ := List.findIdx?_eq_some_iff_getElem.mp hfi
    have hk : k ∈ ys := pm0.mem_iff.mp ((goodS_mem (P := P) (w := w) g k).2 ⟨es.toList[j], List.getElem_mem hj, pj⟩)
    refine wpAny_pure (wpAny_pure ?_)
    exact hQ _ s.heap (Heap.SameBut.refl a s.heap) ⟨o, es, ep, t, ho, hex, hd, g, by unfold ins; rw [if_pos hk]; exact pm0, ins_nodup nd, hb, hf, hr, hl⟩
  | none =>
    dsimp only
    have hnk : k ∉ ys := fun z => by
      obtain ⟨e, he, q⟩ := (goodS_mem (P := P) (w := w) g k).1 (pm0.mem_iff.mpr z)
      have c := List.findIdx?_eq_none_iff.mp hfi e he
      rw [q] at c
      cases c
    have hgw : ∀ (b : Bool) {s₁ : Shared} {Q' : Unit → Shared → Prop}, Q' () s₁ → wpAny (model P w) A (match b with | true => rule "set.scan.the-table-gave-way" | false => pure ()) Q' E s₁ :=
      fun b s₁ Q' q => by cases b <;> first | exact wpAny_pure q | exact wpAny_rule q
    have c1 := layNew_perm t es ((strKind P w).hash k) (.str k tk)
    have c2 := layNew_fits t es ((strKind P w).hash k) (.str k tk)
    have c3 := layNew_ris t es ((strKind P w).hash k) (.str k tk) hr
    have c4 := layNew_led t es ((strKind P w).hash k) (.str k tk)
    generalize layNew t es ((strKind P w).hash k) (.str k tk) = Z at c1 c2 c3 c4 ⊢
    obtain ⟨es1, t1, wasDummy, gave⟩ := Z
    dsimp only at c1 c2 c3 c4 ⊢
    rw [Array.toList_push] at c1
    have pc : es1.toList.Perm (((strKind P w).hash k, Value.str k tk) :: es.toList) := c1.trans (List.perm_append_singleton _ _)
    have pk : (es1.toList.map keyS).Perm (ins ys k) := by
      unfold ins
      rw [if_neg hnk]
      exact (pc.map keyS).trans (List.Perm.cons k pm0)
    have g1 : ∀ e ∈ es1.toList, GoodS w e := fun e he => by
      rcases List.mem_cons.mp (pc.mem_iff.mp he) with z | z
      · rw [z]; exact ⟨k, tk, rfl, rfl⟩
      · exact g e z
    have hsz : es1.size = ys.length + 1 := by
      rw [← Array.length_toList, pc.length_eq, List.length_cons, ← pm0.length_eq, List.length_map]
    have hb1 : es1.size < scanBound := by rw [hsz]; exact room
    have hled : w.params.followText "set-order" = true ∨ t1.led = true := hl.imp id fun z => by rw [c4]; exact z
    refine wpAny_bind (hgw _ ?_)
    split
    · refine wpAny_bind ?_
      rw [hashByValue_scannable 8 hsc]
      refine wpAny_pure ?_
      refine setT_tail ?_ ho hex hd g1 pk (ins_nodup nd) hb1 ?_ ?_ ?_ ?_
      · intro b s₁ Q' q; cases b <;> first | exact wpAny_pure q | exact wpAny_rule q
      · first | (split <;> first | exact c2 | exact SetTable.fits_plain_off c2) | exact c2
      · first | (split <;> exact c3) | exact c3
      · first | (split <;> exact hled) | exact hled
      · intro h' sb r; dsimp only; exact wpAny_pure (hQ _ h' sb r)
    · refine wpAny_bind (wpAny_pure ?_)
      simp only [↓reduceIte]
      refine setT_tail ?_ ho hex hd g1 pk (ins_nodup nd) hb1 c2 c3 hled ?_
      · intro b s₁ Q' q; cases b <;> first | exact wpAny_pure q | exact wpAny_rule q
      · intro h' sb r; dsimp only; exact wpAny_pure (hQ _ h' sb r)
end
end L2
namespace L2
open PySem PySem.Spec PyProof.Rows PySem.GX
def setFold (xs : List Str) : List Str := xs.foldl ins []
theorem setFold_snoc (xs : List Str) (x : Str) : setFold (xs ++ [x]) = ins (setFold xs) x := by
  unfold setFold
  rw [List.foldl_append]
  rfl
theorem setFold_len : ∀ (n : Nat) (xs : List Str), xs.length = n → (setFold xs).length ≤ n
  | 0, xs, h => by
    have := List.length_eq_zero_iff.mp h
    subst this
    exact Nat.le_refl 0
  | n + 1, xs, h => by
    obtain ⟨ys, y, rfl⟩ : ∃ ys y, xs = ys ++ [y] := ⟨xs.dropLast, xs.getLast (by intro z; rw [z] at h; cases h), (List.dropLast_concat_getLast _).symm⟩
    rw [List.length_append, List.length_singleton] at h
    have h1 := setFold_len n ys (by omega)
    have h2 := ins_len (setFold ys) y
    rw [setFold_snoc]
    omega
section
variable {prog : Program} {w : World} {A : Around} {R : Result → Shared → Prop} {I : Addr} {fp wr : List Addr} {G : Array GenState → Array GenState → Prop} {n : Nat} {Pv : Nat → Value → Prop} {St : Nat → Shared → Prop}
theorem loopT (W : WalksS prog w A.in1 I fp wr G n Pv St) (S : Addr) (hSf : S ∉ fp) (xs : List Str) (hsz : xs.length = n) (hn : n + 1 < scanBound)
    (hval : ∀ i v, Pv i v → ∃ x t, xs[i]? = some x ∧ v = .str x t) :
    ∀ (k i : Nat) (s : Shared), n - i = k → i ≤ n → St i s → SetT w s.heap S (setFold (xs.take i)) →
      (∀ s', Moved (S :: wr) G s s' → SetT w s'.heap S (setFold xs) → R (.ok (.ret .none)) s') →
      codeAny (model prog w) A (.builtin "set.update.loop" ⟨[.ref S, .ref I], []⟩) R s := by
  have hSw : S ∉ wr := fun h => hSf (W.sub _ h)
  have up : ∀ b ∈ wr, b ∈ S :: wr := fun b hb => List.mem_cons_of_mem _ hb
  intro k
  induction k with
  | zero =>
    intro i s hk hi hst hS hR
    have hin : i = n := by omega
    subst hin
    refine codeAny_builtin PyProof.Rows.F.entry_set_update_loop ?_
    rw [Around.under_plainId PyProof.Rows.F.plain_set_update_loop _]
    show wpAny _ A.in1 (pyNext (.ref I) >>= _) _ _ s
    refine wpAny_bind (W.done s _ _ hst fun s' hm => ?_)
    show wpAny _ A.in1 (ret Value.none) _ _ s'
    rw [List.take_of_length_le (by omega)] at hS
    exact wpAny_pure (hR s' (hm.mono up) (hS.at fun o e => hm.heap S _ hSw e))
  | succ k ih =>
    intro i s hk hi hst hS hR
    have hlt : i < n := by omega
    refine codeAny_builtin PyProof.Rows.F.entry_set_update_loop ?_
    rw [Around.under_plainId PyProof.Rows.F.plain_set_update_loop _]
    show wpAny _ A.in1 (pyNext (.ref I) >>= _) _ _ s
    refine wpAny_bind (W.item i s _ _ hlt hst fun v s' hP hst' hm => ?_)
    obtain ⟨x, t, hx, rfl⟩ := hval i v hP
    have hS1 : SetT w s'.heap S (setFold (xs.take i)) := hS.at fun o e => hm.heap S _ hSw e
    show wpAny _ A.in1 (holding [Value.str x t] (setAdd S (.str x t)) >>= _) _ _ s'
    refine wpAny_bind (wpAny_holding ?_)
    unfold setAdd
    refine wpAny_holding ?_
    refine wpAny_bind ((PySem.strKind prog w).pyHash (k := x) (strKind_is _ _ _ _) ?_)
    have lf := setFold_len i (xs.take i) (by rw [List.length_take]; omega)
    refine setT_add (s := { s' with toks := s'.toks + 1 }) hS1 (by omega) fun b h' hsb hS2 => ?_
    have e1 : xs.take (i + 1) = xs.take i ++ [x] := by
      rw [List.take_succ, hx]
      rfl
    have hS3 : SetT w h' S (setFold (xs.take (i + 1))) := by
      rw [e1, setFold_snoc]
      exact hS2
    refine wpAny_pure ⟨plainId_quiet PyProof.Rows.F.plain_set_update_loop _, ih (i + 1) _ (by omega) hlt (W.frame _ s' _ _ hst' (Nat.le_succ _) fun b hb o e => ?_) hS3 fun s'' hm'' hS'' => ?_⟩
    · rw [hsb.2 b (fun h : b = S => hSf (by rw [← h]; exact hb))]
      exact e
    · refine hR s'' (Moved.trans W.gtrans ((hm.mono up).then_heap (Nat.le_succ _) fun b o hb e => ?_) hm'') hS''
      rw [hsb.2 b (fun h : b = S => hb (by rw [h]; exact List.mem_cons_self))]
      exact e
end
section
variable {prog : Program} {w : World} {A : Around} {E : Value → Shared → Prop} {s : Shared}
abbrev newSet (w : World) : Obj := { cls := .type "set", dict := none, data := .set #[] 0 (.fresh 0 0 (!w.params.followText "set-order")) }
theorem setT_fresh {h : Heap} (w : World) : SetT w (h.push (newSet w)) h.objs.size [] :=
  ⟨_, #[], 0, _, Heap.get?_push_size _ rfl, ⟨rfl, rfl, rfl⟩, rfl, (fun e he => by simp at he), List.Perm.refl _, List.nodup_nil, (by decide), (by rfl), List.Pairwise.nil, by
    show _ ∨ (!w.params.followText "set-order") = true
    cases w.params.followText "set-order"
    · exact .inr rfl
    · exact .inl rfl⟩
theorem code_setNew (a : Value) {Q1 : Value → Shared → Prop} (h : Q1 (.ref s.heap.objs.size) { s with heap := s.heap.push (newSet w) }) :
    codeAny (model prog w) A (.call (.builtin "set.__new__") ⟨[.type "set", a], []⟩) (wants Q1 E) s := by
  refine codeAny_of_tree ?_
  show wpAny _ A.in1 (do checkBuiltinCall "set.__new__" ⟨[.type "set", a], []⟩; again (.builtin "set.__new__" ⟨[.type "set", a], []⟩)) _ _ s
  refine wpAny_bind (wpAny_of_eq (F.newCall_set_1 a) (wpAny_pure ⟨plainId_quiet F.plain_set_new _, codeAny_builtin F.entry_set_new ?_⟩))
  rw [Around.under_plainId F.plain_set_new _]
  unfold Builtin.«set.__new__» Builtin.Frozenset.newClass
  have hsub := sub_set_self
  obtain ⟨hp, g, d, tk, os⟩ := s
  dsimp only
  wp_walk
  refine wpAny_askSetting (wpAny_pure ?_)
  dsimp only
  simp only [newObj]
  refine wpAny_bind (wpAny_alloc (wpAny_pure ?_))
  exact wpAny_pure h
theorem sub_str_set : isSubtype (.type "str") (.type "set") = pure false := by
  rw [isSubtype_type]; kernel_rfl
theorem sub_str_frozenset : isSubtype (.type "str") (.type "frozenset") = pure false := by
  rw [isSubtype_type]; kernel_rfl
/-- set(x): the new set, then the iterable's items (hinit: what set.__init__ does) -/
theorem call_set1 {v : Value} {ys : List Str} {Q : Value → Shared → Prop}
    (hinit : ∀ (R : Result → Shared → Prop), (∀ h' tk, SetT w h' s.heap.objs.size ys → (∀ b o, b < s.heap.objs.size → s.heap.get? b = some o → h'.get? b = some o) → R (.ok (.ret .none)) { s with heap := h', toks := tk }) →
      wpAny (model prog w) A.in1.in1 (Builtin.«set.__init__» ⟨[.ref s.heap.objs.size, v], []⟩) (fun fin s' => match fin with | .done f => R (.ok f) s' | .again c => c.quiet = true ∧ codeAny (model prog w) A.in1 c R s')
        (fun e s' => R (.error e) s') { s with heap := s.heap.push (newSet w) })
    (h : ∀ (h' : Heap) (tk : Nat), SetT w h' s.heap.objs.size ys → (∀ b o, b < s.heap.objs.size → s.heap.get? b = some o → h'.get? b = some o) → Q (.ref s.heap.objs.size) { s with heap := h', toks := tk }) :
    wpAny (model prog w) A (call (.type "set") [v]) Q E s := by
  obtain ⟨c, tl, hmro⟩ := PySem.F.called_set.mro
  have z1 := PySem.F.called_set.made
  have z2 := PySem.F.called_set.sub
  refine wpAny_call (codeAny_of_tree ?_)
  show wpAny _ _ (callAny (.type "set") _) _ _ _
  refine wpAny_pure ⟨Code.quiet_builtin _ (by decide +kernel), codeAny_builtin PySem.F.entry_type_call ?_⟩
  rw [Around.under_plain (weight_type_call_type "set" [v] []) rfl]
  have z3 := PySem.F.called_set.notType
  have z4 := PySem.F.called_set.canCreate
  have z5 := F.typeCall_set_1 v
  repeat (any_goals (first | assumption | wp_step))
  refine codeAny_mono (code_setNew v (E := E) (Q1 := fun obj s₁ => obj = .ref s.heap.objs.size ∧ s₁ = { s with heap := s.heap.push (newSet w) }) ⟨rfl, rfl⟩) fun r s₁ hr => ?_
  cases r with
  | error e => exact hr
  | ok fl =>
    cases fl with
    | ret obj =>
      obtain ⟨rfl, rfl⟩ := hr
      have hS : (s.heap.push (newSet w)).get? s.heap.objs.size = some (newSet w) := Heap.get?_push_size _ rfl
      have hT : Shared.TypeIs { s with heap := s.heap.push (newSet w) } (.ref s.heap.objs.size) "set" := ⟨_, hS, rfl⟩
      have z6 := PySem.F.called_set.init.lookup
      have z7 := PySem.F.called_set.init.bind (.ref s.heap.objs.size)
      repeat (any_goals (first | assumption | wp_step))
      refine codeAny_mono (codeAny_call_builtin (R := wants (fun r s₂ => r = .none ∧ ∃ h' tk, s₂ = { s with heap := h', toks := tk } ∧ SetT w h' s.heap.objs.size ys ∧ (∀ b o, b < s.heap.objs.size → s.heap.get? b = some o → h'.get? b = some o)) E)
        PySem.F.called_set.init.plain PySem.F.entry_set_init (check_set_init_1 hT ?_)) fun r₂ s₂ hr₂ => ?_
      · refine hinit (wants (fun r s₂ => r = .none ∧ ∃ h' tk, s₂ = { s with heap := h', toks := tk } ∧ SetT w h' s.heap.objs.size ys ∧ (∀ b o, b < s.heap.objs.size → s.heap.get? b = some o → h'.get? b = some o)) E) ?_
        exact fun h' tk a1 a2 => ⟨rfl, h', tk, rfl, a1, a2⟩
      · cases r₂ with
        | error e => exact hr₂
        | ok fl₂ =>
          cases fl₂ with
          | ret r =>
            obtain ⟨rfl, h', tk, rfl, b1, b2⟩ := hr₂
            repeat (any_goals (first | assumption | wp_step))
            exact h _ _ b1 b2
          | _ => exact hr₂.elim
    | _ => exact hr.elim
end
end L2
namespace L2
open PySem PySem.Spec PyProof.Rows PySem.GX
section
variable {prog : Program} {w : World} {A : Around} {E : Value → Shared → Prop} {s : Shared}
theorem init_str {x : Str} {t : Tok} (hh : A.handled = none) (hz : x.length + 1 < scanBound) (R : Result → Shared → Prop)
    (hR : ∀ h' tk, SetT w h' s.heap.objs.size (setFold (x.cps.toList.map fun c => ⟨#[c]⟩)) → (∀ b o, b < s.heap.objs.size → s.heap.get? b = some o → h'.get? b = some o) → R (.ok (.ret .none)) { s with heap := h', toks := tk }) :
    wpAny (model prog w) A.in1.in1 (Builtin.«set.__init__» ⟨[.ref s.heap.objs.size, .str x t], []⟩) (fun fin s' => match fin with | .done f => R (.ok f) s' | .again c => c.quiet = true ∧ codeAny (model prog w) A.in1 c R s')
      (fun e s' => R (.error e) s') { s with heap := s.heap.push (newSet w) } := by
  have hS : (s.heap.push (newSet w)).get? s.heap.objs.size = some (newSet w) := Heap.get?_push_size _ rfl
  have y1 := sub_str_set
  have y2 := sub_str_frozenset
  have y3 : (Value.type "str" == Value.type "dict") = false := by decide
  have hT0 : Shared.TypeIs { s with heap := s.heap.push (newSet w) } (.str x t) "str" := typeIs_str _ _ _
  unfold Builtin.«set.__init__» noKeywords Builtin.Frozenset.updateFrom
  generalize hPI : pyIter = PI
  wp_walk
  subst hPI
  refine wpAny_pyIter_str (s := { s with heap := s.heap.push (newSet w) }) (fun o St W hst => ?_)
  refine wpAny_bind (wpAny_runValue ?_)
  have z1 : (s.heap.push (newSet w)).objs.size = s.heap.objs.size + 1 := Heap.size_push _ _
  have hSf : s.heap.objs.size ∉ [(s.heap.push (newSet w)).objs.size] := by
    rw [z1]
    simp only [List.mem_singleton]
    omega
  have hsz : (x.cps.toList.map fun c => (⟨#[c]⟩ : Str)).length = x.cps.size := by
    rw [List.length_map, Array.length_toList]
  refine loopT ((W A.in1.in1.in1 (by simp [hh])).toS) s.heap.objs.size hSf (x.cps.toList.map fun c => ⟨#[c]⟩) hsz hz (fun i v hv => ?_) (x.cps.size - 0) 0 _ (by omega) (Nat.zero_le _) hst ?_ ?_
  · obtain ⟨c, u, hc, rfl⟩ := hv
    exact ⟨_, u, by rw [List.getElem?_map, Array.getElem?_toList, hc]; rfl, rfl⟩
  · exact (setT_fresh w).at fun u e => Heap.get?_push_of_some _ e
  · intro s' hm hS'
    obtain ⟨h', g', d', tk', os'⟩ := s'
    have eg : g' = s.gens := hm.gens
    have ed : d' = s.drawn := hm.drawn
    have eo : os' = s.os := hm.os
    subst eg; subst ed; subst eo
    show wpAny _ _ _ _ _ _
    refine wpAny_pure ?_
    show wpAny _ _ (ret Value.none) _ _ _
    refine wpAny_pure (hR h' tk' hS' fun b u hb e => ?_)
    refine hm.heap b u (fun hmem => ?_) (Heap.get?_push_of_some _ (Heap.get?_push_of_some _ e))
    rcases List.mem_cons.mp hmem with q | q
    · exact absurd (q ▸ hb) (Nat.lt_irrefl _)
    · have q2 := List.mem_singleton.mp q
      rw [z1] at q2
      exact absurd (Nat.lt_succ_of_lt (q2 ▸ hb)) (Nat.lt_irrefl _)
theorem init_list {l : Addr} {items : Array Value} {xs : List Str} (hh : A.handled = none) (hl : s.heap.IsList l items) (hi : PyProof.Rows.StrsAre items.toList xs) (hz : xs.length + 1 < scanBound) (R : Result → Shared → Prop)
    (hR : ∀ h' tk, SetT w h' s.heap.objs.size (setFold xs) → (∀ b o, b < s.heap.objs.size → s.heap.get? b = some o → h'.get? b = some o) → R (.ok (.ret .none)) { s with heap := h', toks := tk }) :
    wpAny (model prog w) A.in1.in1 (Builtin.«set.__init__» ⟨[.ref s.heap.objs.size, .ref l], []⟩) (fun fin s' => match fin with | .done f => R (.ok f) s' | .again c => c.quiet = true ∧ codeAny (model prog w) A.in1 c R s')
      (fun e s' => R (.error e) s') { s with heap := s.heap.push (newSet w) } := by
  have hS : (s.heap.push (newSet w)).get? s.heap.objs.size = some (newSet w) := Heap.get?_push_size _ rfl
  obtain ⟨ol, hol, hcl, nl, hdl⟩ := hl
  obtain ⟨ocls, odict, odata, oslots⟩ := ol
  simp only at hcl hdl
  subst hcl; subst hdl
  have hol1 : (s.heap.push (newSet w)).get? l = some { cls := .type "list", dict := odict, data := .seq items nl, slots := oslots } := Heap.get?_push_of_some _ hol
  have y1 := F.sub_list_set
  have y2 := F.sub_list_frozenset
  have y3 : (Value.type "list" == Value.type "dict") = false := by decide
  have hl1 : (s.heap.push (newSet w)).IsList l items := ⟨_, hol1, rfl, nl, rfl⟩
  unfold Builtin.«set.__init__» noKeywords Builtin.Frozenset.updateFrom
  generalize hPI : pyIter = PI
  wp_walk
  subst hPI
  refine wpAny_pyIter_list hl1 ?_
  refine wpAny_bind (wpAny_runValue ?_)
  have z1 : (s.heap.push (newSet w)).objs.size = s.heap.objs.size + 1 := Heap.size_push _ _
  have hlS : l < s.heap.objs.size := Heap.lt_size hol
  have hneI : l ≠ (s.heap.push (newSet w)).objs.size := by
    rw [z1]; exact Nat.ne_of_lt (Nat.lt_succ_of_lt hlS)
  have hSf : s.heap.objs.size ∉ [(s.heap.push (newSet w)).objs.size, l] := by
    rw [z1]
    simp only [List.mem_cons, List.mem_singleton, List.not_mem_nil, or_false, not_or]
    exact ⟨Nat.ne_of_lt (Nat.lt_succ_self _), Nat.ne_of_gt hlS⟩
  have hsz : xs.length = items.size := by
    rw [← StrsAre.len_eq hi, Array.length_toList]
  have hval : ∀ (i : Nat) (v : Value), items[i]? = some v → ∃ x t, xs[i]? = some x ∧ v = .str x t := fun i v hv => by
    have hlt : i < items.size := (Array.getElem?_eq_some_iff.mp hv).1
    obtain ⟨t, e⟩ := SS.strs_at hi i v (by rw [Array.getElem?_toList]; exact hv)
    have hx : xs[i]? = some (xs.getD i Str.empty) := by
      rw [List.getD_eq_getElem?_getD, List.getElem?_eq_getElem (by omega)]
      rfl
    exact ⟨_, t, hx, e⟩
  refine loopT ((Walks.list (A := A.in1.in1.in1) (by simp [hh]) _ l hneI items).toS) s.heap.objs.size hSf xs hsz (by omega) hval (items.size - 0) 0 _ (by omega) (Nat.zero_le _) ⟨⟨_, Heap.get?_push_size _ rfl, rfl, rfl⟩, (hl1.push _)⟩ ?_ ?_
  · exact (setT_fresh w).at fun u e => Heap.get?_push_of_some _ e
  · intro s' hm hS'
    obtain ⟨h', g', d', tk', os'⟩ := s'
    have eg : g' = s.gens := hm.gens
    have ed : d' = s.drawn := hm.drawn
    have eo : os' = s.os := hm.os
    subst eg; subst ed; subst eo
    show wpAny _ _ _ _ _ _
    refine wpAny_pure ?_
    show wpAny _ _ (ret Value.none) _ _ _
    refine wpAny_pure (hR h' tk' hS' fun b u hb e => ?_)
    refine hm.heap b u (fun hmem => ?_) (Heap.get?_push_of_some _ (Heap.get?_push_of_some _ e))
    rcases List.mem_cons.mp hmem with q | q
    · exact absurd (q ▸ hb) (Nat.lt_irrefl _)
    · have q2 := List.mem_singleton.mp q
      rw [z1] at q2
      exact absurd (Nat.lt_succ_of_lt (q2 ▸ hb)) (Nat.lt_irrefl _)
end
end L2
namespace L2
open PySem PySem.Spec PyProof.Rows PySem.GX
/-- the signs of a text, each as a text -/
def signsOf (x : Str) : List Str := x.cps.toList.map fun c => ⟨#[c]⟩
/-- the set of texts at a, its members ys -/
def SetTx (w : World) (a : Addr) (ys : List Str) : HO := .ext fun h => SetT w h a ys
theorem setTx_new {w : World} {P : Program} {H : Hp} {h : Heap} {a : Addr} {ys : List Str} (R : SetT w h a ys) : ObjOk P w H h a (SetTx w a ys) := by
  have ⟨o, _, _, _, ho, _⟩ := R
  exact ⟨R, ⟨o, ho⟩, fun h1 h2 p k => p.at k⟩
theorem strs_list : ∀ {l : List Value}, (∀ v ∈ l, ∃ k tk, v = Value.str k tk) → ∃ ss, StrsAre l ss ∧ ss = l.map (fun v => keyS (0, v))
  | [], _ => ⟨[], .nil, rfl⟩
  | v :: l, h => by
    obtain ⟨k, tk, rfl⟩ := h v List.mem_cons_self
    obtain ⟨ss, a, b⟩ := strs_list (l := l) fun u hu => h u (List.mem_cons_of_mem _ hu)
    exact ⟨k :: ss, .cons k tk a, by rw [b]; rfl⟩
section
variable {P : Program} {w : World} {A : Around} {E : Value → Shared → Prop} {s : Shared} {a : Addr} {ys : List Str}
theorem sorted_setT {Q : Value → Shared → Prop} (R : SetT w s.heap a ys) (hh : A.handled = none)
    (hQ : ∀ s' p (out : Array Value) (c : Nat) (zs : List Str), (∀ b o, s.heap.get? b = some o → s'.heap.get? b = some o) → s'.gens = s.gens → s'.os = s.os → s.heap.objs.size ≤ p →
      s'.heap.get? p = some (seqObj "list" out c) → StrsAre out.toList zs → zs.Perm ys → sortedS zs = true → Q (.ref p) s') :
    wpAny (model P w) A (call (.builtin "sorted") [.ref a]) Q E s := by
  obtain ⟨o, es, ep, t, ho, hex, hd, g, pm0, nd, hb, hf, hr, hl⟩ := R
  refine Calls.call_function_entry kind_sorted plain_sorted entry_sorted (args_sorted1 _) ?_
  unfold Builtin.«sorted»
  refine wpAny_bind (m := checkCount "sorted" 1 1 _) (wpAny_pure ?_)
  refine wpAny_bind (collect_set (A := A.in1) hh ⟨o, ho, hex.1, hd⟩ hf hb hr hl fun s1 vs k1 hz g1 o1 pm => ?_)
  have hvl : vs.length = es.size := by
    rw [pm.length_eq, List.length_map, Array.length_toList]
  obtain ⟨ss, hS, hss⟩ := strs_list (l := vs) fun v hv => by
    obtain ⟨e, he, q⟩ := List.mem_map.mp (pm.mem_iff.mp hv)
    obtain ⟨k, tk, h1, _⟩ := g e he
    exact ⟨k, tk, by rw [← q]; exact h1⟩
  have ps : ss.Perm ys := by
    have q := pm.map (fun v => keyS (0, v))
    rw [List.map_map, ← hss] at q
    exact q.trans pm0
  have small : vs.length ≤ sizeLine := by
    rw [hvl]
    exact fits_of_scanBound hb
  refine wpAny_bind (wpAny_newList ?_ small)
  have hoL : (s1.heap.push (seqObj "list" vs.toArray 0)).get? s1.heap.objs.size = some (seqObj "list" vs.toArray 0) := Heap.get?_push_size _ rfl
  refine wpAny_bind (wpAny_holding (wpAny_call_entry slot_list_sort ⟨_, hoL, rfl⟩ entry_list_sort
    (list_sort_treeKAny PyProof.Rows.strKind_oneLt hoL hS.keysOf (fun v₁ v₂ rest e => keyKind_strs (by rw [← e]; exact hS)) small fun st' a1 a2 => ⟨_, rfl, ?_⟩) (args_list_sort _)))
  obtain ⟨zs, h1, h2, h3⟩ := sorted_out_str hS a1 a2
  obtain ⟨c, hc⟩ := sortedHeap_at (vs := vs) (out := (arrOf st').map (·.2)) hoL
  refine wpAny_pure ⟨_, rfl, hQ _ s1.heap.objs.size _ c zs (fun b u e => ?_) g1 o1 hz hc h1 (h2.trans ps) h3⟩
  have q := k1 b u e
  have hlt := Heap.lt_size q
  show (sortedHeap (s1.heap.push (seqObj "list" vs.toArray 0)) s1.heap.objs.size vs _).get? b = some u
  rw [sortedHeap_old (Nat.ne_of_lt hlt) (by rw [size_push']; exact Nat.lt_succ_of_lt hlt)]
  exact Heap.get?_push_of_some _ q
end
section
variable {X : Cx}
/-- set(text) -/
def rSetS (w : World) : List V → Hp → VK → Prop := fun xs H Q => ∃ x : Str, xs = [.str x] ∧ x.length < 4000 ∧ ∀ p, H p = none → Q (.ref p) (upd H p (SetTx w p (setFold (signsOf x))))
theorem cr_setS (hc : X.calm = true) : CallR X (.type "set") (rSetS X.w) := by
  intro pins s σ H xs us Q I r h
  obtain ⟨x, rfl, hz, q⟩ := h
  obtain ⟨u, rfl, t, rfl⟩ := vals1 r
  refine call_set1 (ys := setFold (signsOf x)) (fun R hR => init_str (I.ok.hd hc) (by unfold scanBound; omega) R hR) fun h' tk hS k => ?_
  exact ⟨.ref _, upd H s.heap.objs.size (SetTx X.w s.heap.objs.size (setFold (signsOf x))), I.laid (t' := tk) (fun b u e => k b u (Heap.lt_size e) e) (Nat.le_refl _) (setTx_new hS), rfl, q _ (I.hok.fresh (Nat.le_refl _))⟩
/-- set(list of texts) -/
def rSetTxL (K : PySem.W.Frag) (w : World) : List V → Hp → VK → Prop := fun vs H Q => ∃ (l : Addr) (xs : List Str), vs = [.ref l] ∧ SqL K H l (xs.map V.str) ∧ xs.length < 4000 ∧ ∀ p, H p = none → Q (.ref p) (upd H p (SetTx w p (setFold xs)))
theorem cr_setL (hc : X.calm = true) : CallR X (.type "set") (rSetTxL X.K X.w) := by
  intro pins s σ H vs us Q I r h
  obtain ⟨l, xs, rfl, hq, hz, q⟩ := h
  obtain ⟨its, rv, pl, _⟩ := I.list hq
  rw [Vals.ref1 r]
  refine call_set1 (ys := setFold xs) (fun R hR => init_list (I.ok.hd hc) pl.isList (by simpa using strsAre_of rv) (by unfold scanBound; omega) R hR) fun h' tk hS k => ?_
  exact ⟨.ref _, upd H s.heap.objs.size (SetTx X.w s.heap.objs.size (setFold xs)), I.laid (t' := tk) (fun b u e => k b u (Heap.lt_size e) e) (Nat.le_refl _) (setTx_new hS), rfl, q _ (I.hok.fresh (Nat.le_refl _))⟩
/-- len(set of texts) -/
def rLenSet (w : World) : List V → Hp → VK → Prop := fun vs H Q => ∃ (a : Addr) (ys : List Str), vs = [.ref a] ∧ H a = some (SetTx w a ys) ∧ Q (.int ys.length) H
theorem cr_lenSet : CallR X (.builtin "len") (rLenSet X.w) := by
  intro pins s σ H vs us Q I r h
  obtain ⟨a, ys, rfl, ha, q⟩ := h
  rw [Vals.ref1 r]
  obtain ⟨o, es, ep, t, ho, hex, hd, g, pm0, nd, hb, hf, hr, hl⟩ := (I.hok a _ ha).1
  have hn : es.size = ys.length := by
    rw [← pm0.length_eq, List.length_map, Array.length_toList]
  refine call_len_set ho hex hd hf (by unfold scanBound at hb; omega) ⟨.int ys.length, H, I.tok _, ⟨_, by rw [hn]⟩, q⟩
/-- sorted(set of texts) -/
def rSortedTx (w : World) : List V → Hp → VK → Prop := fun vs H Q => ∃ (a : Addr) (ys : List Str), vs = [.ref a] ∧ H a = some (SetTx w a ys) ∧
  ∀ (zs : List Str) (p : Addr), zs.Perm ys → sortedS zs = true → H p = none → Q (.ref p) (upd H p (.lst (zs.map V.str)))
theorem cr_sortedTx (hc : X.calm = true) : CallR X (.builtin "sorted") (rSortedTx X.w) := by
  intro pins s σ H vs us Q I r h
  obtain ⟨a, ys, rfl, ha, q⟩ := h
  rw [Vals.ref1 r]
  have R : SetT X.w s.heap a ys := (I.hok a _ ha).1
  have small : ys.length ≤ sizeLine := by
    obtain ⟨o, es, ep, t, ho, hex, hd, g, pm0, nd, hb, _⟩ := R
    rw [← pm0.length_eq, List.length_map, Array.length_toList]
    exact fits_of_scanBound hb
  refine sorted_setT R (I.ok.hd hc) fun s' p out c zs k g1 o1 hp he hS pm so => ?_
  obtain ⟨h', g', d', tk', os'⟩ := s'
  have hlen : (zs.map V.str).length ≤ sizeLine := by
    rw [List.length_map, pm.length_eq]; exact small
  have J : Inv X pins σ (upd H p (.lst (zs.map V.str))) ⟨h', g', d', tk', os'⟩ := by
    have hn := I.hok.fresh hp
    have u : Un (frs X.stack) [] H (upd H p (.lst (zs.map V.str))) s.heap h' := Un.laid k hp hn
    refine I.call' (ch := []) o1 u ?_ ?_ (fun b z => absurd z (by simp))
    · exact I.hok.laid k hp ⟨hlen, out.toList, c, vals_of_strs hS, he⟩
    · have e : g' = s.gens := g1
      rw [e]; exact I.bare
  exact ⟨.ref p, _, J, rfl, q zs p pm so (I.hok.fresh hp)⟩
end
end L2
namespace L2
open PySem PySem.Spec PyProof.Rows PySem.GX
/-! a dict comprehension whose keys are tuples of ints and texts -/
section
variable {X : Cx} {pl : List (Addr × Obj)} {σ : St} {H : Hp} {s : Shared} {D t : Addr} {kvs : List (List Key × V)} {k : List Key} {v : V}
/-- the store of one turn -/
theorem dictSet_tup {Er : Value → Shared → Prop} {kv vv : Value} {Q : Unit → Shared → Prop} (room : X.A.units < cLine) (I : Inv X pl σ H s) (eD : H D = some (.dT kvs)) (et : H t = some (.tup (k.map kV))) (few : kvs.length < sizeLine)
    (rk : RelV (.ref t) kv) (rv : RelV v vv) (go : ∀ s', Inv X pl σ (upd H D (.dT (putK kvs k v))) s' → Q () s') : wpAny (model X.prog X.w) X.A (dictSet D kv vv) Q Er s := by
  have ekv : kv = Value.ref t := rk
  subst ekv
  obtain ⟨len0, nosys, xs, rel, dict⟩ := dt_of I.hok eD
  have len1 : xs.length ≤ sizeLine := by
    rw [← Paired.length rel]
    exact len0
  have len2 : (putK kvs k v).length ≤ sizeLine := by
    have grows := length_putK kvs k v
    omega
  have hroom : (tupleKind (mixKind X.prog X.w)).room X.A := room
  refine wpAny_dictSet_heap (hsz := len1) hroom (key_of I.hok et) dict fun h' dict' same => go _ ?_
  obtain ⟨o, es, ep, ho, c1, c2, c3, _, c4⟩ := dict'
  refine d_write I (by rw [eD]; trivial) same ⟨o, ho⟩ ⟨len2, nosys, _, (rel.put k et rv).keeps fun c ys ec => ?_, o, es, ep, ho, c1, c2, c3, c4⟩
  rw [upd_ne (ne_of ec eD (fun z => nomatch z))]
  exact ec
end
/-- {(..): v for target in iter if ..}: D is the new dict -/
def tDcT (wi : TI) (g : TG) (tt : TT) (tk tv : TE) (vs : List Nat) : TE := fun σ H Q => wi σ H fun J H1 => ∀ D, H1 D = none → ∃ W : Nat → Nat → Hp → Prop, (∃ m, W 0 m (upd H1 D (.dT []))) ∧ ∀ i m H, W i m H →
  (J.stop i H ∧ Q (.ref D) H) ∨ (J.go i H ∧ ∃ On : Hp → Prop, (∀ H', On H' → ∃ m', m' < m ∧ W (i + 1) m' H') ∧ ∀ x H', J.yld i H x H' → g x (wipe σ vs) H' fun σ2 H2 => wipe σ2 vs = wipe σ vs ∧ tt σ2 H2 fun b H3 =>
    if b = true then tk σ2 H3 fun y H4 => tv σ2 H4 fun z H5 => ∃ kvs k t, y = .ref t ∧ H5 t = some (.tup (k.map kV)) ∧ H5 D = some (.dT kvs) ∧ kvs.length < sizeLine ∧ On (upd H5 D (.dT (putK kvs k z))) else On H3)
section
variable {X : Cx} {kx vx tg iter : Expr} {ifs : List Expr} {scope : Scope} {own : List (Str × Nat)} {pos : Pos} {wi : TI} {g : TG} {tt : TT} {tk tv : TE}
theorem pe_dcT (hr : X.A.units + 64 < cLine) (calm : X.calm = true) (hN : X.N.Nodup) (hi : PI X tg iter wi) (ok : BlkOk X.N X.env.scope scope own)
    (hg : ∀ (s : Shared) (H : Hp) (C : Addr) (cl : List (Str × Addr)) (fp : List Addr), PG (X.blk s H scope (compEnvC scope cl C X.env) fp) tg g)
    (ht : ∀ (s : Shared) (H : Hp) (C : Addr) (cl : List (Str × Addr)) (fp : List Addr), PTs (X.blk s H scope (compEnvC scope cl C X.env) fp) ifs tt)
    (hk : ∀ (s : Shared) (H : Hp) (C : Addr) (cl : List (Str × Addr)) (fp : List Addr), PE (X.blk s H scope (compEnvC scope cl C X.env) fp) kx tk)
    (hv : ∀ (s : Shared) (H : Hp) (C : Addr) (cl : List (Str × Addr)) (fp : List Addr), PE (X.blk s H scope (compEnvC scope cl C X.env) fp) vx tv)
    (hs : ∀ x, foldedSetIterable iter X.env x = pure x := by intro _; rfl) :
    PE X (.DictComp kx vx [⟨tg, iter, ifs, 0⟩] scope pos) (tDcT wi g tt tk tv (own.map (·.2))) := by
  refine ⟨fun pl s σ H Q I h => ?_⟩
  rw [arm_eval_DictComp]
  have frees : ∀ y ∈ scope.names, y.2 = .free → ∃ c, X.env.cells.lookup y.1 = some c := fun y hy e => by
    rcases ok.free y hy e with k | k
    · exact I.ok.has _ (.inl k)
    · exact I.ok.has _ (.inr k)
  refine wpAny_comprehension_free rfl hs (closure_ok frees) ok.kind (fun y hy e => by rw [ok.uniq y hy, e]) (thn (hi.run pl s σ H _ I h) fun _ sa ha => thn ha fun _ sb hb => ?_)
  obtain ⟨it, fp, tn, J, Hb, rfl, Ib, T, tb, okb, want⟩ := hb
  refine wpAny_newObj_type (newEnv_comp ?_)
  -- the new dict
  generalize eD : sb.heap.objs.size = D
  have freeD : Hb D = none := Ib.hok.fresh (Nat.le_of_eq eD)
  obtain ⟨W, ⟨m0, begins⟩, turn⟩ := want D freeD
  generalize esc : ({ sb with heap := sb.heap.push { cls := .type "dict", data := .dict #[] } } : Shared) = sc
  have hsc : sc.heap = sb.heap.push { cls := .type "dict", data := .dict #[] } := by rw [← esc]
  have Ic : Inv X pl σ (upd Hb D (.dT [])) sc := by
    rw [← esc]
    refine Ib.laid (t' := sb.toks) (fun b o e => Heap.get?_push_of_some _ e) (Nat.le_of_eq eD) ?_
    rw [← eD]
    exact dt_empty sb.heap Ib.big
  have old : ∀ b ∈ fp, b < sb.heap.objs.size := fun b hb => by
    obtain ⟨o, e, _⟩ := T.obj _ _ tb b hb
    exact Heap.lt_size e
  have okc : ∀ b ∈ fp, FpOk X pl (upd Hb D (.dT [])) b ∧ b < sc.heap.objs.size := fun b hb => by
    have lt := old b hb
    refine ⟨⟨?_, (okb b hb).2⟩, ?_⟩
    · rw [upd_ne (by rw [← eD]; exact Nat.ne_of_lt lt)]
      exact (okb b hb).1
    · rw [hsc, Heap.size_push]
      exact Nat.lt_succ_of_lt lt
  have tc : tn 0 sc.heap := T.keep _ _ _ tb fun b _ o e => by
    rw [hsc]
    exact Heap.get?_push_of_some _ e
  -- the block
  have Id := block_start Ic ok hN okc
  have g1 := hg sc (upd Hb D (.dT [])) sc.heap.objs.size (cellsFrom (sc.heap.objs.size + 1) scope.names (cloFrom X.env.cells scope.names [])) fp
  have g2 := ht sc (upd Hb D (.dT [])) sc.heap.objs.size (cellsFrom (sc.heap.objs.size + 1) scope.names (cloFrom X.env.cells scope.names [])) fp
  have g3 := hk sc (upd Hb D (.dT [])) sc.heap.objs.size (cellsFrom (sc.heap.objs.size + 1) scope.names (cloFrom X.env.cells scope.names [])) fp
  have g4 := hv sc (upd Hb D (.dT [])) sc.heap.objs.size (cellsFrom (sc.heap.objs.size + 1) scope.names (cloFrom X.env.cells scope.names [])) fp
  show codeAny _ _ (.compStart (.DictComp kx vx [⟨tg, iter, ifs, 0⟩] scope pos) 0 (.ref it) (.ref D) (compEnvC scope (cellsFrom (sc.heap.objs.size + 1) scope.names (cloFrom X.env.cells scope.names [])) sc.heap.objs.size X.env)) _
    { sc with heap := pushCells (sc.heap.push { cls := .type "dict", data := .dict #[] }) scope.names }
  have hid : ∀ b ∈ fp, (upd Hb D (.dT [])) b = none := fun b hb => (okc b hb).1.1
  generalize eenv : compEnvC scope (cellsFrom (sc.heap.objs.size + 1) scope.names (cloFrom X.env.cells scope.names [])) sc.heap.objs.size X.env = env at Id g1 g2 g3 g4 ⊢
  have eloc : env.locals = sc.heap.objs.size := by subst eenv; rfl
  generalize eHc : upd Hb D (.dT []) = Hc at Ic Id g1 g2 g3 g4 begins hid okc
  generalize esd : ({ sc with heap := pushCells (sc.heap.push { cls := .type "dict", data := .dict #[] }) scope.names } : Shared) = sd at Id ⊢
  have td : tn 0 sd.heap := T.keep _ _ _ tc fun b _ o e => by
    rw [← esd]
    exact pushCells_keeps _ _ _ _ (Heap.get?_push_of_some _ e)
  have fpOk : ∀ {σ' : St} {H' : Hp} {s' : Shared}, Inv (X.blk sc Hc scope env fp) [] σ' H' s' → (∀ b ∈ fp, H' b = none) → ∀ b ∈ fp, FpOk (X.blk sc Hc scope env fp) [] H' b := fun {σ' H' s'} I' free b hb => by
    refine ⟨free b hb, (I'.ok.exf b hb).1, I'.ok.exfs b hb, .inl hb, fun x c e => (I'.ok.exf b hb).2 x c e, fun p hp => ?_⟩
    exact absurd (show p ∈ ([] : List (Addr × Obj)) ++ [] from hp) (by simp)
  refine codeAny_compStart_dict ?lp (T.self X.A 0 _ _ _ td ?lp)
  refine compLoop_anyD (fun n s' => ∃ i H', Inv (X.blk sc Hc scope env fp) [] (wipe σ (own.map (·.2))) H' s' ∧ tn i s'.heap ∧ (∀ b ∈ fp, H' b = none) ∧ W i n H') ?_ m0 ⟨0, Hc, Id, td, hid, begins⟩
  rintro n se ⟨i, He, Ie, te, free, at_⟩
  rcases turn i n He at_ with ⟨stop, wish⟩ | ⟨goes, On, next, step⟩
  · refine thnF (T.done (X.blk sc Hc scope env fp) rfl rfl rfl calm i [] se _ He (fun _ _ => False) Ie (fpOk Ie free) te stop) fun r sf ⟨hr, If⟩ => ?_
    subst hr
    have back : Inv X pl σ He sf := Ic.call' (ch := fp) If.os If.base If.hok If.bare fun b hb => ⟨(okc b hb).1.2.2.2.1, (okc b hb).1.2.1, (okc b hb).1.2.2.2.2.1, (okc b hb).1.2.2.2.2.2⟩
    have noC : He sc.heap.objs.size = none := by
      have z : He env.locals = none := If.free
      rw [eloc] at z
      exact z
    obtain ⟨m, hn, _⟩ := If.loc
    have hn' : sf.heap.Ns env.locals m := hn
    rw [eloc] at hn'
    obtain ⟨f0, f1, f2, f3, f4, f5⟩ := Ic.fpOk (Nat.le_refl _) noC
    exact ⟨m, hn', fun h'' sb' => ⟨.ref D, He, back.turned (t' := sf.toks) (fun b o hb e => (sb'.2 b hb).trans e) f0 f1 f3 f4 f5, rfl, wish⟩⟩
  · refine thnF (T.item (X.blk sc Hc scope env fp) rfl rfl rfl calm i [] se _ He (fun _ _ => False) Ie (fpOk Ie free) te goes) fun r sf ⟨u, hr, hf⟩ => ?_
    subst hr
    refine thnF hf fun _ sg ⟨x, Hg, Ig, rg, yg, tg', freeg⟩ => ?_
    have pinned := Ig.pinned (fpOk Ig freeg) (T.obj _ _ tg')
    refine thnF (g1.run _ sg _ Hg x u _ pinned rg (step x Hg yg)) fun _ sh ⟨σh, Hh, Ih, wh, qh⟩ => ?_
    refine thnF (g2.run _ sh σh Hh _ Ih qh) fun b si ⟨Hi, Ii, qi⟩ => ?_
    have ends : ∀ {s' : Shared} {H' : Hp}, Inv (X.blk sc Hc scope env fp) ([] ++ pinsAt fp sg.heap) σh H' s' → On H' →
        ∃ m, m < n ∧ ∃ i H', Inv (X.blk sc Hc scope env fp) [] (wipe σ (own.map (·.2))) H' s' ∧ tn i s'.heap ∧ (∀ b ∈ fp, H' b = none) ∧ W i m H' := fun {s' H'} I' on => by
      obtain ⟨m', lt, at'⟩ := next H' on
      have kept : ∀ b ∈ fp, ∀ o, sg.heap.get? b = some o → s'.heap.get? b = some o ∧ H' b = none := fun b hb o e => by
        have z := I'.pin (b, o) (List.mem_append_right _ (List.mem_append_right _ (mem_pinsAt hb e)))
        exact ⟨z.1, z.2.1⟩
      have len : (wipe σ (own.map (·.2))).length = σh.length := by
        rw [← wh, wipe_length]
      refine ⟨m', lt, i + 1, H', (I'.unpinned (pins := [])).weak len (fun j y e => ?_), T.keep _ _ _ tg' fun b hb o e => (kept b hb o e).1, fun b hb => ?_, at'⟩
      · rw [← wh] at e
        exact (wipe_some e).1
      · obtain ⟨o, e, _⟩ := T.obj _ _ tg' b hb
        exact (kept b hb o e).2
    cases b with
    | false =>
      simp only [Bool.false_eq_true, if_false] at qi ⊢
      exact ends Ii qi
    | true =>
      simp only [if_true] at qi ⊢
      refine thnF (g3.run _ si σh Hi _ Ii qi) fun _ sj ⟨yk, Hj, Ij, rj, qj⟩ => ?_
      refine thnF (g4.run _ sj σh Hj _ Ij qj) fun _ sk ⟨yv, Hk, Ik, rk, kvs, k, t, ek, et, eDk, few, on⟩ => ?_
      subst ek
      exact dictSet_tup (X := X.blk sc Hc scope env fp) (by show X.A.units < cLine; omega) Ik eDk et few rj rk fun _ Il => ends Il on
end
end L2
namespace L2
open PySem PySem.Spec PyProof.Rows PySem.GX
theorem same_new {H : Hp} {p : Addr} {o : HO} (h : H p = none) : Same H (upd H p o) := fun b u e => by
  rw [upd_ne (ne_of_none e h)]
  exact e
theorem keep1 {H : Hp} {q t : Addr} {o u : HO} (e : H t = some u) (h : H q = none) : upd H q o t = some u := by
  rw [upd_ne (ne_of_none e h)]
  exact e
section
variable {J : It} {n : Nat} {G : Hp → Prop} {Y : Nat → Hp → V → Hp → Prop} {g : TG} {tt : TT} {te : TE} {vs : List Nat} {σ : St} {H1 : Hp} {D : Addr} {Qd : Hp → Prop}
theorem same_del {H H' : Hp} {p : Addr} (s : Same H H') : Same (del H p) (del H' p) := fun b o e => by
  by_cases hb : b = p
  · rw [hb, del_same] at e; cases e
  · rw [del_ne hb] at e ⊢
    exact s b o e
theorem del_upd (H : Hp) (p : Addr) (o : HO) : del (upd H p o) p = del H p := by
  funext b
  by_cases hb : b = p
  · rw [hb, del_same, del_same]
  · rw [del_ne hb, del_ne hb, upd_ne hb]
theorem del_none {H : Hp} {p : Addr} (h : H p = none) : del H p = H := by
  funext b
  by_cases hb : b = p
  · rw [hb, del_same, h]
  · rw [del_ne hb]
/-- what the turn asks of the new list -/
def lcK (I : List V → Hp → Prop) (H1 : Hp) (D : Addr) (Nx : Hp → Prop) (ys : List V) : Option V → Hp → Prop
  | some y, H4 => ∃ acc, H4 D = some (.lst acc) ∧ acc.length < sizeLine ∧ Nx (upd H4 D (.lst (acc ++ [y])))
  | none, H4 => Nx H4
/-- [e for x in .. if t]: I says of the items so far and of the other objects what stays true -/
theorem lcR (w : Walk J n G Y) (I : Nat → List V → Hp → Prop) (st : ∀ i ys H H', Same H H' → I i ys H → I i ys H') (i0 : I 0 [] H1) (hz : n ≤ 16000000) (hD : H1 D = none) (hY : ∀ i H x H', Y i H x H' → Same H H') (hG : ∀ H', Same H1 H' → G H')
    (turn : ∀ (i : Nat) (x : V) (ys : List V) (H' H'' : Hp) (k : Option V → Hp → Prop), i < n → Same H1 H' → H' D = some (.lst ys) → I i ys (del H' D) → Y i H' x H'' → (∀ y H4, Same H'' H4 → I (i + 1) (ys ++ [y]) (del H4 D) → k (some y) H4) →
      (∀ H4, Same H'' H4 → I (i + 1) ys (del H4 D) → k none H4) → g x (wipe σ vs) H'' fun σ2 H2 => wipe σ2 vs = wipe σ vs ∧ tt σ2 H2 fun b H3 => if b = true then te σ2 H3 fun y H4 => k (some y) H4 else k none H3)
    (hd : ∀ ys H', ys.length ≤ n → Same H1 H' → H' D = some (.lst ys) → I n ys (del H' D) → Qd H') :
    ∃ W : Nat → Nat → Hp → Prop, (∃ m, W 0 m (upd H1 D (.lst []))) ∧ ∀ i m H, W i m H →
      (J.stop i H ∧ Qd H) ∨ (J.go i H ∧ ∃ Nx : Hp → Prop, (∀ H', Nx H' → ∃ m', m' < m ∧ W (i + 1) m' H') ∧ ∀ x H', J.yld i H x H' → g x (wipe σ vs) H' fun σ2 H2 => wipe σ2 vs = wipe σ vs ∧ tt σ2 H2 fun b H3 =>
        if b = true then te σ2 H3 fun y H4 => ∃ acc, H4 D = some (.lst acc) ∧ acc.length < sizeLine ∧ Nx (upd H4 D (.lst (acc ++ [y]))) else Nx H3) := by
  refine lc_it w (fun i H' => ∃ ys : List V, ys.length ≤ i ∧ Same H1 H' ∧ H' D = some (.lst ys) ∧ I i ys (del H' D)) ⟨[], Nat.le_refl _, same_new hD, upd_same, by rw [del_upd, del_none hD]; exact i0⟩ (fun i H' _ ⟨_, _, s, _⟩ => hG H' s) (fun i x H' H'' hi h hy => ?_) (fun H' ⟨ys, l, s, e, h⟩ => hd ys H' l s e h)
  obtain ⟨ys, l, s, e, h⟩ := h
  have sy := hY _ _ _ _ hy
  refine turn i x ys H' H'' (lcK (I i) H1 D _ ys) hi s e h hy (fun y H4 s4 h4 => ?_) (fun H4 s4 h4 => ?_)
  · have e4 := s4 _ _ (sy _ _ e)
    refine ⟨_, e4, by rw [sizeLine_eq]; omega, _, ?_, fun b o z => ?_, upd_same, by rw [del_upd]; exact h4⟩
    · rw [List.length_append]; simp; omega
    · rw [upd_ne (ne_of_none z hD)]
      exact s4 _ _ (sy _ _ (s b o z))
  · exact ⟨ys, by omega, (s.trans sy).trans s4, s4 _ _ (sy _ _ e), h4⟩
/-- [e for x in .. if t]: the i-th item is taken (as f i says) or not; what was tracked stays -/
theorem lcS (w : Walk J n G Y) (f : Nat → Option V) (hz : n ≤ 16000000) (hD : H1 D = none) (hY : ∀ i H x H', Y i H x H' → Same H H') (hG : ∀ H', Same H1 H' → G H')
    (turn : ∀ (i : Nat) (x : V) (H' H'' : Hp) (k : Option V → Hp → Prop), i < n → Same H1 H' → Y i H' x H'' → (∀ H4, Same H'' H4 → k (f i) H4) →
      g x (wipe σ vs) H'' fun σ2 H2 => wipe σ2 vs = wipe σ vs ∧ tt σ2 H2 fun b H3 => if b = true then te σ2 H3 fun y H4 => k (some y) H4 else k none H3)
    (hd : ∀ H', Same H1 H' → H' D = some (.lst ((List.range n).filterMap f)) → Qd H') :
    ∃ W : Nat → Nat → Hp → Prop, (∃ m, W 0 m (upd H1 D (.lst []))) ∧ ∀ i m H, W i m H →
      (J.stop i H ∧ Qd H) ∨ (J.go i H ∧ ∃ Nx : Hp → Prop, (∀ H', Nx H' → ∃ m', m' < m ∧ W (i + 1) m' H') ∧ ∀ x H', J.yld i H x H' → g x (wipe σ vs) H' fun σ2 H2 => wipe σ2 vs = wipe σ vs ∧ tt σ2 H2 fun b H3 =>
        if b = true then te σ2 H3 fun y H4 => ∃ acc, H4 D = some (.lst acc) ∧ acc.length < sizeLine ∧ Nx (upd H4 D (.lst (acc ++ [y]))) else Nx H3) := by
  refine lcR w (fun i ys _ => ys = (List.range i).filterMap f) (fun _ _ _ _ _ h => h) rfl hz hD hY hG (fun i x ys H' H'' k hi s e h hy k1 k2 => ?_) (fun ys H' _ s e h => hd H' s (by rw [e, h]))
  refine turn i x H' H'' k hi s hy fun H4 s4 => ?_
  cases ef : f i with
  | some y =>
    refine k1 y H4 s4 ?_
    rw [h, List.range_succ, List.filterMap_append]
    simp [ef]
  | none =>
    refine k2 H4 s4 ?_
    rw [h, List.range_succ, List.filterMap_append]
    simp [ef]
end
section
variable {X : Cx} {o : Expr} {to : TE} {f : Str} {pos : Pos}
/-- the target o.f of an own instance -/
def gFld (K : PySem.W.Frag) (to : TE) (f : Str) : TG := fun v σ H Q => to σ H fun x H1 => ∃ (p C dx : Addr) (fs : List (Str × V)), x = .ref p ∧ H1 p = some (.ins C dx fs) ∧ Cls K C ∧ NoAttr K C f ∧ fs.length < 1000 ∧ Q σ (upd H1 p (.ins C dx (putF f v fs)))
theorem pg_fld (ho : PE X o to) : PG X (.Attribute o f pos) (gFld X.K to f) := by
  refine ⟨fun pl s σ H v u Q I r h => ?_⟩
  rw [arm_assign_Attribute]
  refine wpAny_bind (wpAny_holding (thn (ho.run pl s σ H _ I h) fun ov s1 ⟨x, H1, I1, r1, p, C, dx, fs, ex, ep, c, n, l, q⟩ => ?_))
  subst ex
  obtain rfl : ov = Value.ref p := r1
  refine wpAny_bind (wpAny_standAt (wpAny_bind (wpAny_holding (setattr_ok I1 ep c n l r fun s3 I3 => ?_))))
  exact wpAny_release ⟨σ, _, I3, q⟩
end
end L2
namespace L2
open PySem PySem.Spec PyProof.Rows PySem.GX
theorem range_fm {α β : Type} (g : α → Option β) : ∀ xs : List α, (List.range xs.length).filterMap (fun i => xs[i]?.bind g) = xs.filterMap g := by
  intro xs
  have e : (List.range xs.length).filterMap (fun i => xs[i]?) = xs := by
    induction xs with
    | nil => rfl
    | cons a t ih =>
      rw [List.length_cons, List.range_succ_eq_map, List.filterMap_cons, List.filterMap_map]
      simp only [List.getElem?_cons_zero]
      congr 1
  conv => rhs; rw [← e, List.filterMap_filterMap]
section
variable {α : Type} {J : It} {G : Hp → Prop} {Y : Nat → Hp → V → Hp → Prop} {g : TG} {tt : TT} {te tk tv : TE} {vs : List Nat} {σ : St} {H1 : Hp} {D : Addr} {Qd : Hp → Prop}
/-- [e for x in .. if t] over things that stand for the items of xs -/
theorem lcG (xs : List α) (f : α → Option V) (w : Walk J xs.length G Y) (hz : xs.length ≤ 16000000) (hD : H1 D = none) (hY : ∀ i H x H', Y i H x H' → Same H H') (hG : ∀ H', Same H1 H' → G H')
    (turn : ∀ (i : Nat) (a : α) (x : V) (H' H'' : Hp) (k : Option V → Hp → Prop), xs[i]? = some a → Same H1 H' → Y i H' x H'' → (∀ H4, Same H'' H4 → k (f a) H4) →
      g x (wipe σ vs) H'' fun σ2 H2 => wipe σ2 vs = wipe σ vs ∧ tt σ2 H2 fun b H3 => if b = true then te σ2 H3 fun y H4 => k (some y) H4 else k none H3)
    (hd : ∀ H', Same H1 H' → H' D = some (.lst (xs.filterMap f)) → Qd H') :
    ∃ W : Nat → Nat → Hp → Prop, (∃ m, W 0 m (upd H1 D (.lst []))) ∧ ∀ i m H, W i m H →
      (J.stop i H ∧ Qd H) ∨ (J.go i H ∧ ∃ Nx : Hp → Prop, (∀ H', Nx H' → ∃ m', m' < m ∧ W (i + 1) m' H') ∧ ∀ x H', J.yld i H x H' → g x (wipe σ vs) H' fun σ2 H2 => wipe σ2 vs = wipe σ vs ∧ tt σ2 H2 fun b H3 =>
        if b = true then te σ2 H3 fun y H4 => ∃ acc, H4 D = some (.lst acc) ∧ acc.length < sizeLine ∧ Nx (upd H4 D (.lst (acc ++ [y]))) else Nx H3) := by
  refine lcS w (fun i => xs[i]?.bind f) hz hD hY hG (fun i x H' H'' k hi s hy k1 => ?_) (fun H' s e => hd H' s (by rw [e, range_fm]))
  have ei : xs[i]? = some xs[i] := List.getElem?_eq_getElem hi
  refine turn i xs[i] x H' H'' k ei s hy fun H4 s4 => ?_
  have := k1 H4 s4
  rw [ei] at this
  exact this
/-- the generic walk of a dict comprehension, of either sort -/
theorem dc_it {n : Nat} (w : Walk J n G Y) {nx : Nat → Hp → Prop} {body : Nat → V → Hp → (Hp → Prop) → Prop} (h0 : nx 0 H1) (hG : ∀ i H, i ≤ n → nx i H → G H)
    (hs : ∀ i x H H', i < n → nx i H → Y i H x H' → body i x H' (nx (i + 1))) (hd : ∀ H, nx n H → Qd H) :
    ∃ W : Nat → Nat → Hp → Prop, (∃ m, W 0 m H1) ∧ ∀ i m H, W i m H →
      (J.stop i H ∧ Qd H) ∨ (J.go i H ∧ ∃ Nx : Hp → Prop, (∀ H', Nx H' → ∃ m', m' < m ∧ W (i + 1) m' H') ∧ ∀ x H', J.yld i H x H' → body i x H' Nx) := by
  refine ⟨fun i m H => m = n - i ∧ i ≤ n ∧ nx i H, ⟨n, by simp, Nat.zero_le _, h0⟩, ?_⟩
  rintro i m H ⟨rfl, hi, p⟩
  have q := hG i H hi p
  by_cases hlt : i < n
  · exact .inr ⟨w.goes i H hlt q, nx (i + 1), fun H' p' => ⟨n - (i + 1), by omega, rfl, hlt, p'⟩, fun x H' y => hs i x H H' hlt p (w.yields i H x H' hlt q y)⟩
  · have e : i = n := by omega
    subst e
    exact .inl ⟨w.stops H q, hd H p⟩
end
section
variable {α κ : Type} [DecidableEq κ]
/-- the entries of {key a: val a for a in xs} -/
def dOf (key : α → κ) (val : α → V) (xs : List α) : List (κ × V) := xs.foldl (fun kvs a => putK kvs (key a) (val a)) []
theorem dOf_snoc (key : α → κ) (val : α → V) (xs : List α) (a : α) : dOf key val (xs ++ [a]) = putK (dOf key val xs) (key a) (val a) := by
  unfold dOf
  rw [List.foldl_append]
  rfl
theorem dOf_take {key : α → κ} {val : α → V} {xs : List α} {i : Nat} {a : α} (h : xs[i]? = some a) : dOf key val (xs.take (i + 1)) = putK (dOf key val (xs.take i)) (key a) (val a) := by
  rw [List.take_add_one, h]
  exact dOf_snoc _ _ _ _
theorem dOf_len (key : α → κ) (val : α → V) (xs : List α) : (dOf key val xs).length ≤ xs.length := by
  suffices h : ∀ (ys : List α) (kvs : List (κ × V)), (ys.foldl (fun kvs a => putK kvs (key a) (val a)) kvs).length ≤ kvs.length + ys.length by
    have := h xs []
    simpa [dOf] using this
  intro ys
  induction ys with
  | nil => intro kvs; simp
  | cons a t ih =>
    intro kvs
    have h1 := ih (putK kvs (key a) (val a))
    have h2 := length_putK kvs (key a) (val a)
    rw [List.foldl_cons, List.length_cons]
    omega
theorem dOf_val (key : α → κ) (val : α → V) : ∀ (xs : List α) (k : κ), (valV (dOf key val xs) k).isSome = decide (k ∈ xs.map key) := by
  suffices h : ∀ (n : Nat) (xs : List α) (k : κ), xs.length = n → (valV (dOf key val xs) k).isSome = decide (k ∈ xs.map key) from fun xs k => h _ xs k rfl
  intro n
  induction n with
  | zero =>
    intro xs k h
    have : xs = [] := List.eq_nil_of_length_eq_zero h
    subst this
    rfl
  | succ n ih =>
    intro xs k h
    have hne : xs ≠ [] := by intro z; subst z; cases h
    obtain ⟨ys, a, rfl⟩ : ∃ ys a, xs = ys ++ [a] := ⟨xs.dropLast, xs.getLast hne, (List.dropLast_concat_getLast hne).symm⟩
    have hl : ys.length = n := by rw [List.length_append] at h; simpa using h
    rw [dOf_snoc, valV_put]
    by_cases e : k = key a
    · rw [if_pos e, e]; simp
    · rw [if_neg e, ih ys k hl, List.map_append]
      simp [e]
/-- keys that differ: the entries stand as they come -/
theorem dOf_nodup (key : α → κ) (val : α → V) : ∀ (xs : List α), (xs.map key).Nodup → dOf key val xs = xs.map fun a => (key a, val a) := by
  suffices h : ∀ (n : Nat) (xs : List α), xs.length = n → (xs.map key).Nodup → dOf key val xs = xs.map fun a => (key a, val a) from fun xs => h _ xs rfl
  intro n
  induction n with
  | zero =>
    intro xs h _
    have : xs = [] := List.eq_nil_of_length_eq_zero h
    subst this
    rfl
  | succ n ih =>
    intro xs h nd
    have hne : xs ≠ [] := by intro z; subst z; cases h
    obtain ⟨ys, a, rfl⟩ : ∃ ys a, xs = ys ++ [a] := ⟨xs.dropLast, xs.getLast hne, (List.dropLast_concat_getLast hne).symm⟩
    have hl : ys.length = n := by rw [List.length_append] at h; simpa using h
    rw [List.map_append, List.nodup_append] at nd
    have hn : valV (dOf key val ys) (key a) = none := by
      have := dOf_val key val ys (key a)
      rw [decide_eq_false (fun z => nd.2.2 _ z (key a) (by simp) rfl)] at this
      exact Option.isNone_iff_eq_none.mp (by simpa using this)
    rw [dOf_snoc, putK_new _ hn, ih ys hl nd.1, List.map_append]
    rfl
end
section
variable {α : Type} {J : It} {G : Hp → Prop} {Y : Nat → Hp → V → Hp → Prop} {g : TG} {tt : TT} {tk tv : TE} {vs : List Nat} {σ : St} {H1 : Hp} {D : Addr} {Qd : Hp → Prop}
/-- {k: v for x in ..}, keys ints or texts -/
theorem dcG (xs : List α) (key : α → Key) (val : α → V) (w : Walk J xs.length G Y) (hz : xs.length ≤ 16000000) (hD : H1 D = none) (hY : ∀ i H x H', Y i H x H' → Same H H') (hG : ∀ H', Same H1 H' → G H')
    (turn : ∀ (i : Nat) (a : α) (x : V) (H' H'' : Hp) (k : V → V → Hp → Prop) (k0 : Hp → Prop), xs[i]? = some a → Same H1 H' → Y i H' x H'' → (∀ H4, Same H'' H4 → k (kV (key a)) (val a) H4) →
      g x (wipe σ vs) H'' fun σ2 H2 => wipe σ2 vs = wipe σ vs ∧ tt σ2 H2 fun b H3 => if b = true then tk σ2 H3 fun y H4 => tv σ2 H4 fun z H5 => k y z H5 else k0 H3)
    (hd : ∀ H', Same H1 H' → H' D = some (.dK (dOf key val xs)) → Qd H') :
    ∃ W : Nat → Nat → Hp → Prop, (∃ m, W 0 m (upd H1 D (.dK []))) ∧ ∀ i m H, W i m H →
      (J.stop i H ∧ Qd H) ∨ (J.go i H ∧ ∃ Nx : Hp → Prop, (∀ H', Nx H' → ∃ m', m' < m ∧ W (i + 1) m' H') ∧ ∀ x H', J.yld i H x H' → g x (wipe σ vs) H' fun σ2 H2 => wipe σ2 vs = wipe σ vs ∧ tt σ2 H2 fun b H3 =>
        if b = true then tk σ2 H3 fun y H4 => tv σ2 H4 fun z H5 => ∃ kvs k, y = kV k ∧ H5 D = some (.dK kvs) ∧ kvs.length < sizeLine ∧ Nx (upd H5 D (.dK (putK kvs k z))) else Nx H3) := by
  refine dc_it w (nx := fun i H' => Same H1 H' ∧ H' D = some (.dK (dOf key val (xs.take i)))) (body := fun i x H' Nx => g x (wipe σ vs) H' fun σ2 H2 => wipe σ2 vs = wipe σ vs ∧ tt σ2 H2 fun b H3 =>
        if b = true then tk σ2 H3 fun y H4 => tv σ2 H4 fun z H5 => ∃ kvs k, y = kV k ∧ H5 D = some (.dK kvs) ∧ kvs.length < sizeLine ∧ Nx (upd H5 D (.dK (putK kvs k z))) else Nx H3)
    ⟨same_new hD, upd_same⟩ (fun i H _ h => hG H h.1) (fun i x H H' hi h hy => ?_) (fun H h => hd H h.1 (by rw [h.2, List.take_length]))
  have ei : xs[i]? = some xs[i] := List.getElem?_eq_getElem hi
  have sy := hY _ _ _ _ hy
  refine turn i xs[i] x H H' (fun y z H5 => ∃ kvs k, y = kV k ∧ H5 D = some (.dK kvs) ∧ kvs.length < sizeLine ∧ _) _ ei h.1 hy fun H4 s4 => ⟨_, _, rfl, s4 _ _ (sy _ _ h.2), ?_, fun b o z => ?_, ?_⟩
  · have := dOf_len key val (xs.take i)
    rw [List.length_take] at this
    rw [sizeLine_eq]
    omega
  · rw [upd_ne (ne_of_none z hD)]
    exact s4 _ _ (sy _ _ (h.1 b o z))
  · rw [upd_same, dOf_take ei]
/-- {(..): v for x in ..}, keys tuples -/
theorem dcGT (xs : List α) (key : α → List Key) (val : α → V) (w : Walk J xs.length G Y) (hz : xs.length ≤ 16000000) (hD : H1 D = none) (hY : ∀ i H x H', Y i H x H' → Same H H') (hG : ∀ H', Same H1 H' → G H')
    (turn : ∀ (i : Nat) (a : α) (x : V) (H' H'' : Hp) (k : V → V → Hp → Prop) (k0 : Hp → Prop), xs[i]? = some a → Same H1 H' → Y i H' x H'' → (∀ t H4, Same H'' H4 → H4 t = some (.tup ((key a).map kV)) → k (.ref t) (val a) H4) →
      g x (wipe σ vs) H'' fun σ2 H2 => wipe σ2 vs = wipe σ vs ∧ tt σ2 H2 fun b H3 => if b = true then tk σ2 H3 fun y H4 => tv σ2 H4 fun z H5 => k y z H5 else k0 H3)
    (hd : ∀ H', Same H1 H' → H' D = some (.dT (dOf key val xs)) → Qd H') :
    ∃ W : Nat → Nat → Hp → Prop, (∃ m, W 0 m (upd H1 D (.dT []))) ∧ ∀ i m H, W i m H →
      (J.stop i H ∧ Qd H) ∨ (J.go i H ∧ ∃ Nx : Hp → Prop, (∀ H', Nx H' → ∃ m', m' < m ∧ W (i + 1) m' H') ∧ ∀ x H', J.yld i H x H' → g x (wipe σ vs) H' fun σ2 H2 => wipe σ2 vs = wipe σ vs ∧ tt σ2 H2 fun b H3 =>
        if b = true then tk σ2 H3 fun y H4 => tv σ2 H4 fun z H5 => ∃ kvs k t, y = .ref t ∧ H5 t = some (.tup (k.map kV)) ∧ H5 D = some (.dT kvs) ∧ kvs.length < sizeLine ∧ Nx (upd H5 D (.dT (putK kvs k z))) else Nx H3) := by
  refine dc_it w (nx := fun i H' => Same H1 H' ∧ H' D = some (.dT (dOf key val (xs.take i)))) (body := fun i x H' Nx => g x (wipe σ vs) H' fun σ2 H2 => wipe σ2 vs = wipe σ vs ∧ tt σ2 H2 fun b H3 =>
        if b = true then tk σ2 H3 fun y H4 => tv σ2 H4 fun z H5 => ∃ kvs k t, y = .ref t ∧ H5 t = some (.tup (k.map kV)) ∧ H5 D = some (.dT kvs) ∧ kvs.length < sizeLine ∧ Nx (upd H5 D (.dT (putK kvs k z))) else Nx H3)
    ⟨same_new hD, upd_same⟩ (fun i H _ h => hG H h.1) (fun i x H H' hi h hy => ?_) (fun H h => hd H h.1 (by rw [h.2, List.take_length]))
  have ei : xs[i]? = some xs[i] := List.getElem?_eq_getElem hi
  have sy := hY _ _ _ _ hy
  refine turn i xs[i] x H H' (fun y z H5 => ∃ (kvs : List (List Key × V)) (k : List Key) (t : Addr), y = .ref t ∧ H5 t = some (.tup (k.map kV)) ∧ H5 D = some (.dT kvs) ∧ kvs.length < sizeLine ∧ _) _ ei h.1 hy fun t H4 s4 et => ⟨_, _, t, rfl, et, s4 _ _ (sy _ _ h.2), ?_, fun b o z => ?_, ?_⟩
  · have := dOf_len key val (xs.take i)
    rw [List.length_take] at this
    rw [sizeLine_eq]
    omega
  · rw [upd_ne (ne_of_none z hD)]
    exact s4 _ _ (sy _ _ (h.1 b o z))
  · rw [upd_same, dOf_take ei]
end
/-! lists of texts, lists of lists of texts, as data -/
abbrev dTx (ws : List Str) : PyData := .list (ws.map .str)
abbrev dTab (rs : List (List Str)) : PyData := .list (rs.map dTx)
theorem eqv_strs : ∀ a b : List Str, PyData.eqvAll (a.map .str) (b.map .str) = decide (a = b)
  | [], [] => rfl
  | [], _ :: _ => rfl
  | _ :: _, [] => rfl
  | x :: xs, y :: ys => by
    show (PyData.eqv (.str x) (.str y) && PyData.eqvAll (xs.map .str) (ys.map .str)) = _
    rw [eqv_strs xs ys]
    show ((x == y) && _) = _
    by_cases h : x = y
    · subst h; simp
    · simp [h]
theorem eqv_dTx (a b : List Str) : PyData.eqv (dTx a) (dTx b) = decide (a = b) := eqv_strs a b
theorem eqv_tabs : ∀ a b : List (List Str), PyData.eqvAll (a.map dTx) (b.map dTx) = decide (a = b)
  | [], [] => rfl
  | [], _ :: _ => rfl
  | _ :: _, [] => rfl
  | x :: xs, y :: ys => by
    show (PyData.eqv (dTx x) (dTx y) && PyData.eqvAll (xs.map dTx) (ys.map dTx)) = _
    rw [eqv_tabs xs ys, eqv_dTx]
    by_cases h : x = y
    · subst h; simp
    · simp [h]
theorem eqv_dTab (a b : List (List Str)) : PyData.eqv (dTab a) (dTab b) = decide (a = b) := eqv_tabs a b
theorem lay_strs : ∀ {a : List Str}, (∀ x ∈ a, PyData.strOk x = true) → PyData.canLayAll0 (a.map .str) = true ∧ PyData.depthAll (a.map .str) = 0
  | [], _ => ⟨rfl, rfl⟩
  | x :: xs, h => by
    have ih := lay_strs (a := xs) fun y hy => h y (List.mem_cons_of_mem _ hy)
    refine ⟨?_, ?_⟩
    · show (PyData.strOk x && PyData.canLayAll0 (xs.map .str)) = true
      rw [h x (List.mem_cons_self ..), ih.1]
      rfl
    · show max 0 (PyData.depthAll (xs.map .str)) = 0
      rw [ih.2]
      rfl
theorem shaped_dTx {a : List Str} (h : ∀ x ∈ a, PyData.strOk x = true) : SeqAt.shaped (dTx a) = true := by
  have l := lay_strs h
  have d1 : (dTx a).canLay0 = true := l.1
  have d2 : (dTx a).depth = 1 := by
    show PyData.depthAll _ + 1 = 1
    rw [l.2]
  unfold SeqAt.shaped
  rw [d1, d2]
  rfl
theorem lay_tabs : ∀ {a : List (List Str)}, (∀ r ∈ a, ∀ x ∈ r, PyData.strOk x = true) → PyData.canLayAll0 (a.map dTx) = true ∧ PyData.depthAll (a.map dTx) ≤ 1
  | [], _ => ⟨rfl, Nat.zero_le _⟩
  | r :: rs, h => by
    have ih := lay_tabs (a := rs) fun y hy => h y (List.mem_cons_of_mem _ hy)
    have l := lay_strs (h r (List.mem_cons_self ..))
    refine ⟨?_, ?_⟩
    · show (PyData.canLayAll0 (r.map .str) && PyData.canLayAll0 (rs.map dTx)) = true
      rw [l.1, ih.1]
      rfl
    · show max (PyData.depthAll (r.map .str) + 1) (PyData.depthAll (rs.map dTx)) ≤ 1
      rw [l.2]
      have := ih.2
      omega
theorem shaped_dTab {a : List (List Str)} (h : ∀ r ∈ a, ∀ x ∈ r, PyData.strOk x = true) : SeqAt.shaped (dTab a) = true := by
  have l := lay_tabs h
  have d1 : (dTab a).canLay0 = true := l.1
  have d2 : (dTab a).depth ≤ 2 := by
    show PyData.depthAll _ + 1 ≤ 2
    have := l.2
    omega
  unfold SeqAt.shaped
  rw [d1]
  simp
  omega
theorem dpStrs {K : PySem.W.Frag} {H : Hp} : ∀ ws : List Str, DpAll K H (ws.map V.str) (ws.map PyData.str)
  | [] => .nil
  | x :: xs => .cons (.str x) (dpStrs xs)
theorem dp_dTx {K : PySem.W.Frag} {H : Hp} {p : Addr} {ws : List Str} (h : H p = some (.lst (ws.map V.str))) : Dp K H (.ref p) (dTx ws) := .lst (SqL.of h) (dpStrs ws)
/-- the lists at as hold the rows -/
inductive Rw (H : Hp) : List Addr → List (List Str) → Prop
  | nil : Rw H [] []
  | cons {a : Addr} {r : List Str} {as : List Addr} {rs : List (List Str)} : H a = some (.lst (r.map V.str)) → Rw H as rs → Rw H (a :: as) (r :: rs)
theorem Rw.same {H H' : Hp} (s : Same H H') : ∀ {as : List Addr} {rs : List (List Str)}, Rw H as rs → Rw H' as rs
  | _, _, .nil => .nil
  | _, _, .cons e t => .cons (s _ _ e) (Rw.same s t)
theorem Rw.len {H : Hp} : ∀ {as : List Addr} {rs : List (List Str)}, Rw H as rs → as.length = rs.length
  | _, _, .nil => rfl
  | _, _, .cons _ t => by simp [Rw.len t]
theorem Rw.snoc {H : Hp} {a : Addr} {r : List Str} (e : H a = some (.lst (r.map V.str))) : ∀ {as : List Addr} {rs : List (List Str)}, Rw H as rs → Rw H (as ++ [a]) (rs ++ [r])
  | _, _, .nil => .cons e .nil
  | _, _, .cons e1 t => .cons e1 (Rw.snoc e t)
theorem Rw.get {H : Hp} : ∀ {as : List Addr} {rs : List (List Str)} {i : Nat} {a : Addr} {r : List Str}, Rw H as rs → as[i]? = some a → rs[i]? = some r → H a = some (.lst (r.map V.str))
  | _, _, _, _, _, .nil, e, _ => by simp at e
  | _, _, 0, _, _, .cons e _, e1, e2 => by simp at e1 e2; subst e1; subst e2; exact e
  | _, _, i + 1, a, r, .cons _ t, e1, e2 => Rw.get (i := i) t (by simpa using e1) (by simpa using e2)
theorem Rw.drop {H : Hp} : ∀ {as : List Addr} {rs : List (List Str)} (n : Nat), Rw H as rs → Rw H (as.drop n) (rs.drop n)
  | _, _, 0, t => t
  | _, _, _ + 1, .nil => .nil
  | _, _, n + 1, .cons _ t => Rw.drop n t
theorem Rw.take {H : Hp} : ∀ {as : List Addr} {rs : List (List Str)} (n : Nat), Rw H as rs → Rw H (as.take n) (rs.take n)
  | _, _, 0, _ => .nil
  | _, _, _ + 1, .nil => .nil
  | _, _, n + 1, .cons e t => .cons e (Rw.take n t)
theorem dpTabs {K : PySem.W.Frag} {H : Hp} : ∀ {as : List Addr} {rs : List (List Str)}, Rw H as rs → DpAll K H (as.map V.ref) (rs.map dTx)
  | _, _, .nil => .nil
  | _, _, .cons e t => .cons (dp_dTx e) (dpTabs t)
theorem dp_dTab {K : PySem.W.Frag} {H : Hp} {p : Addr} {as : List Addr} {rs : List (List Str)} (h : H p = some (.lst (as.map V.ref))) (t : Rw H as rs) : Dp K H (.ref p) (dTab rs) := .lst (SqL.of h) (dpTabs t)
end L2
namespace My
open PySem PySem.Spec PyProof.Rows L2
def top (i : Nat) : Stmt := PySem.Challenge.pw_shortlooks_k14_looks.main.body.getD i (.Pass ⟨0, 0, 0, 0⟩)
abbrev cInvalidText : Stmt := top 2
abbrev cInvalidRow : Stmt := top 3
abbrev cInvalidKind : Stmt := top 4
abbrev cInvalidNumber : Stmt := top 5
abbrev cInvalidMood : Stmt := top 6
abbrev cInvalidSign : Stmt := top 7
abbrev cInvalidPaper : Stmt := top 8
abbrev cNotARule : Stmt := top 9
abbrev cTooMany : Stmt := top 13
abbrev sBounds : Stmt := top 18
abbrev sMade : Stmt := top 21
abbrev sRowOf : Stmt := top 22
abbrev sIsKind : Stmt := top 25
abbrev sIsNum : Stmt := top 26
abbrev sCKind : Stmt := top 27
abbrev sCNum : Stmt := top 28
abbrev sLastL : Stmt := top 29
abbrev sEndsL : Stmt := top 30
abbrev sPiecesL : Stmt := top 31
abbrev sLook : Stmt := top 32
abbrev sWell : Stmt := top 34
abbrev sDip : Stmt := top 35
abbrev sPick : Stmt := top 36
abbrev sLine : Stmt := top 37
abbrev sOdd : Stmt := top 38
abbrev sError : Stmt := top 39
abbrev sClass : Stmt := top 40
abbrev sField : Stmt := top 41
abbrev sLPieces : Stmt := top 42
abbrev sLLook : Stmt := top 43
abbrev sRight : Stmt := top 44
abbrev sLaw : Stmt := top 45
end My
namespace My
open PySem PySem.Spec PyProof.Rows L2
/-- the def x is there, and keeps the promise -/
structure Hv (P : Program) (w : World) (K : PySem.W.Frag) (mg : Str → Option Value) (base : Heap) (k : Nat) (x : Str) (ps : List Str) (sp : Sp) : Prop where
  ex : ∃ (f : Addr) (fd : FuncData), FnOk P w K mg base CX0 k f fd ps sp ∧ Binds K fd ps [] ∧ mg x = some (.ref f) ∧ PySem.W.keepIn K (.ref f) = true
theorem pe_cl {X : Cx} {k : Nat} {x : Str} {ps : List Str} {sp : Sp} {p pos : Pos} {e : Expr} {es : List Expr} {t : TA} {E : XK} (h : Hv X.prog X.w X.K X.mg X.base k x ps sp) (hr : Room k X.A) (hg : Gl X x) (hx : Passes CX0 X E) (ha : PA X (e :: es) t)
    (hdb : (x == ("__debug__" : Str)) = false := by decide) (he : starEach (e :: es) X.env = (false, eval e X.env) :: starEach es X.env := by rfl) (hpl : (backTo pos (starEach es X.env)).any (·.1) = false := by rfl) :
    PE X (.Call (.Name x p) (e :: es) [] pos) (tCall sp [] E t) := by
  obtain ⟨f, fd, F, b, g, kp⟩ := h.ex
  exact pe_call F hr hg g kp b .nil hx ha hdb he hpl
abbrev abc : Str := "abcdefghijklmnopqrstuvwxyz"
def madeL (x y : Str) : Bool := (x.cps.toList.map fun c => decide (c ∈ y.cps.toList)).all id
def spMade : Sp := fun vs H Q _ => ∃ x y : Str, vs = [.str x, .str y] ∧ x.length ≤ 16000000 ∧ ∀ H', Same H H' → Q (.bl (madeL x y)) H'
section
variable {P : Program} {w : World} {K : PySem.W.Frag} {mg : Str → Option Value} {base : Heap}
theorem scMade : FnScope ["text", "letters", "letter"] ["text", "letters"] (defScope sMade) := ⟨rfl, rfl, rfl, by decide +kernel, rfl, by decide +kernel, by decide +kernel⟩
theorem ok_made {f : Addr} {fd : FuncData} (F : Fun K "made_of" "made_of" sMade f fd) (hA : mg "all" = none) : FnOk P w K mg base CX0 1 f fd ["text", "letters"] spMade := by
  refine F.ok scMade (fun vs H Q E h => ?_) (fun cdv A outer s H vs Q E hr h => ?_)
  · obtain ⟨x, y, rfl, _⟩ := h
    rfl
  · obtain ⟨x, y, rfl, hx, k⟩ := h
    refine ⟨_, pss_one (ps_ret (pe_callB (cr_all rfl) (by rfl) hA (by decide +kernel) (pa_cons (pe_lc (own := [("letter", 2)]) (g := gName 2) (tt := tYes) rfl scMade.nd (pi_str (pv 0))
      (blkOk_by (N := ["text", "letters", "letter"]) (sc := defScope sMade) (by decide +kernel)) (fun _ _ _ _ _ => pg_name (i := 2) scMade.nd rfl (Or.inl rfl)) (fun _ _ _ _ _ => pts_nil) (fun _ _ _ _ _ => pe_cmpR op_in_sign (pv 2) (pv 1) (by rfl))) pa_nil))), ?_⟩
    refine ⟨_, rfl, x, rfl, fun D hD => ?_⟩
    refine lcG (x.cps.toList) (fun c => some (.bl (decide (c ∈ y.cps.toList)))) (by rw [Array.length_toList]; exact walk_str) (by rw [Array.length_toList]; exact hx) hD (fun i H x H' h => by rw [h.1]; exact Same.refl _) (fun _ _ => trivial) (fun i c z H' H'' k1 hc _ hy k2 => ?_) (fun H' s' e => ?_)
    · obtain ⟨rfl, c', hc', rfl⟩ := hy
      rw [← Array.getElem?_toList, hc] at hc'
      cases hc'
      exact ⟨rfl, _, rfl, _, rfl, c, _, rfl, rfl, k2 _ (Same.refl _)⟩
    · refine ⟨D, x.cps.toList.map fun c => decide (c ∈ y.cps.toList), rfl, SqL.of ?_, k _ s'⟩
      rw [e, List.filterMap_eq_map', List.map_map]
      rfl
end
end My
namespace My
open PySem PySem.Spec PyProof.Rows L2
/-- a well stands at p -/
def Wl (H : Hp) (p : Addr) : Prop := ∃ w0 w1 w2 : Int, 0 ≤ w0 ∧ 0 ≤ w1 ∧ H p = some (.lst [.int w0, .int w1, .int w2])
def spDip : Sp := fun vs H Q _ => ∃ (p : Addr) (n : Int), vs = [.ref p, .int n] ∧ Wl H p ∧ 0 < n ∧ n < 1073741824 ∧
  ∀ (d : Int) (o : HO), 0 ≤ d → d < n → Wl (upd H p o) p → Q (.int d) (upd H p o)
section
variable {P : Program} {w : World} {K : PySem.W.Frag} {mg : Str → Option Value} {base : Heap}
theorem scD : FnScope ["_law_well_here", "_law_size", "_law_digit"] ["_law_well_here", "_law_size"] (defScope sDip) :=
  ⟨rfl, rfl, rfl, by decide +kernel, rfl, by decide +kernel, by decide +kernel⟩
theorem ok_dip {f : Addr} {fd : FuncData} (F : Fun K "_law_dip" "_law_dip" sDip f fd) (hI : mg "int" = none) : FnOk P w K mg base CX0 1 f fd ["_law_well_here", "_law_size"] spDip := by
  refine F.ok scD (fun vs H Q E h => ?_) (fun cdv A outer s H vs Q E hr h => ?_)
  · obtain ⟨p, n, rfl, _⟩ := h
    rfl
  · obtain ⟨p, n, rfl, ⟨w0, w1, w2, h0, h1, hp⟩, n0, n1, k⟩ := h
    refine ⟨_, pss_cons (ps_asg (pe_op op_add (pe_ix ix_list (pv 0) pe_int (fun _ _ => rfl)) pe_int) (pg_sub (pv 0) pe_int set_list))
      (pss_cons (ps_if (pt_cmpR op_gt (pe_ix ix_list (pv 0) pe_int (fun _ _ => rfl)) pe_int (nomark _))
        (pss_cons (ps_set (i := 2) scD.nd rfl (Or.inl rfl) (pe_op op_modN (pe_callTy call_int1 (by rfl) hI (by decide +kernel) (pa_cons (pe_ix ix_list (pv 0) pe_int (fun _ _ => rfl)) pa_nil)) (pv 1)))
        (pss_cons (ps_asg (pe_op op_fdivN (pe_callTy call_int1 (by rfl) hI (by decide +kernel) (pa_cons (pe_ix ix_list (pv 0) pe_int (fun _ _ => rfl)) pa_nil)) (pv 1)) (pg_sub (pv 0) pe_int set_list))
        (pss_one (ps_ret (pv 2))))) pss_nil)
      (pss_cons (ps_asg (pe_op op_mod (pe_callTy call_int1 (by rfl) hI (by decide +kernel) (pa_cons (pe_op op_add (pe_op op_add (pe_op op_mul (pe_ix ix_list (pv 0) pe_int (fun _ _ => rfl)) pe_int)
          (pe_op op_mul pe_int (pe_ix ix_list (pv 0) pe_int (fun _ _ => rfl)))) pe_int) pa_nil)) pe_int) (pg_sub (pv 0) pe_int set_list))
      (pss_one (ps_ret (pe_op op_modN (pe_callTy call_int1 (by rfl) hI (by decide +kernel) (pa_cons (pe_op op_fdiv (pe_ix ix_list (pv 0) pe_int (fun _ _ => rfl)) pe_int) pa_nil)) (pv 1)))))), ?_⟩
    -- well[2] = well[2] + 1
    refine ⟨_, rfl, p, _, _, _, rfl, rfl, SqL.of hp, atI_nat (j := 2) rfl, _, _, rfl, rfl, _, rfl, p, _, _, 2, rfl, rfl, hp, rfl, ?_⟩
    have hp1 : ∀ o, upd H p o p = some o := fun o => upd_same
    refine ⟨_, rfl, p, _, _, _, rfl, rfl, SqL.of (hp1 _), atI_nat (j := 0) rfl, _, _, rfl, rfl, _, rfl, ?_⟩
    refine ite2 (fun c => ?_) (fun c => ?_)
    · have c' : (0 : Int) < w0 := of_decide_eq_true c
      refine ⟨_, rfl, p, _, _, _, rfl, rfl, SqL.of (hp1 _), atI_nat (j := 0) rfl, .inl ⟨_, rfl, _, rfl, _, _, rfl, rfl, (by show n ≠ 0; omega), ?_⟩⟩
      refine ⟨_, rfl, p, _, _, _, rfl, rfl, SqL.of (hp1 _), atI_nat (j := 0) rfl, .inl ⟨_, rfl, _, rfl, _, _, rfl, rfl, ⟨(by omega), (by omega)⟩, _, rfl, p, _, _, 0, rfl, rfl, hp1 _, rfl, ?_⟩⟩
      refine ⟨_, rfl, ?_⟩
      rw [upd_upd]
      refine k _ _ (Int.fmod_nonneg_of_pos _ n0) (Int.fmod_lt_of_pos _ n0) ⟨_, _, _, ?_, h1, upd_same⟩
      rw [Int.fdiv_eq_ediv_of_nonneg _ (by omega)]
      exact Int.ediv_nonneg h0 (by omega)
    · refine ⟨_, rfl, p, _, _, _, rfl, rfl, SqL.of (hp1 _), atI_nat (j := 1) rfl, _, _, rfl, rfl, .inr ⟨by decide, by decide⟩, _, rfl, p, _, _, _, rfl, rfl, SqL.of (hp1 _), atI_nat (j := 2) rfl, _, _, rfl, rfl, .inl ⟨by decide, by decide⟩,
        _, _, rfl, rfl, _, _, rfl, rfl, .inl ⟨_, rfl, _, _, rfl, rfl, (by show (0 : Int) < 2147483647; decide), _, rfl, p, _, _, 1, rfl, rfl, hp1 _, rfl, ?_⟩⟩
      rw [upd_upd]
      refine ⟨_, rfl, p, _, _, _, rfl, rfl, SqL.of (hp1 _), atI_nat (j := 1) rfl, _, _, rfl, rfl, ⟨by decide, by decide⟩, .inl ⟨_, rfl, _, rfl, _, _, rfl, rfl, (by show n ≠ 0; omega), ?_⟩⟩
      exact k _ _ (Int.fmod_nonneg_of_pos _ n0) (Int.fmod_lt_of_pos _ n0) ⟨_, _, _, h0, Int.emod_nonneg _ (by decide), upd_same⟩
end
end My
namespace My
open PySem PySem.Spec PyProof.Rows L2
def spWell (K : PySem.W.Frag) : Sp := fun vs H Q _ => ∃ (a : Addr) (ns : List Int) (t : Int), vs = [.ref a, .int t] ∧ SqL K H a (ns.map V.int) ∧ 0 ≤ t ∧ t ≤ 1000 ∧
  ∀ (p : Addr) (H' : Hp), Same H H' → H p = none → Wl H' p → Q (.ref p) H'
theorem cut_ints (ns : List Int) (lo hi : Option Int) : ∃ ms : List Int, cutV (ns.map V.int) lo hi = ms.map V.int := by
  unfold cutV
  rw [← List.map_drop, ← List.map_take]
  exact ⟨_, rfl⟩
theorem map_int_get {ns : List Int} {i : Nat} {y : V} (h : (ns.map V.int)[i]? = some y) : ∃ z, ns[i]? = some z ∧ y = V.int z := by
  rw [List.getElem?_map] at h
  cases e : ns[i]? with
  | none => rw [e] at h; cases h
  | some z => rw [e] at h; exact ⟨z, rfl, (Option.some.inj h).symm⟩
section
variable {P : Program} {w : World} {K : PySem.W.Frag} {mg : Str → Option Value} {base : Heap}
theorem scW : FnScope ["_law_script", "_law_turn", "_law_entry", "_law_stirred", "_law_each"] ["_law_script", "_law_turn"] (defScope sWell) :=
  ⟨rfl, rfl, rfl, by decide +kernel, rfl, by decide +kernel, by decide +kernel⟩
theorem ok_well {f : Addr} {fd : FuncData} (F : Fun K "_law_well" "_law_well" sWell f fd) (hI : mg "int" = none) (hL : mg "len" = none) (hA : mg "abs" = none) : FnOk P w K mg base CX0 1 f fd ["_law_script", "_law_turn"] (spWell K) := by
  refine F.ok scW (fun vs H Q E h => ?_) (fun cdv A outer s H vs Q E hr h => ?_)
  · obtain ⟨a, ns, t, rfl, _⟩ := h
    rfl
  · obtain ⟨a, ns, t, rfl, hS, t0, t1, k⟩ := h
    refine ⟨_, pss_cons (ps_set (i := 2) scW.nd rfl (Or.inl rfl) (pe_ifExp (pt_cmpR op_lt (pv 1) (pe_callB call_len_seq (by rfl) hL PySem.boot_len (pa_cons (pv 0) pa_nil)) (nomark _))
        (pe_callTy call_int1 (by rfl) hI (by decide +kernel) (pa_cons (pe_ix ix_list (pv 0) (pv 1) (fun _ _ => rfl)) pa_nil)) (pe_op op_add (pe_op op_mul pe_int (pv 1)) pe_int)))
      (pss_cons (ps_set (i := 3) scW.nd rfl (Or.inl rfl) (pe_op op_add pe_int (pe_op op_mul pe_int (pv 1))))
      (pss_cons (ps_for PassesOwn.never rfl (pi_list (pe_slice sl_list (pv 0) po_none (po_some pe_int))) (pg_name (i := 4) scW.nd rfl (Or.inl rfl))
        (pss_one (ps_set (i := 3) scW.nd rfl (Or.inl rfl) (pe_op op_mod (pe_callTy call_int1 (by rfl) hI (by decide +kernel) (pa_cons (pe_op op_add (pe_op op_add (pe_op op_mul (pv 3) pe_int)
          (pe_op op_mod (pe_callTy call_int1 (by rfl) hI (by decide +kernel) (pa_cons (pv 4) pa_nil)) pe_int)) (pv 1)) pa_nil)) pe_int))))
      (pss_cons (ps_set (i := 3) scW.nd rfl (Or.inl rfl) (pe_op op_mod (pe_callTy call_int1 (by rfl) hI (by decide +kernel) (pa_cons (pe_op op_add (pe_op op_mul (pv 3) pe_int)
          (pe_op op_mod (pe_callTy call_int1 (by rfl) hI (by decide +kernel) (pa_cons (pv 2) pa_nil)) pe_int)) pa_nil)) pe_int))
      (pss_one (ps_ret (pe_lst (pa_cons (pe_ifExp (pt_cmpR op_ge (pe_callB call_abs (by rfl) hA (by decide +kernel) (pa_cons (pv 2) pa_nil)) (pe_op op_pow pe_int pe_int) (nomark _))
          (pe_callB call_abs (by rfl) hA (by decide +kernel) (pa_cons (pv 2) pa_nil)) pe_int) (pa_cons (pv 3) (pa_cons pe_int pa_nil))))))))), ?_⟩
    refine ⟨_, rfl, _, rfl, a, _, rfl, .inl hS, _, _, rfl, rfl, _, rfl, ?_⟩
    refine ite2 (fun c => ?a1) (fun c => ?a2)
    case' a1 =>
      have c1 : t < ((ns.map V.int).length : Int) := of_decide_eq_true c
      rw [List.length_map] at c1
      obtain ⟨z, hz⟩ : ∃ z, ns[t.toNat]? = some z := ⟨_, List.getElem?_eq_getElem (by omega : t.toNat < ns.length)⟩
      have et : t = ((t.toNat : Nat) : Int) := by omega
      refine ⟨_, rfl, _, rfl, a, _, _, V.int z, rfl, rfl, hS, ?_, .inl ⟨_, rfl, ?_⟩⟩
      · rw [et]
        exact atI_nat (by rw [List.getElem?_map, hz]; rfl)
    case' a2 => refine ⟨_, rfl, _, _, rfl, rfl, .inl ⟨by decide, by decide⟩, _, _, rfl, rfl, ?_⟩
    all_goals
      refine ⟨_, rfl, _, _, rfl, rfl, .inl ⟨by decide, by decide⟩, _, _, rfl, rfl, ?_⟩
      refine ⟨_, rfl, 8, rfl, a, _, rfl, hS, fun q hq => ⟨q, rfl, ⟨_, SqL.of upd_same⟩, ?_⟩⟩
      obtain ⟨ms, hms⟩ := cut_ints ns none (some 8)
      refine for_list (K := K) (a := q) (xs := cutV (ns.map V.int) none (some 8)) (fun i σ H' => ∃ (en st : Int) (v : Option V), σ = [some (.ref a), some (.int t), some (.int en), some (.int st), v] ∧ H' = upd H q (.lst (cutV (ns.map V.int) none (some 8))))
        ⟨_, _, none, rfl, rfl⟩ (fun i σ H' _ ⟨_, _, _, _, e⟩ => by rw [e]; exact SqL.of upd_same) ?_ ?_
      · rintro i y σ H' hi ⟨en, st, v, rfl, rfl⟩
        rw [hms] at hi
        obtain ⟨z, _, rfl⟩ := map_int_get hi
        exact ⟨_, rfl, _, _, rfl, rfl, .inr ⟨by decide, by decide⟩, _, rfl, .inl ⟨_, rfl, _, _, rfl, rfl, (by show (0 : Int) < 999979; decide), _, _, rfl, rfl, _, rfl, _, _, rfl, rfl, .inl ⟨_, rfl, _, _, rfl, rfl,
          (by show (0 : Int) < 2147483647; decide), en, _, _, rfl, rfl⟩⟩⟩
      · rintro σ H' ⟨en, st, v, rfl, rfl⟩
        refine ⟨_, rfl, _, _, rfl, rfl, .inr ⟨by decide, by decide⟩, _, rfl, .inl ⟨_, rfl, _, _, rfl, rfl, (by show (0 : Int) < 999979; decide), _, _, rfl, rfl, .inl ⟨_, rfl, _, _, rfl, rfl, (by show (0 : Int) < 2147483647; decide), ?_⟩⟩⟩
        refine ⟨_, rfl, _, rfl, _, _, rfl, rfl, ⟨by decide, by decide, by decide⟩, _, _, rfl, rfl, _, rfl, ?_⟩
        refine ite2 (fun c => ⟨_, rfl, _, rfl, ?_⟩) (fun c => ?_)
        all_goals
          refine ⟨_, rfl, (by show 3 ≤ sizeLine; decide), fun r hr => ?_⟩
          refine k r _ (fun b o e => ?_) ((same_new hq).free hr) ⟨_, _, _, ?_, Int.emod_nonneg _ (by decide), upd_same⟩
          · exact same_new hr b o (same_new hq b o e)
          · first | exact Int.le_refl 0 | (split <;> omega)
end
end My
namespace L2
open PySem PySem.Spec PyProof.Rows PySem.GX
theorem del_same_of (H : Hp) (p : Addr) : Same (del H p) H := fun b o e => by
  by_cases hb : b = p
  · rw [hb, del_same] at e; cases e
  · rw [del_ne hb] at e
    exact e
/-- the new list D holds new lists with these rows; all that was in H1 stands -/
structure Pr (H1 : Hp) (D : Addr) (H' : Hp) (rs : List (List Str)) : Prop where
  ex : ∃ as : List Addr, Same H1 H' ∧ H' D = some (.lst (as.map V.ref)) ∧ Rw (del H' D) as rs
section
variable {H1 H' H'' : Hp} {D p : Addr} {rs : List (List Str)} {r : List Str}
theorem Pr.zero (hD : H1 D = none) : Pr H1 D (upd H1 D (.lst [])) [] := ⟨[], same_new hD, upd_same, .nil⟩
theorem Pr.keeps (h : Pr H1 D H' rs) : Same H1 H' := let ⟨_, s, _, _⟩ := h.ex; s
theorem Pr.same (h : Pr H1 D H' rs) (s : Same H' H'') : Pr H1 D H'' rs := by
  obtain ⟨as, s1, e, t⟩ := h.ex
  exact ⟨as, s1.trans s, s _ _ e, t.same (same_del s)⟩
theorem Pr.push (h : Pr H1 D H' rs) (hD : H1 D = none) (hp : H' p = none) (hl : rs.length < 16000000) :
    ∃ acc, (upd H' p (.lst (r.map V.str))) D = some (.lst acc) ∧ acc.length < sizeLine ∧ Pr H1 D (upd (upd H' p (.lst (r.map V.str))) D (.lst (acc ++ [.ref p]))) (rs ++ [r]) := by
  obtain ⟨as, s1, e, t⟩ := h.ex
  have ne : D ≠ p := ne_of_none e hp
  refine ⟨as.map V.ref, by rw [upd_ne ne]; exact e, ?_, ⟨as ++ [p], fun b o z => ?_, ?_, ?_⟩⟩
  · rw [List.length_map, t.len, sizeLine_eq]
    omega
  · rw [upd_ne (ne_of_none z hD), upd_ne (ne_of_none (s1 _ _ z) hp)]
    exact s1 _ _ z
  · rw [upd_same, List.map_append]
    rfl
  · rw [del_upd]
    refine Rw.snoc ?_ (t.same (same_del (same_new hp)))
    rw [del_ne ne.symm, upd_same]
theorem Pr.rw_ (h : Pr H1 D H' rs) : ∃ as : List Addr, Same H1 H' ∧ H' D = some (.lst (as.map V.ref)) ∧ Rw H' as rs := by
  obtain ⟨as, s1, e, t⟩ := h.ex
  exact ⟨as, s1, e, t.same (del_same_of _ _)⟩
end
theorem cut_to (ws : List Str) (n : Nat) (hn : n < 2 ^ 62) : cutV (ws.map V.str) none (some (n : Int)) = (ws.take n).map V.str := by
  unfold cutV
  have e0 : HT.sIx (ws.map V.str).length 0 none = 0 := rfl
  have e1 : HT.sIx (ws.map V.str).length (ws.map V.str).length (some (n : Int)) = min n (ws.map V.str).length := by
    unfold HT.sIx
    simp
    omega
  rw [e0, e1, List.drop_zero, Nat.sub_zero, List.map_take]
  apply List.ext_getElem?
  intro i
  simp only [List.getElem?_take]
  by_cases h : i < n
  · by_cases h2 : i < (ws.map V.str).length
    · rw [if_pos h, if_pos (by omega)]
    · rw [if_pos h, if_neg (by omega), List.getElem?_eq_none (by omega)]
  · rw [if_neg h, if_neg (by omega)]
theorem cut_fromV (xs : List V) (n : Nat) (hn : n < 2 ^ 62) : cutV xs (some (n : Int)) none = xs.drop n := by
  unfold cutV
  have e1 : HT.sIx xs.length xs.length none = xs.length := rfl
  have e0 : HT.sIx xs.length 0 (some (n : Int)) = min n xs.length := by
    unfold HT.sIx
    simp
    omega
  rw [e0, e1]
  apply List.ext_getElem?
  intro i
  simp only [List.getElem?_take, List.getElem?_drop]
  by_cases h : i < xs.length - min n xs.length
  · rw [if_pos h]
    congr 1
    omega
  · rw [if_neg h, List.getElem?_eq_none (by omega)]
theorem cut_toV (xs : List V) (n : Nat) (hn : n < 2 ^ 62) : cutV xs none (some (n : Int)) = xs.take n := by
  unfold cutV
  have e0 : HT.sIx xs.length 0 none = 0 := rfl
  have e1 : HT.sIx xs.length xs.length (some (n : Int)) = min n xs.length := by
    unfold HT.sIx
    simp
    omega
  rw [e0, e1, List.drop_zero, Nat.sub_zero]
  apply List.ext_getElem?
  intro i
  simp only [List.getElem?_take]
  by_cases h : i < n
  · by_cases h2 : i < xs.length
    · rw [if_pos h, if_pos (by omega)]
    · rw [if_pos h, if_neg (by omega), List.getElem?_eq_none (by omega)]
  · rw [if_neg h, if_neg (by omega)]
end L2
namespace My
open PySem PySem.Spec PyProof.Rows L2
/-- all but the well stays -/
def Sb (p : Addr) (H H' : Hp) : Prop := ∀ b o, b ≠ p → H b = some o → H' b = some o
theorem Sb.refl (p : Addr) (H : Hp) : Sb p H H := fun _ _ _ h => h
theorem Sb.trans {p : Addr} {H H1 H2 : Hp} (a : Sb p H H1) (b : Sb p H1 H2) : Sb p H H2 := fun c o n h => b c o n (a c o n h)
theorem Sb.of {p : Addr} {H H' : Hp} (s : Same H H') : Sb p H H' := fun b o _ h => s b o h
theorem Sb.upd_ {p : Addr} {H : Hp} {o : HO} : Sb p H (upd H p o) := fun b u n h => by rw [upd_ne n]; exact h
theorem Sb.free {p : Addr} {H H' : Hp} (s : Sb p H H') {q : Addr} (n : q ≠ p) (h : H' q = none) : H q = none := by
  cases e : H q with
  | none => rfl
  | some o => rw [s q o n e] at h; cases h
theorem Wl.same {H H' : Hp} {p : Addr} (w : Wl H p) (s : Same H H') : Wl H' p := by
  obtain ⟨w0, w1, w2, a0, a1, e⟩ := w
  exact ⟨w0, w1, w2, a0, a1, s _ _ e⟩
theorem Wl.new {H : Hp} {p q : Addr} (w : Wl H p) (h : H q = none) : q ≠ p := by
  obtain ⟨w0, w1, w2, a0, a1, e⟩ := w
  exact (ne_of_none e h).symm
theorem Wl.ne {H : Hp} {p q : Addr} {o : HO} (w : Wl H p) (h : H q = some o) (n : ∀ a b c : Int, o ≠ .lst [.int a, .int b, .int c]) : q ≠ p := by
  obtain ⟨w0, w1, w2, a0, a1, e⟩ := w
  exact ne_of h e (n _ _ _)
theorem Wl.neS {H : Hp} {p q : Addr} {ws : List Str} (w : Wl H p) (h : H q = some (.lst (ws.map V.str))) : q ≠ p := w.ne h fun a b c z => by
  cases ws with
  | nil => cases z
  | cons x t => cases z
theorem Wl.upd_ {H : Hp} {p q : Addr} {o : HO} (w : Wl H p) (n : q ≠ p) : Wl (upd H q o) p := by
  obtain ⟨w0, w1, w2, a0, a1, e⟩ := w
  exact ⟨w0, w1, w2, a0, a1, by rw [upd_ne n.symm]; exact e⟩
def spPickL : Sp := fun vs H Q _ => ∃ (p m : Addr) (xs : List V), vs = [.ref p, .ref m] ∧ Wl H p ∧ m ≠ p ∧ H m = some (.lst xs) ∧ 0 < xs.length ∧ xs.length ≤ 1000 ∧
  ∀ (i : Nat) (x : V) (o : HO), xs[i]? = some x → Wl (upd H p o) p → Q x (upd H p o)
/-- rules whose readings speak of a K that is the context's -/
theorem ix_listK {X : Cx} {K : PySem.W.Frag} (h : X.K = K) : IxR X (rIxL K) := by subst h; exact ix_list
theorem sl_listK {X : Cx} {K : PySem.W.Frag} (h : X.K = K) : SlR X (rSlL K) := by subst h; exact sl_list
section
variable {P : Program} {w : World} {K : PySem.W.Frag} {mg : Str → Option Value} {base : Heap}
theorem scPick : FnScope ["_law_well_here", "_law_menu"] ["_law_well_here", "_law_menu"] (defScope sPick) := ⟨rfl, rfl, rfl, by decide +kernel, rfl, by decide +kernel, by decide +kernel⟩
theorem ok_pickL {f : Addr} {fd : FuncData} (F : Fun K "_law_pick" "_law_pick" sPick f fd) (hD : Hv P w K mg base 1 "_law_dip" ["_law_well_here", "_law_size"] spDip) (hL : mg "len" = none) : FnOk P w K mg base CX0 2 f fd ["_law_well_here", "_law_menu"] spPickL := by
  refine F.ok scPick (fun vs H Q E h => ?_) (fun cdv A outer s H vs Q E hr h => ?_)
  · obtain ⟨p, m, xs, rfl, _⟩ := h
    rfl
  · obtain ⟨p, m, xs, rfl, hW, hn, hm, z0, z1, k⟩ := h
    refine ⟨_, pss_one (ps_ret (pe_ix ix_list (pv 1) (pe_cl hD hr rfl pass0 (pa_cons (pv 0) (pa_cons (pe_callB call_len_seq (by rfl) hL PySem.boot_len (pa_cons (pv 1) pa_nil)) pa_nil))) (fun _ _ => rfl))), ?_⟩
    refine ⟨_, rfl, _, rfl, _, rfl, m, _, rfl, .inl (SqL.of hm), p, _, rfl, hW, (by omega), (by omega), fun d o d0 d1 hW' => ?_⟩
    obtain ⟨j, rfl⟩ := Int.eq_ofNat_of_zero_le d0
    have hj : j < xs.length := by omega
    have ei : xs[j]? = some xs[j] := List.getElem?_eq_getElem hj
    exact ⟨m, xs, _, _, rfl, rfl, SqL.of (by rw [upd_ne hn]; exact hm), atI_nat ei, k j _ o ei hW'⟩
end
end My
namespace My
open PySem PySem.Spec PyProof.Rows L2
/-- what the law takes for any values, as data -/
def menu : List PyData := [.none, .bool true, .bool false, .int 0, .int 1, .int (-1), .int 1001, .int (10 ^ 30), .str "", .str "a", .str "last", .str "ends", .str "sets", .str "windows", .str "maa", .str "A", .str "ab>",
  .str "two words", .tuple [], .tuple [.none], .tuple [.str "a"], .list [.str "a"], .list [], .dict [], .dict [(.str "a", .int 1)], .tuple [.str "", .str "a", .str "b", .str ""], .tuple [.tuple []], .tuple [.list []], .str "Last"]
/-- the values of the menu, by where its objects stand -/
def menuV (t0 t1 t2 l2 l3 d0 d1 t3 t5 t6 : Addr) : List V := [.non, .bl true, .bl false, .int 0, .int 1, .int (-1), .int 1001, .int (10 ^ 30), .str "", .str "a", .str "last", .str "ends", .str "sets", .str "windows", .str "maa", .str "A", .str "ab>",
  .str "two words", .ref t0, .ref t1, .ref t2, .ref l2, .ref l3, .ref d0, .ref d1, .ref t3, .ref t5, .ref t6, .str "Last"]
def spOdd (K : PySem.W.Frag) : Sp := fun vs H Q _ => ∃ p : Addr, vs = [.ref p] ∧ Wl H p ∧
  ∀ (v : V) (d : PyData) (H' : Hp), d ∈ menu → Sh K (del H' p) v d → Wl H' p → Same (del H p) (del H' p) → Q v H'
theorem ShAll.get {K : PySem.W.Frag} {H : Hp} : ∀ {xs : List V} {ds : List PyData} {i : Nat} {v : V}, ShAll K H xs ds → xs[i]? = some v → ∃ d, d ∈ ds ∧ Sh K H v d
  | _, _, _, _, .nil, e => by simp at e
  | _, _, 0, _, .cons r _, e => by simp at e; subst e; exact ⟨_, List.mem_cons_self .., r⟩
  | _, _, i + 1, v, .cons _ t, e => by
    obtain ⟨d, h1, h2⟩ := ShAll.get (i := i) (v := v) t (by simpa using e)
    exact ⟨d, List.mem_cons_of_mem _ h1, h2⟩
theorem delk {H : Hp} {p t : Addr} {o u : HO} (e : H t = some u) (h : t ≠ p) : del (upd H p o) p t = some u := by
  rw [del_ne h, upd_ne h]
  exact e
theorem same_del_upd {H : Hp} {p : Addr} {o : HO} : Same (del H p) (del (upd H p o) p) := fun b u e => by
  by_cases hb : b = p
  · rw [hb, del_same] at e; cases e
  · rw [del_ne hb] at e ⊢
    rw [upd_ne hb]; exact e
theorem odd_end {K : PySem.W.Frag} {H Hn : Hp} {Q : VK} {p l6 t0 t1 t2 l2 l3 d0 d1 t3 t4 t5 l4 t6 : Addr} (hs : Same H Hn) (hW : Wl Hn p) (e6 : Hn l6 = some (.lst (menuV t0 t1 t2 l2 l3 d0 d1 t3 t5 t6)))
    (g2 : Hn t0 = some (.tup []))
    (g3 : Hn t1 = some (.tup [.non]))
    (g4 : Hn t2 = some (.tup [.str "a"]))
    (g5 : Hn l2 = some (.lst [.str "a"]))
    (g6 : Hn l3 = some (.lst []))
    (g7 : Hn d0 = some (.dK []))
    (g8 : Hn d1 = some (.dK [(Sum.inr "a", .int 1)]))
    (g9 : Hn t3 = some (.tup [.str "", .str "a", .str "b", .str ""]))
    (g10 : Hn t4 = some (.tup []))
    (g11 : Hn t5 = some (.tup [.ref t4]))
    (g12 : Hn l4 = some (.lst []))
    (g13 : Hn t6 = some (.tup [.ref l4]))
    (k : ∀ (v : V) (d : PyData) (H' : Hp), d ∈ menu → Sh K (del H' p) v d → Wl H' p → Same (del H p) (del H' p) → Q v H') (d : Int) (o : HO) (b0 : 0 ≤ d) (b1 : d < 29) (hW' : Wl (upd Hn p o) p) :
    rIxL K (.ref l6) (.int d) (upd Hn p o) Q := by
  obtain ⟨w0, w1, w2, a0, a1, ep⟩ := hW
  have ne6 : l6 ≠ p := ne_of e6 ep (by intro z; cases z)
  obtain ⟨j, rfl⟩ := Int.eq_ofNat_of_zero_le b0
  have hj : j < 29 := by omega
  have ei : (menuV t0 t1 t2 l2 l3 d0 d1 t3 t5 t6)[j]? = some ((menuV t0 t1 t2 l2 l3 d0 d1 t3 t5 t6)[j]'hj) := List.getElem?_eq_getElem hj
  refine ⟨l6, menuV t0 t1 t2 l2 l3 d0 d1 t3 t5 t6, _, _, rfl, rfl, SqL.of (by rw [upd_ne ne6]; exact e6), atI_nat ei, ?_⟩
  have f2 := delk (p := p) (o := o) g2 (ne_of g2 ep (by intro z; cases z))
  have f3 := delk (p := p) (o := o) g3 (ne_of g3 ep (by intro z; cases z))
  have f4 := delk (p := p) (o := o) g4 (ne_of g4 ep (by intro z; cases z))
  have f5 := delk (p := p) (o := o) g5 (ne_of g5 ep (by intro z; cases z))
  have f6 := delk (p := p) (o := o) g6 (ne_of g6 ep (by intro z; cases z))
  have f7 := delk (p := p) (o := o) g7 (ne_of g7 ep (by intro z; cases z))
  have f8 := delk (p := p) (o := o) g8 (ne_of g8 ep (by intro z; cases z))
  have f9 := delk (p := p) (o := o) g9 (ne_of g9 ep (by intro z; cases z))
  have f10 := delk (p := p) (o := o) g10 (ne_of g10 ep (by intro z; cases z))
  have f11 := delk (p := p) (o := o) g11 (ne_of g11 ep (by intro z; cases z))
  have f12 := delk (p := p) (o := o) g12 (ne_of g12 ep (by intro z; cases z))
  have f13 := delk (p := p) (o := o) g13 (ne_of g13 ep (by intro z; cases z))
  have all : ShAll K (del (upd Hn p o) p) (menuV t0 t1 t2 l2 l3 d0 d1 t3 t5 t6) menu := by
    refine .cons (.fl .non) (.cons (.fl (.bl true)) (.cons (.fl (.bl false)) (.cons (.fl (.int 0)) (.cons (.fl (.int 1)) (.cons (.fl (.int (-1))) (.cons (.fl (.int 1001)) (.cons (.fl (.int (10 ^ 30)))
      (.cons (.fl (.str _)) (.cons (.fl (.str _)) (.cons (.fl (.str _)) (.cons (.fl (.str _)) (.cons (.fl (.str _)) (.cons (.fl (.str _)) (.cons (.fl (.str _)) (.cons (.fl (.str _)) (.cons (.fl (.str _)) (.cons (.fl (.str _)) ?_)))))))))))))))))
    exact .cons (.tup (SqT.of f2) .nil) (.cons (.tup (SqT.of f3) (.cons (.fl .non) .nil)) (.cons (.tup (SqT.of f4) (.cons (.fl (.str _)) .nil)) (.cons (.lst (SqL.of f5) (.cons (.fl (.str _)) .nil)) (.cons (.lst (SqL.of f6) .nil)
      (.cons (.dic f7 .nil .nil) (.cons (.dic f8 (.cons (.str _) .nil) (.cons (.int _) .nil)) (.cons (.tup (SqT.of f9) (.cons (.fl (.str _)) (.cons (.fl (.str _)) (.cons (.fl (.str _)) (.cons (.fl (.str _)) .nil)))))
      (.cons (.tup (SqT.of f11) (.cons (.tup (SqT.of f10) .nil) .nil)) (.cons (.tup (SqT.of f13) (.cons (.lst (SqL.of f12) .nil) .nil)) (.cons (.fl (.str _)) .nil))))))))))
  obtain ⟨dd, m1, m2⟩ := ShAll.get all ei
  exact k _ dd _ m1 m2 hW' (Same.trans (same_del hs) same_del_upd)
section
variable {P : Program} {w : World} {K : PySem.W.Frag} {mg : Str → Option Value} {base : Heap}
theorem scO : FnScope ["_law_well_here", "_law_some"] ["_law_well_here"] (defScope sOdd) :=
  ⟨rfl, rfl, rfl, by decide +kernel, rfl, by decide +kernel, by decide +kernel⟩
theorem ok_odd {f fD : Addr} {fd fdD : FuncData} (F : Fun K "_law_odd" "_law_odd" sOdd f fd) (GD : FnOk P w K mg base CX0 1 fD fdD ["_law_well_here", "_law_size"] spDip) (bD : Binds K fdD ["_law_well_here", "_law_size"] [])
    (gD : mg "_law_dip" = some (.ref fD)) (kD : PySem.W.keepIn K (.ref fD) = true) (hL : mg "len" = none) : FnOk P w K mg base CX0 2 f fd ["_law_well_here"] (spOdd K) := by
  refine F.ok scO (fun vs H Q E h => ?_) (fun cdv A outer s H vs Q E hr h => ?_)
  · obtain ⟨p, rfl, _⟩ := h
    rfl
  · obtain ⟨p, rfl, hW, k⟩ := h
    refine ⟨_, pss_cons (ps_set (i := 1) scO.nd rfl (Or.inl rfl) (pe_lst (pa_cons pe_non (pa_cons pe_bl (pa_cons pe_bl (pa_cons pe_int (pa_cons pe_int (pa_cons (pe_un un_neg pe_int) (pa_cons pe_int (pa_cons (pe_op op_pow pe_int pe_int)
        (pa_cons pe_str (pa_cons pe_str (pa_cons pe_str (pa_cons pe_str (pa_cons pe_str (pa_cons pe_str (pa_cons pe_str (pa_cons pe_str (pa_cons pe_str pa_nil)))))))))))))))))))
      (pss_cons (ps_set (i := 1) scO.nd rfl (Or.inl rfl) (pe_op op_cat (pv 1) (pe_lst (pa_cons pe_str (pa_cons (pe_tup pa_nil) (pa_cons (pe_tup (pa_cons pe_non pa_nil)) (pa_cons (pe_tup (pa_cons pe_str pa_nil)) (pa_cons (pe_lst (pa_cons pe_str pa_nil))
        (pa_cons (pe_lst pa_nil) (pa_cons pe_dnewK (pa_cons (pe_disp (pps_cons pe_str pe_int pps_nil) (by rfl) (by rfl) (fun z => by cases z) (by decide)) (pa_cons (pe_tup (pa_cons pe_str (pa_cons pe_str (pa_cons pe_str (pa_cons pe_str pa_nil)))))
        (pa_cons (pe_tup (pa_cons (pe_tup pa_nil) pa_nil)) (pa_cons (pe_tup (pa_cons (pe_lst pa_nil) pa_nil)) (pa_cons pe_str pa_nil)))))))))))))))
      (pss_one (ps_ret (pe_ix ix_list (pv 1) (pe_call GD hr rfl gD kD bD .nil pass0 (pa_cons (pv 0) (pa_cons (pe_callB call_len_seq (by rfl) hL PySem.boot_len (pa_cons (pv 1) pa_nil)) pa_nil))) (fun _ _ => rfl))))), ?_⟩
    refine ⟨1, rfl, _, _, rfl, rfl, ⟨by decide, by decide, by decide⟩, (by show 17 ≤ sizeLine; decide), fun l1 h1 => ?_⟩
    refine ⟨_, rfl, (by show 0 ≤ sizeLine; decide), fun t0 h2 => ?_⟩
    refine ⟨(by show 1 ≤ sizeLine; decide), fun t1 h3 => ?_⟩
    refine ⟨(by show 1 ≤ sizeLine; decide), fun t2 h4 => ?_⟩
    refine ⟨(by show 1 ≤ sizeLine; decide), fun l2 h5 => ?_⟩
    refine ⟨(by show 0 ≤ sizeLine; decide), fun l3 h6 => ?_⟩
    refine fun d0 h7 => ?_
    refine fun d1 h8 => ?_
    refine ⟨upd_same, [(Sum.inr "a", .int 1)], rfl, by decide, ?_⟩
    rw [upd_upd]
    refine ⟨(by show 4 ≤ sizeLine; decide), fun t3 h9 => ?_⟩
    refine ⟨(by show 0 ≤ sizeLine; decide), fun t4 h10 => ?_⟩
    refine ⟨(by show 1 ≤ sizeLine; decide), fun t5 h11 => ?_⟩
    refine ⟨(by show 0 ≤ sizeLine; decide), fun l4 h12 => ?_⟩
    refine ⟨(by show 1 ≤ sizeLine; decide), fun t6 h13 => ?_⟩
    refine ⟨(by show 12 ≤ sizeLine; decide), fun l5 h14 => ?_⟩
    refine ⟨l1, l5, _, _, rfl, rfl, (keep1 (keep1 (keep1 (keep1 (keep1 (keep1 (keep1 (keep1 (keep1 (keep1 (keep1 (keep1 (keep1 upd_same h2) h3) h4) h5) h6) h7) h8) h9) h10) h11) h12) h13) h14), upd_same, (by show 29 ≤ sizeLine; decide), fun l6 h15 => ?_⟩
    obtain ⟨w0, w1, w2, a0, a1, hp⟩ := hW
    refine ⟨_, rfl, _, rfl, _, rfl, l6, _, rfl, .inl (SqL.of upd_same), p, _, rfl, ⟨w0, w1, w2, a0, a1, (keep1 (keep1 (keep1 (keep1 (keep1 (keep1 (keep1 (keep1 (keep1 (keep1 (keep1 (keep1 (keep1 (keep1 (keep1 hp h1) h2) h3) h4) h5) h6) h7) h8) h9) h10) h11) h12) h13) h14) h15)⟩, (by show (0 : Int) < 29; decide), (by show (29 : Int) < 1073741824; decide), ?_⟩
    exact odd_end (((((((((((((((same_new h1).trans (same_new h2)).trans (same_new h3)).trans (same_new h4)).trans (same_new h5)).trans (same_new h6)).trans (same_new h7)).trans (same_new h8)).trans (same_new h9)).trans (same_new h10)).trans (same_new h11)).trans (same_new h12)).trans (same_new h13)).trans (same_new h14)).trans (same_new h15)) ⟨w0, w1, w2, a0, a1, (keep1 (keep1 (keep1 (keep1 (keep1 (keep1 (keep1 (keep1 (keep1 (keep1 (keep1 (keep1 (keep1 (keep1 (keep1 hp h1) h2) h3) h4) h5) h6) h7) h8) h9) h10) h11) h12) h13) h14) h15)⟩ upd_same
      (keep1 (keep1 (keep1 (keep1 (keep1 (keep1 (keep1 (keep1 (keep1 (keep1 (keep1 (keep1 (keep1 upd_same h3) h4) h5) h6) h7) h8) h9) h10) h11) h12) h13) h14) h15)
      (keep1 (keep1 (keep1 (keep1 (keep1 (keep1 (keep1 (keep1 (keep1 (keep1 (keep1 (keep1 upd_same h4) h5) h6) h7) h8) h9) h10) h11) h12) h13) h14) h15)
      (keep1 (keep1 (keep1 (keep1 (keep1 (keep1 (keep1 (keep1 (keep1 (keep1 (keep1 upd_same h5) h6) h7) h8) h9) h10) h11) h12) h13) h14) h15)
      (keep1 (keep1 (keep1 (keep1 (keep1 (keep1 (keep1 (keep1 (keep1 (keep1 upd_same h6) h7) h8) h9) h10) h11) h12) h13) h14) h15)
      (keep1 (keep1 (keep1 (keep1 (keep1 (keep1 (keep1 (keep1 (keep1 upd_same h7) h8) h9) h10) h11) h12) h13) h14) h15)
      (keep1 (keep1 (keep1 (keep1 (keep1 (keep1 (keep1 (keep1 upd_same h8) h9) h10) h11) h12) h13) h14) h15)
      (keep1 (keep1 (keep1 (keep1 (keep1 (keep1 (keep1 upd_same h9) h10) h11) h12) h13) h14) h15)
      (keep1 (keep1 (keep1 (keep1 (keep1 (keep1 upd_same h10) h11) h12) h13) h14) h15)
      (keep1 (keep1 (keep1 (keep1 (keep1 upd_same h11) h12) h13) h14) h15)
      (keep1 (keep1 (keep1 (keep1 upd_same h12) h13) h14) h15)
      (keep1 (keep1 (keep1 upd_same h13) h14) h15)
      (keep1 (keep1 upd_same h14) h15) k
end
end My
namespace L2
open PySem PySem.Spec PyProof.Rows PySem.GX HotX
/-! lists walked and unpacked while an exception is handled -/
section
variable {prog : Program} {w : World} {A : Around} {Er : Value → Shared → Prop} {s : Shared}
theorem hot_ne {x it l : Addr} {i : Nat} {h : Heap} (hot : HotAt A x h) (hit : h.IsListIter it l i) : x ≠ it := fun z => by
  obtain ⟨_, o, vs, e, d, c⟩ := hot
  obtain ⟨o', e', _, d'⟩ := hit
  rw [z, e'] at e
  cases e
  rw [d'] at d
  cases d
  simp at c
theorem next_end_hot {it l x : Addr} {i : Nat} {items : Array Value} {Q : Option Value → Shared → Prop} (hot : HotAt A x s.heap) (hit : s.heap.IsListIter it l i) (hl : s.heap.IsList l items) (none_ : items[i]? = none)
    (k : ∀ h', Heap.ExtBut it s.heap h' → Q none { s with heap := h' }) : wpAny (model prog w) A (pyNext (.ref it)) Q Er s := by
  have ne := hot_ne hot hit
  obtain ⟨oi, ei, ci, di⟩ := id hit
  obtain ⟨ol, el, _, nl, dl⟩ := hl
  obtain ⟨hh, o1, vs1, h1, d1, c1⟩ := hot
  unfold pyNext
  refine wpAny_bind (wpAny_attempt (wpAny_callSpecial?_slot (name := Str.ofString "__next__") hit.typeIs slot_listiter_next (wpAny_call_entry slot_listiter_next hit.typeIs entry_listiter_next ?_ (args_listiter_next _))))
  show wpAny _ _ (field (.ref it) 0 >>= _) _ _ s
  refine wpAny_bind (wpAny_field ei di (x := .ref l) rfl ?_)
  show wpAny _ _ (if (Value.ref l == Value.none) = true then _ else _) _ _ s
  rw [if_neg (show ¬ ((Value.ref l == Value.none) = true) from Bool.false_ne_true)]
  show wpAny _ _ (field (.ref it) 1 >>= _) _ _ s
  refine wpAny_bind (wpAny_field ei di (x := .int i 0) rfl ?_)
  show wpAny _ _ (seqItems? (.ref l) >>= _) _ _ s
  refine wpAny_bind (wpAny_seqItems el dl ?_)
  simp only [Int.toNat_natCast, none_]
  refine wpAny_bind (wpAny_rule (wpAny_bind (wpAny_setField ei di (by simp) ?_)))
  show wpAny _ _ (newExc (.type "StopIteration") [] >>= _) _ _ _
  refine wpAny_bind ?_
  simp only [newExc, newTuple]
  refine wpAny_bind (wpAny_newObj_type ?_ (by size_fits))
  refine wpAny_bind (m := firstArgMember _ _) (wpAny_of_eq (a := Value.none) (by first | rfl | (simp only [firstArgMember]; rfl)) ?_)
  refine wpAny_newObj_type ?_ (by size_fits)
  have g1 := Heap.get?_push_of_some { cls := .type "tuple", data := .seq ([] : List Value).toArray } ((Heap.get?_update_other s.heap (Obj.mapFields (·.setIfInBounds 0 Value.none)) ne.symm).trans h1)
  refine raiseNew_hot ⟨hh, o1, vs1, Heap.get?_push_of_some _ g1, d1, c1⟩ (Nat.ne_of_lt (Heap.lt_size g1)) (Heap.get?_push_size _ rfl) rfl (by first | (simp; done) | (simp; omega) | (simp only [Array.size_append]; simp; omega)) ?_
  refine wpAny_bind (wpAny_isInstance (T := "StopIteration") (b := true) ⟨_, Heap.get?_update_self _ (Heap.get?_push_size _ rfl) rfl, rfl⟩ isSubtype_stop ?_)
  refine wpAny_pure (k _ fun b o nb e => ?_)
  have g2 := Heap.get?_push_of_some { cls := .type "tuple", data := .seq ([] : List Value).toArray } ((Heap.get?_update_other s.heap (Obj.mapFields (·.setIfInBounds 0 Value.none)) nb.symm).trans e)
  rw [Heap.get?_update_other _ _ (Nat.ne_of_gt (Heap.lt_size g2))]
  exact Heap.get?_push_of_some _ g2
end
end L2
namespace L2
open PySem PySem.Spec PyProof.Rows PySem.GX HotX
/-- the context X handles the exception p, which stands as it is -/
structure Hb (X : Cx) (p : Addr × Obj) : Prop where
  hh : X.A.handled = some (.ref p.1)
  ctx : ∃ vs : Array Value, p.2.data = .fields vs ∧ vs[2]? = some .none
  at_ : ∀ (pins : List (Addr × Obj)) (σ : St) (H : Hp) (s : Shared), Inv X pins σ H s → s.heap.get? p.1 = some p.2 ∧ H p.1 = none
section
variable {X : Cx} {p : Addr × Obj}
theorem Hb.hot (h : Hb X p) {pins : List (Addr × Obj)} {σ : St} {H : Hp} {s : Shared} (I : Inv X pins σ H s) : HotAt X.A p.1 s.heap := by
  obtain ⟨vs, d, c⟩ := h.ctx
  exact ⟨h.hh, p.2, vs, (h.at_ _ _ _ _ I).1, d, c⟩
theorem Hb.of_pn (h1 : X.A.handled = some (.ref p.1)) (h2 : ∃ vs : Array Value, p.2.data = .fields vs ∧ vs[2]? = some .none) (hp : p ∈ X.pn) : Hb X p :=
  ⟨h1, h2, fun pins σ H s I => let z := I.pin p (List.mem_append_left _ hp); ⟨z.1, z.2.1⟩⟩
end
section
variable {prog : Program} {w : World} {A : Around} {Er : Value → Shared → Prop} {s : Shared}
theorem items_hot {x l : Addr} {items : Array Value} {Q : List Value → Shared → Prop} (hot : HotAt A x s.heap) (hl : s.heap.IsList l items) (k : ∀ h', Heap.ExtBut s.heap.objs.size s.heap h' → Q items.toList { s with heap := h' }) :
    wpAny (model prog w) A (unpackItems (.ref l) items.size none) Q Er s := by
  have nl : l ≠ s.heap.objs.size := by
    obtain ⟨o, e, _⟩ := hl
    exact Nat.ne_of_lt (Heap.lt_size e)
  obtain ⟨hh, o1, vs1, h1, d1, c1⟩ := hot
  unfold unpackItems
  refine wpAny_bind ?_
  unfold notIterableAtAll
  refine wpAny_bind (wpAny_specialOf hl.typeIs slot_list_iter.lookup (wpAny_pure ?_))
  simp only [Bool.false_eq_true, if_false]
  refine wpAny_bind (wpAny_holding (wpAny_pyIter_list hl (wpAny_bind (wpAny_holding (PySem.W.kun_draw nl items.size 0 _ _ ⟨_, Heap.get?_push_size _ rfl, rfl, rfl⟩ (hl.push _) (by omega) fun ha ita sa => ?_)))))
  rw [show List.take items.size (List.drop 0 items.toList) = items.toList by rw [List.drop_zero]; exact List.take_of_length_le (by simp), if_neg (by simp)]
  have hot2 : HotAt A x ha := ⟨hh, o1, vs1, sa.extBut x _ (Nat.ne_of_lt (Heap.lt_size h1)) (Heap.get?_push_of_some _ h1), d1, c1⟩
  refine wpAny_bind (wpAny_holding (next_end_hot (s := { s with heap := ha }) hot2 ita ((hl.push _).extBut sa.extBut nl) (by simp) fun hb eb => ?_))
  simp only [Option.isSome_none, Bool.false_eq_true, if_false]
  exact wpAny_pure (k hb fun b o nb e => eb b o nb (sa.extBut b o nb (Heap.get?_push_of_some _ e)))
end
section
variable {X : Cx} {p : Addr × Obj} {pos : Pos}
/-- (a, b, ..) = a list, while p is handled -/
theorem pg_unlE {K : PySem.W.Frag} (eK : X.K = K) {es : List Expr} {k : Nat} {t : TGs} {n : Nat} (hb : Hb X p) (h : PGs X es t) (hn : (assignEach es X.env).length = n := by rfl) (hst : (assignEach es X.env).findIdx? (·.1) = none := by rfl) : PG X (.Tuple es k pos) (gUnl K n t) := by
  subst eK
  refine ⟨fun pl s σ H v u Q I r ⟨a, xs, ev, hq, hl, hw⟩ => ?_⟩
  subst ev
  cases r
  obtain ⟨its, rv, ls, hz⟩ := I.list hq
  obtain ⟨o, m, e, c, d, q⟩ := ls
  have isL : s.heap.IsList a its.toArray := ⟨o, e, c, m, q⟩
  have en : (assignEach es X.env).length = its.toArray.size := hn.trans (hl.symm.trans (rv.length.trans (by simp)))
  rw [PyProof.Rows.assign_Tuple]
  refine wpAny_bind (wpAny_standAt ?_)
  unfold unpack
  rw [en, hst]
  refine wpAny_bind (wpAny_holding (items_hot (hb.hot I) isL fun h' hx => ?_))
  exact h.run pl _ σ H xs _ Q (I.kept (t' := s.toks) fun b o e => hx b o (Nat.ne_of_lt (Heap.lt_size e)) e) (by simpa using rv) hw
end
section
variable {X : Cx} {p : Addr × Obj} {pl : List (Addr × Obj)} {s : Shared} {σ : St} {H : Hp} {Q : VK} {elt tg iter : Expr} {ifs : List Expr} {scope : Scope} {own : List (Str × Nat)} {pos pos' : Pos} {ti : TE} {g : TG} {tt : TT} {te : TE} {use : Option (Value → Sem Unit)} {Qf : Value → Shared → Prop}
/-- [e for target in a list if ..], while p is handled -/
theorem lcE (hp : p ∈ X.pn) (hb : Hb X p) (hN : X.N.Nodup) (I : Inv X pl σ H s) (hi : PE X iter ti) (ok : BlkOk X.N X.env.scope scope own)
    (hg : ∀ (s : Shared) (H : Hp) (C : Addr) (cl : List (Str × Addr)) (fp : List Addr), Hb (X.blk s H scope (compEnvC scope cl C X.env) fp) p → PG (X.blk s H scope (compEnvC scope cl C X.env) fp) tg g)
    (ht : ∀ (s : Shared) (H : Hp) (C : Addr) (cl : List (Str × Addr)) (fp : List Addr), PTs (X.blk s H scope (compEnvC scope cl C X.env) fp) ifs tt)
    (he : ∀ (s : Shared) (H : Hp) (C : Addr) (cl : List (Str × Addr)) (fp : List Addr), PE (X.blk s H scope (compEnvC scope cl C X.env) fp) elt te) (hs : ∀ x, foldedSetIterable iter X.env x = pure x)
    (want : tLc (iList X.K ti) g tt te (own.map (·.2)) σ H Q)
    (fin : ∀ D C s' m H', Inv X pl σ H' s' → Q (.ref D) H' → s'.heap.Ns C m → FpOk X pl H' C → compPost (model X.prog X.w) X.A X.xe use Qf (.ref D) C (.ok .next) s') :
    wpAny (model X.prog X.w) X.A (comprehension (.ListComp elt [⟨tg, iter, ifs, 0⟩] scope pos) scope X.env pos' (newList []) false (eval iter X.env) use) Qf X.xe s := by
  have frees : ∀ y ∈ scope.names, y.2 = .free → ∃ c, X.env.cells.lookup y.1 = some c := fun y hy e => by
    rcases ok.free y hy e with k | k
    · exact I.ok.has _ (.inl k)
    · exact I.ok.has _ (.inr k)
  refine wpAny_comprehension_free (use := use) rfl hs (closure_ok frees) ok.kind (fun y hy e => by rw [ok.uniq y hy, e]) (thn (hi.run pl s σ H _ I want) fun _ sa ⟨va, Ha, Ia, ra, a, ea, ⟨xs, hq⟩, wishes⟩ => ?_)
  subst ea
  cases ra
  obtain ⟨its, rv, ls, hz⟩ := Ia.list hq
  refine wpAny_pyIter_list ls.isList (wpAny_newObj_type (newEnv_comp ?_) (by show 0 ≤ sizeLine; decide))
  generalize eit : sa.heap.objs.size = it
  generalize esb : ({ sa with heap := sa.heap.push { cls := .type "list_iterator", data := .fields #[.ref a, .int 0 0] } } : Shared) = sb
  have hsb : sb.heap = sa.heap.push { cls := .type "list_iterator", data := .fields #[.ref a, .int 0 0] } := by rw [← esb]
  have Ib : Inv X pl σ Ha sb := by
    rw [← esb]
    exact Ia.kept (t' := sa.toks) fun b o e => Heap.get?_push_of_some _ e
  have itb : sb.heap.IsListIter it a 0 := by
    rw [hsb, ← eit]
    exact ⟨_, Heap.get?_push_size _ rfl, rfl, rfl⟩
  have okit : FpOk X pl Ha it := Ia.fpOk (Nat.le_of_eq eit) (Ia.hok.fresh (Nat.le_of_eq eit))
  generalize eD : sb.heap.objs.size = D
  have freeD : Ha D = none := Ib.hok.fresh (Nat.le_of_eq eD)
  obtain ⟨W, ⟨m0, begins⟩, turn⟩ := wishes D freeD
  generalize esc : ({ sb with heap := sb.heap.push { cls := .type "list", data := .seq ([] : List Value).toArray } } : Shared) = sc
  have hsc : sc.heap = sb.heap.push { cls := .type "list", data := .seq ([] : List Value).toArray } := by rw [← esc]
  have Ic : Inv X pl σ (upd Ha D (.lst [])) sc := by
    rw [← esc]
    refine Ib.laid (t' := sb.toks) (fun b o e => Heap.get?_push_of_some _ e) (Nat.le_of_eq eD) ⟨Nat.zero_le _, [], 0, .nil, ?_⟩
    rw [← eD]
    exact Heap.get?_push_size _ rfl
  have itlt : it < sb.heap.objs.size := by
    obtain ⟨o, e, _⟩ := itb
    exact Heap.lt_size e
  have okc : ∀ b ∈ [it], FpOk X pl (upd Ha D (.lst [])) b ∧ b < sc.heap.objs.size := fun b hb => by
    obtain rfl : b = it := by simpa using hb
    refine ⟨⟨?_, okit.2⟩, ?_⟩
    · rw [upd_ne (by rw [← eD]; exact Nat.ne_of_lt itlt)]
      exact okit.1
    · rw [hsc, Heap.size_push]
      exact Nat.lt_succ_of_lt itlt
  have itc : sc.heap.IsListIter it a 0 := itb.at fun o e => by
    rw [hsc]
    exact Heap.get?_push_of_some _ e
  have Id := block_start Ic ok hN okc
  have pc := hb.at_ _ _ _ _ Ic
  have pz := Ic.pin p (List.mem_append_left _ hp)
  have nit : p.1 ≠ it := okit.2.2.2.2.2 p (List.mem_append_left _ hp)
  -- the block bears the handled exception
  have hbb : Hb (X.blk sc (upd Ha D (.lst [])) scope (compEnvC scope (cellsFrom (sc.heap.objs.size + 1) scope.names (cloFrom X.env.cells scope.names [])) sc.heap.objs.size X.env) [it]) p := by
    refine ⟨hb.hh, hb.ctx, fun pins' σ' H' s' I' => ?_⟩
    have nfs : p.1 ∉ frs X.stack := fun m => by
      rcases Ic.ok.stk with z | ⟨z, zf⟩
      · rw [z] at m
        exact pz.2.2.2.1 m
      · rw [z] at m
        unfold frs at m
        rw [List.filterMap_cons, zf] at m
        rcases List.mem_cons.mp m with m | m
        · exact pz.2.2.1 m
        · exact pz.2.2.2.1 m
    have nex : p.1 ∉ [it] := fun z => nit (by simpa using z)
    exact ⟨I'.base.keep p.1 p.2 pc.1 pc.2 nfs nex, I'.base.free p.1 p.2 pc.1 pc.2 nex⟩
  have g1 := hg sc (upd Ha D (.lst [])) sc.heap.objs.size (cellsFrom (sc.heap.objs.size + 1) scope.names (cloFrom X.env.cells scope.names [])) [it] hbb
  have g2 := ht sc (upd Ha D (.lst [])) sc.heap.objs.size (cellsFrom (sc.heap.objs.size + 1) scope.names (cloFrom X.env.cells scope.names [])) [it]
  have g3 := he sc (upd Ha D (.lst [])) sc.heap.objs.size (cellsFrom (sc.heap.objs.size + 1) scope.names (cloFrom X.env.cells scope.names [])) [it]
  show codeAny _ _ (.compStart (.ListComp elt [⟨tg, iter, ifs, 0⟩] scope pos) 0 (.ref it) (.ref D) (compEnvC scope (cellsFrom (sc.heap.objs.size + 1) scope.names (cloFrom X.env.cells scope.names [])) sc.heap.objs.size X.env)) _
    { sc with heap := pushCells (sc.heap.push { cls := .type "dict", data := .dict #[] }) scope.names }
  have hid : (upd Ha D (.lst [])) it = none := (okc it (by simp)).1.1
  generalize eenv : compEnvC scope (cellsFrom (sc.heap.objs.size + 1) scope.names (cloFrom X.env.cells scope.names [])) sc.heap.objs.size X.env = env at Id g1 g2 g3 hbb ⊢
  have eloc : env.locals = sc.heap.objs.size := by subst eenv; rfl
  generalize eHc : upd Ha D (.lst []) = Hc at Ic Id g1 g2 g3 begins hid okc hbb
  generalize esd : ({ sc with heap := pushCells (sc.heap.push { cls := .type "dict", data := .dict #[] }) scope.names } : Shared) = sd at Id ⊢
  have itd : sd.heap.IsListIter it a 0 := itc.at fun o e => by
    rw [← esd]
    exact pushCells_keeps _ _ _ _ (Heap.get?_push_of_some _ e)
  have fpOk : ∀ {σ' : St} {H' : Hp} {s' : Shared}, Inv (X.blk sc Hc scope env [it]) [] σ' H' s' → H' it = none → FpOk (X.blk sc Hc scope env [it]) [] H' it := fun {σ' H' s'} I' free => by
    refine ⟨free, (I'.ok.exf it (by simp)).1, I'.ok.exfs it (by simp), .inl (by simp), fun x c e => (I'.ok.exf it (by simp)).2 x c e, fun q hq => ?_⟩
    exact absurd (show q ∈ ([] : List (Addr × Obj)) ++ [] from hq) (by simp)
  have lp : codeAny (model X.prog X.w) X.A (.compLoop (.ListComp elt [⟨tg, iter, ifs, 0⟩] scope pos) 0 (.ref it) (.ref D) env) (compPost (model X.prog X.w) X.A X.xe use Qf (.ref D) sc.heap.objs.size) sd := by
    refine compLoop_any (fun n s' => ∃ i H', Inv (X.blk sc Hc scope env [it]) [] (wipe σ (own.map (·.2))) H' s' ∧ s'.heap.IsListIter it a i ∧ H' it = none ∧ W i n H') ?_ m0 ⟨0, Hc, Id, itd, hid, begins⟩
    rintro n se ⟨i, He, Ie, ie, free, at_⟩
    obtain ⟨f0, f1, f2, f3, f4, f5⟩ := fpOk Ie free
    rcases turn i n He at_ with ⟨⟨ys, hy, hle⟩, wish⟩ | ⟨⟨ys, x0, hy, hx0⟩, On, next, step⟩
    · obtain ⟨jts, rj, lj, hj⟩ := Ie.list hy
      have hlen := rj.length
      refine next_end_hot (hbb.hot Ie) ie lj.isList (by simp; omega) fun h' eb => ?_
      have If : Inv (X.blk sc Hc scope env [it]) [] (wipe σ (own.map (·.2))) He { se with heap := h' } := Ie.turned (t' := se.toks) (fun b o hb e => eb b o hb e) f0 f1 f3 f4 f5
      have back : Inv X pl σ He { se with heap := h' } := Ic.call' (ch := [it]) If.os If.base If.hok If.bare fun b hb => ⟨(okc b hb).1.2.2.2.1, (okc b hb).1.2.1, (okc b hb).1.2.2.2.2.1, (okc b hb).1.2.2.2.2.2⟩
      have noC : He sc.heap.objs.size = none := by
        have z : He env.locals = none := If.free
        rw [eloc] at z
        exact z
      obtain ⟨m, hn, _⟩ := If.loc
      have hn' : h'.Ns env.locals m := hn
      rw [eloc] at hn'
      exact fin D sc.heap.objs.size _ m He back wish hn' (Ic.fpOk (Nat.le_refl _) noC)
    · obtain ⟨jts, rj, lj, hj⟩ := Ie.list hy
      obtain ⟨u, hu, ru⟩ := rj.get hx0
      refine wpAny_pyNext_list_item ie lj.isList (x := u) (by simpa using hu) fun h' ie' sb' => ?_
      have Ig : Inv (X.blk sc Hc scope env [it]) [] (wipe σ (own.map (·.2))) He { se with heap := h' } := Ie.turned (t' := se.toks) (fun b o hb e => (sb'.2 b hb).trans e) f0 f1 f3 f4 f5
      obtain ⟨oi, ei, ci, di⟩ := id ie'
      refine go_of (s := { se with heap := h' }) ei ci di (by decide) ?_
      have pinned := Ig.pinned (fp := [it]) (fun b hb => by
        obtain rfl : b = it := by simpa using hb
        exact fpOk Ig free) (fun b hb => by
        obtain rfl : b = it := by simpa using hb
        exact ⟨oi, ei, fun v z => by rw [di] at z; cases z⟩)
      refine thnF (g1.run _ { se with heap := h' } _ He x0 u _ pinned ru (step x0 He ⟨rfl, fun zs hz => by rw [Ie.list_inj hz hy]; exact hx0⟩)) fun _ sh ⟨σh, Hh, Ih, wh, qh⟩ => ?_
      refine thnF (g2.run _ sh σh Hh _ Ih qh) fun b si ⟨Hi, Ii, qi⟩ => ?_
      have ends : ∀ {s' : Shared} {H' : Hp}, Inv (X.blk sc Hc scope env [it]) ([] ++ pinsAt [it] h') σh H' s' → On H' →
          ∃ m, m < n ∧ ∃ i H', Inv (X.blk sc Hc scope env [it]) [] (wipe σ (own.map (·.2))) H' s' ∧ s'.heap.IsListIter it a i ∧ H' it = none ∧ W i m H' := fun {s' H'} I' on => by
        obtain ⟨m', lt, at'⟩ := next H' on
        have z := I'.pin (it, oi) (List.mem_append_right _ (List.mem_append_right _ (mem_pinsAt (by simp) ei)))
        have len : (wipe σ (own.map (·.2))).length = σh.length := by
          rw [← wh, wipe_length]
        refine ⟨m', lt, i + 1, H', (I'.unpinned (pins := [])).weak len (fun j y e => ?_), ⟨oi, z.1, ci, di⟩, z.2.1, at'⟩
        rw [← wh] at e
        exact (wipe_some e).1
      cases b with
      | false =>
        simp only [Bool.false_eq_true, if_false] at qi ⊢
        exact ends Ii qi
      | true =>
        simp only [if_true] at qi ⊢
        refine thnF (g3.run _ si σh Hi _ Ii qi) fun _ sj ⟨yv, Hj, Ij, rj', acc, eDj, few, on⟩ => ?_
        exact app_ok (X := X.blk sc Hc scope env [it]) Ij eDj few rj' fun _ Il => ends Il on
  exact codeAny_compStart_list lp (wpAny_pyIter_listiter itd lp)
/-- name = [..] on one line, while p is handled -/
theorem ps_setLcE {i : Nat} {y : Str} {py spos : Pos} (hp : p ∈ X.pn) (hb : Hb X p) (hN : X.N.Nodup) (hy : X.N[i]? = some y) (hyl : X.env.scope.names.lookup y = some .local) (hsw : swapsWith (.ListComp elt [⟨tg, iter, ifs, 0⟩] scope pos) (some (.Name y py)) spos.line X.env = pure true)
    (hi : PE X iter ti) (ok : BlkOk X.N X.env.scope scope own)
    (hg : ∀ (s : Shared) (H : Hp) (C : Addr) (cl : List (Str × Addr)) (fp : List Addr), Hb (X.blk s H scope (compEnvC scope cl C X.env) fp) p → PG (X.blk s H scope (compEnvC scope cl C X.env) fp) tg g)
    (ht : ∀ (s : Shared) (H : Hp) (C : Addr) (cl : List (Str × Addr)) (fp : List Addr), PTs (X.blk s H scope (compEnvC scope cl C X.env) fp) ifs tt)
    (he : ∀ (s : Shared) (H : Hp) (C : Addr) (cl : List (Str × Addr)) (fp : List Addr), PE (X.blk s H scope (compEnvC scope cl C X.env) fp) elt te) (hs : ∀ x, foldedSetIterable iter X.env x = pure x := by intro _; rfl) :
    PS X (.Assign [.Name y py] (.ListComp elt [⟨tg, iter, ifs, 0⟩] scope pos) spos) (tAsg (tLc (iList X.K ti) g tt te (own.map (·.2))) (gName i)) := by
  refine ⟨fun pl s σ H D I want => ?_⟩
  rw [exec_Assign_Name_used _ _ _ _ hsw]
  refine wpAny_bind (wpAny_standAt (wpAny_bind (wpAny_bind (thn (lcE (Qf := fun _ s' => SP X pl D .next s') hp hb hN I hi ok hg ht he hs (show tLc (iList X.K ti) g tt te (own.map (·.2)) σ H (fun x H1 => gName i x σ H1 D.nx) from want) fun L C s' m H' I' q hn f => ?_) fun _ s' hq => wpAny_pure (wpAny_pure hq)))))
  obtain ⟨f0, f1, f2, f3, f4, f5⟩ := f
  refine wpAny_assign_Name (store_ok2 (v := V.ref L) I' hN hy (.inl hyl) rfl (fun sx Ix ⟨a, sb, ha⟩ => ⟨m, hn.sameBut sb ?_, fun hx sbx => ⟨_, H', Ix.turned (t' := sx.toks) (fun b o hb e => (sbx.2 b hb).trans e) f0 f1 f3 f4 f5, q⟩⟩) (.inr hyl))
  rcases ha with z | z
  · rw [z]
    exact f1
  · exact fun e => f4 y a z e.symm
end
end L2
namespace L2
open PySem PySem.Spec PyProof.Rows PySem.GX HotX L2H
/-- what a def promises where p is handled: sp may speak of p -/
structure FnE (p : Addr × Obj) (P : Program) (w : World) (K : PySem.W.Frag) (mg : Str → Option Value) (base : Heap) (k : Nat) (f : Addr) (fd : FuncData) (ps : List Str) (sp : Sp) : Prop where
  len : ∀ vs H Q E, sp vs H Q E → vs.length = ps.length
  run : ∀ (A : Around) (outer : List Env) (s : Shared) (H : Hp) (args : Args) (us : List Value) (vs : List V) (Q : VK) (E : XK), RoomH k A → Hot1 A p → PinOk outer H s p → Env0 P w K mg base A outer s H → BindsTo s fd args (ps.zip us) → Vals vs us → sp vs H Q E →
    codeAny (model P w) A (.call (.ref f) args) (CR CX0 outer P w H s Q E) s
section
variable {P : Program} {w : World} {K : PySem.W.Frag} {mg : Str → Option Value} {base : Heap} {p : Addr × Obj}
theorem Fun.okE {x qual : Str} {st : Stmt} {f : Addr} {fd : FuncData} {N ps : List Str} {k : Nat} {sp : Sp} (F : Fun K x qual st f fd) (S : FnScope N ps (defScope st)) (len : ∀ vs H Q E, sp vs H Q E → vs.length = ps.length)
    (hbody : ∀ (cdv : Value) (A : Around) (outer : List Env) (s : Shared) (H : Hp) (vs : List V) (Q : VK) (E : XK), Hot1 A p → RoomH k (A.deeper (envOfC qual (defScope st) s.heap.objs.size f cdv)) → sp vs H Q E →
      ∃ t, PSs (cxH CX0 P w K mg base N qual (defScope st) f cdv A outer s H E p) (defBody st) t ∧ t { nx := fun _ H' => Q .non H', rt := Q } (start N vs) H) : FnE p P w K mg base (k + 1) f fd ps sp := by
  obtain ⟨oc, od, kV, doc, pm, an, cdv, ct, osl, rfl, lk, hcd⟩ := F.ex
  refine ⟨len, fun A outer s H args us vs Q E hr hot hpin e0 hb r want => ?_⟩
  have kin : K.In s.heap := e0.mod.kin.keeps fun b o e => (e0.bs b o e).1
  have kinds : ∀ y ∈ ps.zip us, (defScope st).names.lookup y.1 = some .local ∨ ((defScope st).names.lookup y.1 = some .cell ∧ ((cellsFrom (s.heap.objs.size + 1) (defScope st).names []).lookup y.1).isSome = true) := fun ⟨n, v⟩ hy => by
    rcases S.par n (List.of_mem_zip hy).1 with q | q
    · exact .inl q
    · exact .inr ⟨q, PySem.W.cellsFrom_some _ _ _ (.inl q)⟩
  refine codeAny_call_function hr.depth (kin _ _ lk) rfl S.co S.gen rfl (PySem.W.codeRec_of kin hcd) (hb _ _ _ _ (wpAny_newFunctionEnv_cells S.kind kinds fun env he s1 x => ?_))
  subst he
  refine ⟨(e0.mod.nolimit.keeps fun b o e => (e0.bs b o e).1).keeps x.toInCall.keep, codeAny_func ?_⟩
  obtain ⟨t, ht, hq⟩ := hbody cdv A outer s H vs Q E hot (hr.deeper _) want
  refine wpAny_mono (ht.run [] s1 (start N vs) H _ (inv_startH S hpin e0 (len _ _ _ _ want) r x) hq) (fun fl s' hs => ?_) fun e s' hs => hs
  cases fl with
  | ret u =>
    obtain ⟨v, σ', H', J, rv, q⟩ := hs
    exact ⟨v, H', J.os, J.bare, J.base, J.hok, rv, q⟩
  | next =>
    obtain ⟨σ', H', J, q⟩ := hs
    exact ⟨V.non, H', J.os, J.bare, J.base, J.hok, rfl, q⟩
  | brk =>
    obtain ⟨_, _, _, q⟩ := hs
    exact False.elim q
  | cont =>
    obtain ⟨_, _, _, q⟩ := hs
    exact False.elim q
end
def tCallE (sp : Sp) (t : TA) : TE := fun σ H Q => t σ H fun vs H1 => sp vs H1 Q fun _ _ _ => False
section
variable {X : Cx} {p : Addr × Obj} {k : Nat} {f : Addr} {fd : FuncData} {ps : List Str} {sp : Sp} {x : Str} {pp pos : Pos} {e : Expr} {es : List Expr} {t : TA}
theorem pe_callE (F : FnE p X.prog X.w X.K X.mg X.base k f fd ps sp) (hr : RoomH k X.A) (hot : Hot1 X.A p) (hp : p ∈ X.pn) (hg : Gl X x) (hm : X.mg x = some (.ref f)) (hk : PySem.W.keepIn X.K (.ref f) = true) (hb : Binds X.K fd ps [])
    (ha : PA X (e :: es) t) (hdb : (x == ("__debug__" : Str)) = false := by decide) (he : starEach (e :: es) X.env = (false, eval e X.env) :: starEach es X.env := by rfl) (hpl : (backTo pos (starEach es X.env)).any (·.1) = false := by rfl) :
    PE X (.Call (.Name x pp) (e :: es) [] pos) (tCallE sp t) := by
  refine ⟨fun pl s σ H Q I want => wpAny_Call_Name_kw (ld_glob I hg hm (PySem.W.callWith_K (h₀ := X.base) I.ok.mod.kin hk (thn (ha.run pos pl s σ H _ I want) fun us s1 ⟨vs, H1, I1, r, q⟩ => ⟨I1.kIn, ?_⟩) he hpl) hdb)⟩
  have hl : us.length = ps.length := by
    rw [← r.length]
    exact F.len _ _ _ _ q
  have b := hb s1 us I1.kIn (by rw [List.append_nil]; exact hl)
  rw [List.append_nil] at b
  have z := I1.pin p (List.mem_append_left _ hp)
  have pin : PinOk X.stack H1 s1 p := ⟨z.1, z.2.1, fun m => (List.mem_cons.mp (I1.stkSub p.1 m)).elim z.2.2.1 z.2.2.2.1, z.2.2.2.2⟩
  refine wpAny_call (codeAny_mono (F.run X.A X.stack s1 H1 ⟨us, []⟩ us vs Q _ hr hot pin I1.env0 b r q) fun r s' hq => ?_)
  cases r with
  | error e => exact False.elim hq
  | ok fl =>
    cases fl with
    | ret u => exact I1.after hq
    | next => exact False.elim hq
    | brk => exact False.elim hq
    | cont => exact False.elim hq
end
end L2
namespace L2
open PySem PySem.Spec PyProof.Rows PySem.GX HotX L2H
/-- p is an exception of the class at C, its dict at d -/
structure PIs (p : Addr × Obj) (C d : Addr) : Prop where
  cl : p.2.cls = .ref C
  di : p.2.dict = some d
section
variable {X : Cx} {p : Addr × Obj} {C d : Addr} {pins : List (Addr × Obj)} {σ : St} {H : Hp} {s : Shared} {fs : List (Str × V)}
theorem inst_p (hb : Hb X p) (hp : PIs p C d) (I : Inv X pins σ H s) (hd : H d = some (exd d fs)) : ∃ o : Obj, PySem.W.InstAt s.heap p.1 p.2 C (some o) := by
  obtain ⟨mA, ⟨o, es, ep, h1, h2⟩, _⟩ := exd_at I.hok hd
  obtain ⟨vs, dv, _⟩ := hb.ctx
  refine ⟨o, ⟨(hb.at_ _ _ _ _ I).1, hp.cl, ?_, ?_⟩⟩
  · unfold PySem.W.notCls
    rw [dv]
  · rw [hp.di]
    exact h1
end
/-- isinstance(e, c), e the exception p that is handled -/
def rIsP (p : Addr × Obj) (C d : Addr) (K : PySem.W.Frag) : List V → Hp → VK → Prop := fun xs H Q => ∃ (c : V) (u : Value) (b : Bool) (fs : List (Str × V)), xs = [.ref p.1, c] ∧ H d = some (exd d fs) ∧ ClsV c u ∧ PySem.W.kitOne K (.ref C) u = some b ∧ Q (.bl b) H
theorem call_isP {X : Cx} {p : Addr × Obj} {C d : Addr} (hb : Hb X p) (hp : PIs p C d) (T : ExcC X.K C) : CallR X (.builtin "isinstance") (rIsP p C d X.K) := by
  intro pl s σ H xs us Q I r ⟨c, u, b, fs, ex, hd, k, ek, q⟩
  subst ex
  obtain ⟨u1, u2, rfl, r1, r2⟩ := vals2 r
  have z := k.eq r2
  subst z
  obtain rfl : u1 = Value.ref p.1 := r1
  obtain ⟨o, J⟩ := inst_p hb hp I hd
  exact PySem.W.kia_one (kitG T) I.kIn J ek (fun z => nomatch z) fun tk => ⟨.bl b, H, I.tok tk, rfl, q⟩
/-- e.f, e the exception p that is handled -/
def tXfP (p : Addr × Obj) (C d : Addr) (K : PySem.W.Frag) (f : Str) (te : TE) : TE := fun σ H Q => te σ H fun x H1 => ∃ (fs : List (Str × V)) (v : V), x = .ref p.1 ∧ H1 d = some (exd d fs) ∧ PySem.W.findIn K (.ref C) f = some none ∧ fs.lookup f = some v ∧ Q v H1
theorem pe_xfP {X : Cx} {p : Addr × Obj} {C d : Addr} {e : Expr} {te : TE} {f : Str} {pos : Pos} (hb : Hb X p) (hp : PIs p C d) (T : ExcC X.K C) (he : PE X e te) (ha : attributeBase e f X.env (eval e X.env) = eval e X.env := by rfl) : PE X (.Attribute e f pos) (tXfP p C d X.K f te) := by
  refine ⟨fun pl s σ H Q I want => attr_of ha (thn (he.run pl s σ H _ I want) fun u s1 ⟨x, H1, I1, rx, fs, v, ex, hd, no, l, q⟩ => ?_)⟩
  subst ex
  obtain rfl : u = Value.ref p.1 := rx
  obtain ⟨mA, hns, rel⟩ := exd_at I1.hok hd
  obtain ⟨od, hod, hl⟩ := lookIn_ns hns
  obtain ⟨u, hu, ru⟩ := RelO.some_of (v := v) (o := mA f) (by rw [← l]; exact rel f)
  obtain ⟨vs, dv, _⟩ := hb.ctx
  have J : PySem.W.InstAt s1.heap p.1 p.2 C (some od) := ⟨(hb.at_ _ _ _ _ I1).1, hp.cl, by unfold PySem.W.notCls; rw [dv], by rw [hp.di]; exact hod⟩
  exact HandSPX.exc_get I1.kIn J T.hg T.hk T.hs (PySem.W.findObj_own T.hd no rfl (by rw [hl, hu])) (handed_of ru) ⟨v, H1, I1.tok _, ru, q⟩
end L2
namespace L2
open PySem PySem.Spec PyProof.Rows PySem.GX HotX L2H
theorem PE_imp {X : Cx} {e : Expr} {t t' : TE} (h : PE X e t) (m : ∀ σ H Q, t' σ H Q → t σ H Q) : PE X e t' := ⟨fun pins s σ H Q I q => h.run pins s σ H Q I (m σ H Q q)⟩
/-- __init__ with one field -/
def spI1 (C : Addr) (f : Str) : Sp := fun vs H Q _ => ∃ (a : Addr) (v : V), vs = [.ref a, v] ∧ H a = some (exo a C none) ∧
  ∀ d, H d = none → d ≠ a → Q .non (upd (upd H d (exd d [(f, v)])) a (exo a C (some d)))
/-- the class x at C, whose __init__ keeps its one argument as f -/
structure Mk1 (P : Program) (w : World) (K : PySem.W.Frag) (mg : Str → Option Value) (base : Heap) (x : Str) (C : Addr) (f : Str) : Prop where
  ex : ExG K C
  gC : mg x = some (.ref C)
  ini : ∃ (fI : Addr) (fd : FuncData), PySem.W.findIn K (.ref C) "__init__" = some (some (.ref fI)) ∧ PySem.W.typeIn K (.ref fI) = some (.type "function") ∧ FnOk P w K mg base CX0 1 fI fd ["self", f] (spI1 C f) ∧
    KBn K fd ["self", f] 2 [] (fun us _ => us) (fun vs _ => vs) ∧ KBn K fd ["self", f] 1 [f] (fun us ws => us ++ ws) (fun vs zs => vs ++ zs)
def tMk1 (C : Addr) (f : Str) (ta : TA) : TE := fun σ H Q => ta σ H fun vs H1 => ∃ v, vs = [v] ∧ ∀ (a d : Addr) (H2 : Hp), H1 a = none → d ≠ a → Same H1 H2 → ExAt H2 a C d [(f, v)] → Q (.ref a) H2
/-- the heap behind the making -/
theorem mk1_heap {H : Hp} {a d C : Addr} {f : Str} {v : V} (ha : H a = none) (hd : upd H a (exo a C none) d = none) (ne : d ≠ a) :
    Same H (upd (upd (upd H a (exo a C none)) d (exd d [(f, v)])) a (exo a C (some d))) ∧ ExAt (upd (upd (upd H a (exo a C none)) d (exd d [(f, v)])) a (exo a C (some d))) a C d [(f, v)] := by
  refine ⟨fun b o e => ?_, upd_same, by rw [upd_ne ne, upd_same]⟩
  have hd' : H d = none := by rw [upd_ne ne] at hd; exact hd
  rw [upd_ne (ne_of_none e ha), upd_ne (ne_of_none e hd'), upd_ne (ne_of_none e ha)]
  exact e
section
variable {X : Cx} {x f g : Str} {C : Addr} {e : Expr} {es : List Expr} {kws : List Keyword} {ta tk : TA} {p pos : Pos}
theorem pe_mk1 (M : Mk1 X.prog X.w X.K X.mg X.base x C f) (hr : Room 2 X.A) (hg : Gl X x) (ha : PA X (e :: es) ta)
    (hdb : (x == ("__debug__" : Str)) = false := by decide) (he : starEach (e :: es) X.env = (false, eval e X.env) :: starEach es X.env := by rfl) (hpl : (backTo pos (starEach es X.env)).any (·.1) = false := by rfl) :
    PE X (.Call (.Name x p) (e :: es) [] pos) (tMk1 C f ta) := by
  obtain ⟨fI, fd, iC, tI, F1, kb, _⟩ := M.ini
  refine ⟨fun pins s σ H Q I h => wpAny_Call_Name_kw (ld_glob I hg M.gC ?_ hdb)⟩
  refine PySem.W.callWith_K (h₀ := X.base) I.ok.mod.kin M.ex.kC (thn (ha.run pos pins s σ H _ I h) fun us s1 ⟨vs, H1, I1, r, v, ev, q⟩ => ⟨I1.kIn, ?_⟩) he hpl
  subst ev
  refine run_mkG (n := 1) (ks := []) (ws := []) (zs := []) M.ex iC tI F1 hr kb pass0 I1 r .nil rfl rfl (by show 1 ≤ 1000; decide) fun a na => ⟨a, v, rfl, upd_same, fun d nd ne => ⟨rfl, ?_⟩⟩
  obtain ⟨z1, z2⟩ := mk1_heap (f := f) (v := v) na nd ne
  exact q a d _ na ne z1 z2
theorem pe_mk1K (M : Mk1 X.prog X.w X.K X.mg X.base x C f) (hr : Room 2 X.A) (hg : Gl X x) (hkw : PK X kws tk)
    (hall : (backToKw pos (keywordEach kws X.env)).all (·.1.isSome) = true := by rfl) (hks : (backToKw pos (keywordEach kws X.env)).filterMap (·.1) = [f] := by rfl) (hdb : (x == ("__debug__" : Str)) = false := by decide)
    (hpl : ((backTo pos (starEach [] X.env)).any (·.1) || (backToKw pos (keywordEach kws X.env)).any (·.1.isNone)) = false := by rfl) :
    PE X (.Call (.Name x p) [] kws pos) (tMk1 C f tk) := by
  obtain ⟨fI, fd, iC, tI, F1, _, kb⟩ := M.ini
  refine ⟨fun pins s σ H Q I h => wpAny_Call_Name_kw (ld_glob I hg M.gC ?_ hdb)⟩
  refine PySem.W.callWith_KW0 (h₀ := X.base) I.ok.mod.kin M.ex.kC hall ?_ hpl
  refine thn (hkw.run pos pins s σ H _ I h) fun ws s2 ⟨zs, H1, I1, rz, v, ev, q⟩ => ⟨I1.kIn, ?_⟩
  subst ev
  rw [hks]
  refine run_mkG (n := 0) (ks := [f]) (us := []) (vs := []) M.ex iC tI F1 hr kb pass0 I1 .nil rz rfl rfl (by decide) fun a na => ⟨a, v, rfl, upd_same, fun d nd ne => ⟨rfl, ?_⟩⟩
  obtain ⟨z1, z2⟩ := mk1_heap (f := f) (v := v) na nd ne
  exact q a d _ na ne z1 z2
end

/-- an own exception with its dict, made and raised -/
theorem pmk_exo {X : Cx} {e : Expr} {te : TE} (hx : X.ex = []) (he : PE X e te) :
    L2N.PMk X e (fun σ H Q => te σ H fun x H1 => ∃ a C d, x = .ref a ∧ H1 a = some (exo a C (some d)) ∧ X.H_0 a = none ∧ Raises X (.ref C) ∧ Q (.ref C) (some d) (delH H1 a)) := by
  intro pl s σ H Q I want
  refine wpAny_mono (he.run pl s σ H _ I want) (fun u s1 ⟨v, H1, I1, r1, a, C, d, ev, ea, h0, hr, q⟩ => ?_) fun _ _ x => x
  subst ev
  cases r1
  obtain ⟨t1, ho⟩ := exo_at I1.hok ea
  obtain ⟨G, gs, ga, J⟩ := Inv.untrack I1 ea (fr0_none h0) hx
  exact ⟨a, _, _, { s1 with heap := G }, delH H1 a, .ref C, some d, rfl, J, gs, ga, ho, ⟨rfl, rfl, fun vs e => by cases e; rfl⟩, rfl, rfl, delH_same, rfl, I1.bare, hr, q⟩
/-- raise X(e): what leaves -/
def tRs1 (X : Cx) (C : Addr) (f : Str) (W : L2.WX) (ta : TA) : TS := fun _ σ H => tMk1 C f ta σ H fun x H1 => ∃ a C d, x = .ref a ∧ H1 a = some (exo a C (some d)) ∧ X.H_0 a = none ∧ Raises X (.ref C) ∧ W (.ref C) (some d) σ (delH H1 a)
section
variable {X : Cx} {x f : Str} {C : Addr} {e : Expr} {es : List Expr} {ta : TA} {pp pos pos2 : Pos} {W : L2.WX}
theorem ps_raise1 (M : Mk1 X.prog X.w X.K X.mg X.base x C f) (hr : Room 2 X.A) (hg : Gl X x) (hx : X.ex = []) (hc : X.calm = true) (tk : L2N.Takes X W) (ha : PA X (e :: es) ta)
    (hdb : (x == ("__debug__" : Str)) = false := by decide) (he : starEach (e :: es) X.env = (false, eval e X.env) :: starEach es X.env := by rfl) (hpl : (backTo pos (starEach es X.env)).any (·.1) = false := by rfl) :
    PS X (.Raise (some (.Call (.Name x pp) (e :: es) [] pos)) none pos2) (tRs1 X C f W ta) :=
  L2N.ps_raise hc tk (pmk_exo hx (pe_mk1 (p := pp) M hr hg ha hdb he hpl))
/-- how the reading is answered -/
theorem rs1_end {X : Cx} {C a d : Addr} {f : Str} {v : V} {H1 H2 : Hp} {σ : St} {W : L2.WX} (rs : Raises X (.ref C)) (h0 : Same X.H_0 H1) (na : H1 a = none) (ne : d ≠ a) (s2 : Same H1 H2) (ex : ExAt H2 a C d [(f, v)])
    (k : ∀ H3, Same H1 H3 → H3 d = some (exd d [(f, v)]) → W (.ref C) (some d) σ H3) : ∃ a' C' d', V.ref a = .ref a' ∧ H2 a' = some (exo a' C' (some d')) ∧ X.H_0 a' = none ∧ Raises X (.ref C') ∧ W (.ref C') (some d') σ (delH H2 a') := by
  refine ⟨a, C, d, rfl, ex.ob, h0.free na, rs, k _ (fun b o e => ?_) ?_⟩
  · rw [delH_ne (ne_of_none e na)]
    exact s2 b o e
  · rw [delH_ne ne]
    exact ex.di
end
/-- a def that may raise, where nothing is handled -/
theorem Fun.okN {P : Program} {w : World} {K : PySem.W.Frag} {mg : Str → Option Value} {base : Heap} {x qual : Str} {st : Stmt} {f : Addr} {fd : FuncData} {N ps : List Str} {k : Nat} {sp : Sp} (F : Fun K x qual st f fd) (S : FnScope N ps (defScope st)) (len : ∀ vs H Q E, sp vs H Q E → vs.length = ps.length)
    (hbody : ∀ (cdv : Value) (A : Around) (outer : List Env) (s : Shared) (H : Hp) (vs : List V) (Q : VK) (E : XK), Room k (A.deeper (envOfC qual (defScope st) s.heap.objs.size f cdv)) → sp vs H Q E →
      ∃ t, PSs (cxOf (L2N.CX P w) P w K mg base N qual (defScope st) f cdv A outer s H E) (defBody st) t ∧ t { nx := fun _ H' => Q .non H', rt := Q } (start N vs) H) : FnOk P w K mg base (L2N.CX P w) (k + 1) f fd ps sp := by
  obtain ⟨oc, od, kV, doc, pm, an, cdv, ct, osl, rfl, lk, hcd⟩ := F.ex
  exact fn_of lk hcd S len fun A outer s H vs Q E hr want => hbody cdv A outer s H vs Q E hr want
end L2
namespace L2
open PySem PySem.Spec PyProof.Rows PySem.GX HotX L2H
theorem flying_keep {B h h' : Heap} {l : List Env} {e : Addr} {Z : Obj → Prop} (x : HandSPX.FlyingZ B l e Z h) (k : ∀ b o, h.get? b = some o → h'.get? b = some o) : HandSPX.FlyingZ B l e Z h' := by
  obtain ⟨f1, f2, f3, oe, vs, T, oT, ts, a1, a2, a3, a4, a5, a6, a7, a8, a9⟩ := x
  exact ⟨fun b o q => k b o (f1 b o q), f2, f3.of_keeps fun b o q _ => ⟨o, k b o q, rfl⟩, oe, vs, T, oT, ts, k _ _ a1, a2, a3, a4, a5, a6, k _ _ a7, a8, a9⟩
/-- what 'except (c1, c2, ..) as n' wishes: slot i is n's; all that may come is of one of them -/
def w3 (K : PySem.W.Frag) (cs : List Value) (i : Nat) (ts : Addr → Value → Option Addr → TS) (D : Ends) : L2.WX := fun cls d σ H =>
  PySem.W.exmAny K cls cs = some true ∧ ∀ a, H a = none → ts a cls d { nx := fun σ' H' => D.nx (σ'.set i none) H', rt := D.rt, bk := fun σ' H' => D.bk (σ'.set i none) H', ct := fun σ' H' => D.ct (σ'.set i none) H' } (σ.set i (some (.ref a))) H
section
variable {X : Cx} {x1 x2 x3 n : Str} {c1 c2 c3 : Value} {i kk : Nat} {body suite : List Stmt} {b₀ : Stmt} {p1 p2 p3 tp pos pos' : Pos} {tb : L2.WX → TS} {ts : Addr → Value → Option Addr → TS}
theorem ps_try3 (hs : X.stack = X.env :: X.outer) (hf : X.env.frame = some X.env.locals) (hN : X.N.Nodup) (hi : X.N[i]? = some n) (hln : X.env.kindOf n = some .local) (m1 : Names X x1 c1) (m2 : Names X x2 c2) (m3 : Names X x3 c3)
    (hb : ∀ (W : L2.WX) (pn : List (Addr × Obj)) (xe : Value → Shared → Prop), L2N.Takes (X.tr pn xe) W → PassesOwn (model X.prog X.w) X.A X.env xe → PSs (X.tr pn xe) body (tb W))
    (hsu : ∀ (a : Addr) (oe : Obj) (cls : Value) (d : Option Addr) (pn : List (Addr × Obj)), L2N.Zn cls d oe → (∃ vs, oe.data = .fields vs) → PSs (X.suite a ((a, oe) :: pn)) (b₀ :: suite) (ts a cls d)) :
    PS X (.Try body [.ExceptHandler (some (.Tuple [.Name x1 p1, .Name x2 p2, .Name x3 p3] kk tp)) (some n) (b₀ :: suite) pos'] [] [] pos) (fun D σ H => tb (w3 X.K [c1, c2, c3] i ts D) D σ H) := by
  refine ⟨fun pl s σ H D I want => wpAny_Try_except ?_⟩
  have ok := I.ok
  have frs_ : X.A.frames = some (X.env :: X.outer) := by rw [ok.frames, hs]
  have loc_ : Loc X.env.scope n := .inl hln
  refine wpAny_mono ((hb (w3 X.K [c1, c2, c3] i ts D) (X.pn ++ pl) (fun e s₁ => wpAny (model X.prog X.w) X.A (noteFrame e X.env) (fun _ s₂ => wpAny (model X.prog X.w) X.A (setFlight e none) (fun _ s₃ =>
    wpAny (model X.prog X.w) X.A (handleBy e X.env [.ExceptHandler (some (.Tuple [.Name x1 p1, .Name x2 p2, .Name x3 p3] kk tp)) (some n) (b₀ :: suite) pos']) (SP X pl D) X.xe s₃) X.xe s₂) X.xe s₁) (fun u s' xx => ?_) PassesOwn.looking).run [] s σ H D (I.toTry _) want) (fun f s1 hsp => ?_) (fun e s1 he => he)
  · obtain ⟨a, B, sI, pins', σ', H', cls, d, rfl, J', nb, up, sky, na, os, ag, hex, hyes⟩ := xx
    have J : Inv X pl σ' H' sI := J'.ofTry ok
    show wpAny (model X.prog X.w) X.A (noteFrame (.ref a) X.env) _ _ _
    refine L2N.Sky.land L2N.Zn.steady frs_ hf (show Sky B (X.env :: X.outer) a (L2N.Zn cls d) X.env.locals s'.heap by rw [← hs]; exact sky) fun h3 fl3 up3 => ?_
    have J3 : Inv X pl σ' H' { s' with heap := h3 } := J.landed nb fl3.1 (up.trans up3) os ag
    obtain ⟨oe3, vs3, he3, hz3, hd3⟩ := fl3.there
    have nfr : a ∉ frs (X.env :: X.outer) := fun m => by
      obtain ⟨_, o', e', hnf⟩ := fl3.2.2.1.mem m
      rw [he3] at e'
      cases e'
      exact hnf _ hd3
    have nL : a ≠ X.env.locals := fun z => nfr (List.mem_filterMap.mpr ⟨X.env, List.mem_cons_self, by rw [hf, z]⟩)
    have nF : a ∉ X.fs := fun m => by
      obtain ⟨e, he, q⟩ := List.mem_filterMap.mp m
      exact nfr (List.mem_filterMap.mpr ⟨e, List.mem_cons_of_mem _ he, q⟩)
    have S3 := J3.suite he3 hd3 na nL nF
    refine wpAny_handleBy_cons (codeAny_handlers_test ?_) (by intro q; cases q)
    have nam : ∀ {x : Str} {c : Value} {np : Pos} {Q : Value → Shared → Prop} {E : Value → Shared → Prop}, Names X x c → Q c { s' with heap := h3 } → wpAny (model X.prog X.w) (X.A.mark (some (.ref a))) (eval (.Name x np) X.env) Q E { s' with heap := h3 } := fun {x c np Q E} hc q => by
      obtain ⟨hg, hdbg, hm | ⟨hm, hv, hnn⟩⟩ := hc
      · exact ld_glob (X := X.suite a ((a, oe3) :: (X.pn ++ pl))) S3 hg hm q hdbg
      · exact ld_blt (X := X.suite a ((a, oe3) :: (X.pn ++ pl))) S3 hg hm hv q hnn hdbg
    refine wpAny_Tuple (wpAny_items_cons (nam m1 (wpAny_items_cons (nam m2 (wpAny_items_cons (nam m3 (wpAny_items_nil ⟨by size_fits, ?_⟩)))))))
    have kp : ∀ q o, h3.get? q = some o → (h3.push { cls := .type "tuple", data := .seq [c1, c2, c3].toArray }).get? q = some o := fun _ _ z => Heap.get?_push_of_some _ z
    have LT : PySem.W.Looks (model X.prog X.w) (h3.push { cls := .type "tuple", data := .seq [c1, c2, c3].toArray }) (typeOf (.ref a)) cls := fun A Q E s k q => wpAny_typeOf_ref (k _ _ (kp _ _ he3)) (by rw [hz3.1]; exact q)
    refine (PySem.W.exm_tup3 (M := model X.prog X.w) (J3.kIn.keeps kp) LT (Heap.get?_push_size h3 rfl) hex).here ?_
    refine codeAny_handlers_suite_as (HandSPX.lands_againZ (flying_keep fl3 kp) fun h4 fl4 up4 => ?_)
    have J4 : Inv X pl σ' H' { s' with heap := h4 } := J.landed nb fl4.1 (((up.trans up3).trans (.of_keeps kp)).trans up4) os ag
    obtain ⟨oe4, vs4, he4, hz4, hd4⟩ := fl4.there
    have S4 := J4.suite he4 hd4 na nL nF
    refine store_ok (X := X.suite a ((a, oe4) :: (X.pn ++ pl))) (v := .ref a) S4 hN hi loc_ rfl (fun s5 S5 => wpAny_mono ((hsu a oe4 cls d (X.pn ++ pl) hz4 ⟨_, hd4⟩).run [] s5 _ H' _ S5 (hyes a na)) (fun f s6 hsp => ?_) (fun _ _ z => False.elim z)) (.inr hln)
    have leaves : ∀ {σ6 : St} {H6 : Hp} {Q : Shared → Prop}, Inv (X.suite a ((a, oe4) :: (X.pn ++ pl))) [] σ6 H6 s6 → (∀ s7, Inv X pl (σ6.set i none) H6 s7 → Q s7) →
        wpAny (model X.prog X.w) X.A (do bindName X.env n .none; unbindBehindTheSuite X.env n pos') (fun _ s7 => Q s7) X.xe s6 := fun {σ6 H6 Q} S6 hq => gone_ok (S6.unsuite ok) hN hi hln hq
    cases f with
    | next =>
      obtain ⟨σ6, H6, S6, q6⟩ := hsp
      exact leaves S6 fun s7 J7 => ⟨_, _, J7, q6⟩
    | brk =>
      obtain ⟨σ6, H6, S6, q6⟩ := hsp
      exact leaves S6 fun s7 J7 => ⟨_, _, J7, q6⟩
    | cont =>
      obtain ⟨σ6, H6, S6, q6⟩ := hsp
      exact leaves S6 fun s7 J7 => ⟨_, _, J7, q6⟩
    | ret u =>
      obtain ⟨v6, σ6, H6, S6, r6, q6⟩ := hsp
      exact leaves S6 fun s7 J7 => ⟨_, _, _, J7, r6, q6⟩
  · cases f with
    | next =>
      obtain ⟨σ', H', J', q⟩ := hsp
      exact wpAny_execs_nil ⟨σ', H', J'.ofTry ok, q⟩
    | brk =>
      obtain ⟨σ', H', J', q⟩ := hsp
      exact ⟨σ', H', J'.ofTry ok, q⟩
    | cont =>
      obtain ⟨σ', H', J', q⟩ := hsp
      exact ⟨σ', H', J'.ofTry ok, q⟩
    | ret u =>
      obtain ⟨v, σ', H', J', r, q⟩ := hsp
      exact ⟨v, σ', H', J'.ofTry ok, r, q⟩
end
end L2
namespace L2
open PySem PySem.Spec PyProof.Rows PySem.GX HotX L2H LamX
/-- what is invariant does not speak of the wish about exceptions -/
theorem Inv.xe_ {X : Cx} {pins : List (Addr × Obj)} {σ : L2.St} {H : Hp} {s : Shared} (I : Inv X pins σ H s) (e : Value → Shared → Prop) : Inv { X with xe := e } pins σ H s :=
  have o := I.ok
  ⟨⟨o.mod, o.kind, o.glob, o.blt, o.above, o.inj, o.has, o.cab, o.hd, o.frames, o.stk, o.exf, o.bs, o.bsz, o.noex, o.exfs, o.funs, o.frf⟩, I.os, I.bare, I.base, I.loc, I.cell, I.free, I.freeC, I.pin, I.hok, I.len⟩
/-- the context of a lambda's body; what leaves it has no context of its own -/
def lamN (X : Cx) (A : Around) (outer : List Env) (s : Shared) (H : Hp) (E : XK) (scope : Scope) (f c' : Addr) : Cx :=
  { lamCx X A outer s H E scope f c' with xe := fun e s' => wpAny (model X.prog X.w) (A.deeper (lamEnv X scope s.heap.objs.size f c')) (leaving (lamEnv X scope s.heap.objs.size f c') e) (fun _ s'' => L2N.CX X.prog X.w outer H s E e s'') (fun e' s'' => L2N.CX X.prog X.w outer H s E e' s'') s' }
section
variable {X : Cx} {pl : List (Addr × Obj)} {σ : L2.St} {H : Hp} {s : Shared}
/-- a(), in the def that got the lambda -/
theorem pe_actN {CXg : CXT} {Eg : XK} {Ng : List Str} {qg : Str} {sg : Scope} {g f c' : Addr} {cdg pm ctv : Value} {params : Arguments} {body : Expr} {scope : Scope} {k i : Nat} {a : Str} {pn : List (Addr × Obj)} {xe : Value → Shared → Prop} {W : L2.WX} {E : XK} {tb : TE} {p1 p2 : Pos}
    (I : Inv X pl σ H s) (L : LamS X.env.scope scope) (hf : s.heap.get? f = some (PySem.W.kla_obj "<lambda>" (X.env.qual ++ "<lambda>") params body scope (cloFrom X.env.cells scope.names []) pm c' ctv)) (hfn : H f = none) (hfr : f ∉ frs X.stack)
    (hbind : bindArgs (PySem.W.kla_fn "<lambda>" (X.env.qual ++ "<lambda>") params body scope (cloFrom X.env.cells scope.names []) pm (.ref c') ctv) ⟨[], []⟩ = pure [])
    (tk : L2N.Takes ((cxOf CXg X.prog X.w X.K X.mg X.base Ng qg sg g cdg X.A X.stack s H Eg).tr pn xe) W) (hW : ∀ cls d σ' H', E cls d H' → W cls d σ' H') (hr : Room (k + 1) (X.A.deeper (envOfC qg sg s.heap.objs.size g cdg)))
    (hbody : ∀ (A : Around) (outer : List Env) (s : Shared) (H : Hp), Room k (A.deeper (lamEnv X scope s.heap.objs.size f c')) → PE (lamN X A outer s H E scope f c') body tb)
    (hN : Ng[i]? = some a) (hv : Vis sg a) (hd : (a == ("__debug__" : Str)) = false := by decide) (hcd : (a == ("__classdict__" : Str)) = false := by decide) :
    PE ((cxOf CXg X.prog X.w X.K X.mg X.base Ng qg sg g cdg X.A X.stack s H Eg).tr pn xe) (.Call (.Name a p1) [] [] p2)
      (fun σZ HZ Q => σZ[i]? = some (some (.ref f)) ∧ HZ c' = some (CodeO c' (X.env.qual ++ "<lambda>")) ∧ tb σ HZ Q) := by
  refine ⟨fun plZ sZ σZ HZ Q IZ ⟨hs, hc, want⟩ => wpAny_Call_Name_kw (thn ((pe_var (pos := p1) (i := i) hN hv hd hcd).run plZ sZ σZ HZ (fun v H1 => v = .ref f ∧ H1 = HZ) IZ ⟨.ref f, hs, rfl, rfl⟩) fun u s1 ⟨v, H1, I1, r1, ev, eH⟩ => ?_)⟩
  subst ev
  rw [eH] at I1
  obtain rfl : u = Value.ref f := r1
  have of1 : s1.heap.get? f = some (PySem.W.kla_obj "<lambda>" (X.env.qual ++ "<lambda>") params body scope (cloFrom X.env.cells scope.names []) pm c' ctv) := I1.base.keep f _ hf hfn hfr (fun z => nomatch (show f ∈ ([] : List Addr) from z))
  obtain ⟨⟨oc, vs, t, hoc, hdc, hvc⟩, _, _⟩ := I1.hok c' _ hc
  have rc : codeAny (model X.prog X.w) (X.A.deeper (envOfC qg sg s.heap.objs.size g cdg)) (.call (.ref f) ⟨[], []⟩) (CR (L2N.CX X.prog X.w) (envOfC qg sg s.heap.objs.size g cdg :: X.stack) X.prog X.w HZ s1 Q E) s1 := by
    refine PySem.W.kla_callFunE hr.depth of1 rfl L.co L.gen rfl ⟨c', oc, vs, t, rfl, hoc, hdc, hvc⟩ ?_
    rw [hbind]
    refine wpAny_pure (wpAny_newFunctionEnv (fun y hy => (L.own y hy).2) (fun y hy => absurd hy (by simp)) (fun h₁ hns hsb => ⟨I1.nolimit.fresh _ hsb, ?_⟩) L.kind)
    show codeAny _ _ (.expr body (lamEnv X scope s1.heap.objs.size f c')) _ _
    have J := (lam_start2 (E := E) (f := f) (c' := c') (tk := s1.toks + ([] : List (Str × Value)).length) I L I1.env0 hr.hd (show Un (frs X.stack) [] H HZ s.heap s1.heap from I1.base) hns fun b o e => hsb.extBut b o (Nat.ne_of_lt (Heap.lt_size e)) (Heap.get?_push_of_some _ e)).xe_ (fun e s' => wpAny (model X.prog X.w) ((X.A.deeper (envOfC qg sg s.heap.objs.size g cdg)).deeper (lamEnv X scope s1.heap.objs.size f c')) (leaving (lamEnv X scope s1.heap.objs.size f c') e) (fun _ s'' => L2N.CX X.prog X.w (envOfC qg sg s.heap.objs.size g cdg :: X.stack) HZ s1 E e s'') (fun e' s'' => L2N.CX X.prog X.w (envOfC qg sg s.heap.objs.size g cdg :: X.stack) HZ s1 E e' s'') s')
    refine PySem.W.kla_codeExpr (wpAny_mono ((hbody _ _ s1 HZ (hr.deeper _)).run [] _ _ HZ Q J want) (fun v s' ⟨w', H', J', rv, q⟩ => ⟨w', H', J'.os, J'.bare, J'.base, J'.hok, rv, q⟩) fun e s' hq => hq)
  refine PySem.W.callWith_F0 ⟨_, _, _, _, of1⟩ (wpAny_call (codeAny_mono rc fun r s' hq => ?_))
  cases r with
  | error e => exact L2N.passes_call tk hW plZ σZ HZ s1 e s' I1 hq
  | ok fl =>
    cases fl with
    | ret u => exact I1.after hq
    | next => exact False.elim hq
    | brk => exact False.elim hq
    | cont => exact False.elim hq
end
/-- the def that calls what it got (TT: what it makes of the lambda's reading) -/
def GivesN (X : Cx) (k : Nat) (Ng : List Str) (x : Str) (sg : Scope) (g : Addr) (cdg : Value) (bg : List Stmt) (a : Str) (q : Str) (TT : (XK → Hp → VK → Prop) → Hp → VK → Prop) : Prop :=
  ∀ (f c' : Addr) (s : Shared) (H : Hp) (Q : VK) (tl : XK → Hp → VK → Prop), Room k (X.A.deeper (envOfC x sg s.heap.objs.size g cdg)) →
    (∀ (W : L2.WX) (pn : List (Addr × Obj)) (xe : Value → Shared → Prop) (E : XK) (p1 p2 : Pos), L2N.Takes ((cxOf CX0 X.prog X.w X.K X.mg X.base Ng x sg g cdg X.A X.stack s H E0).tr pn xe) W → (∀ cls d σ' H', E cls d H' → W cls d σ' H') →
      PE ((cxOf CX0 X.prog X.w X.K X.mg X.base Ng x sg g cdg X.A X.stack s H E0).tr pn xe) (.Call (.Name a p1) [] [] p2) (fun σZ HZ Q => σZ[0]? = some (some (.ref f)) ∧ HZ c' = some (CodeO c' q) ∧ tl E HZ Q)) →
    H c' = some (CodeO c' q) → TT tl H Q →
    ∃ t, PSs (cxOf CX0 X.prog X.w X.K X.mg X.base Ng x sg g cdg X.A X.stack s H E0).nox bg t ∧ t { nx := fun _ H' => Q .non H', rt := Q } (L2.start Ng [.ref f]) H
section
variable {X : Cx}
/-- x(lambda: body) -/
theorem pe_lamN {T : List (Addr × Str)} {TT : (XK → Hp → VK → Prop) → Hp → VK → Prop} {x a : Str} {g c P : Addr} {k : Nat} {pg : Arguments} {bg : List Stmt} {sg : Scope} {dV kV doc pm cdv ct oc : Value} {an od : Option Addr} {osl : Array (Option Value)} {Ng : List Str}
    {params : Arguments} {body : Expr} {scope : Scope} {t : XK → TE} {p lpos pos : Pos} (hg : Gl X x) (hm : X.mg x = some (.ref g)) (hk : PySem.W.keepIn X.K (.ref g) = true)
    (lk : X.K.lookup g = some ⟨oc, od, .func (PySem.W.fnOf x x pg bg sg dV kV doc pm an cdv ct), osl⟩) (hcg : PySem.W.codeIn X.K cdv x = true) (hb : L2.Binds X.K (PySem.W.fnOf x x pg bg sg dV kV doc pm an cdv ct) [a] []) (Sg : FnScope Ng [a] sg) (hNg : Ng[0]? = some a) (hva : Vis sg a)
    (hG : GivesN X (k + 1) Ng x sg g cdv bg a (X.env.qual ++ "<lambda>") TT)
    (TB : TabB X.base X.mg c P) (hcode : X.env.code = .ref c) (hmT : (P, X.env.qual ++ "<lambda>") ∈ T) (hu : ∀ p ∈ T, p.1 = P → p.2 = X.env.qual ++ "<lambda>") (hr : Room (k + 2) X.A) (L : LamS X.env.scope scope) (hdef : defaultsOf params X.env = ([], []))
    (hbind : ∀ (q : Str) (cl : List (Str × Addr)) (pm cv ctv : Value), bindArgs (PySem.W.kla_fn "<lambda>" q params body scope cl pm cv ctv) ⟨[], []⟩ = pure [])
    (hbody : ∀ (A : Around) (outer : List Env) (s : Shared) (H : Hp) (E : XK) (f c' : Addr), Room k (A.deeper (lamEnv X scope s.heap.objs.size f c')) → PE (lamN X A outer s H E scope f c') body (t E))
    (hdb : (x == ("__debug__" : Str)) = false := by decide) (hd : (a == ("__debug__" : Str)) = false := by decide) (hcd : (a == ("__classdict__" : Str)) = false := by decide) :
    PE X (.Call (.Name x p) [.Lambda params body scope lpos] [] pos) (tLam T TT t) := by
  refine ⟨fun pl s σ H Q I ⟨hT, want⟩ => wpAny_Call_Name_kw (ld_glob I hg hm (PySem.W.callWith_K (h₀ := X.base) I.ok.mod.kin hk ?_ (by rfl) (by rfl)) hdb)⟩
  show wpAny _ _ (spliced ((false, eval (.Lambda params body scope lpos) X.env) :: backTo pos (starEach [] X.env))) _ _ s
  refine Calls.spliced_cons (lam_make2 I TB hcode hmT hu hT hdef (L.has I.ok) fun f c' pm' ctv H1 s' I1 eN T1 hf hfn hfr hco => Calls.spliced_nil ⟨I1.kIn, ?_⟩)
  have rc : codeAny (model X.prog X.w) X.A (.call (.ref g) ⟨[.ref f], []⟩) (CR CX0 X.stack X.prog X.w H1 s' Q E0) s' := by
    refine run_ofS (N := Ng) (ps := [a]) (us := [.ref f]) (vs := [.ref f]) lk hcg Sg hr I1.env0 (hb s' [.ref f] I1.kIn rfl) (.cons rfl .nil) rfl fun hr' => ?_
    obtain ⟨t', ht', hq'⟩ := hG f c' s' H1 Q (fun E H' Q' => t E σ H' Q') hr' (fun W pn xe E p1 p2 tk hW => pe_actN (i := 0) I1 L hf hfn hfr (hbind _ _ _ _ _) tk hW hr' (fun A outer s H hr2 => hbody A outer s H E f c' hr2) hNg hva hd hcd) hco (want H1 eN T1)
    exact ⟨t', ht'.nox, hq'⟩
  refine wpAny_call (codeAny_mono rc fun r s2 hq => ?_)
  cases r with
  | error e => exact (show False from hq).elim
  | ok fl =>
    cases fl with
    | ret u => exact I1.after hq
    | next => exact False.elim hq
    | brk => exact False.elim hq
    | cont => exact False.elim hq
end
end L2
namespace L2
open PySem PySem.Spec PyProof.Rows PySem.GX LamX
/-- the law's call, its promise where no repr is under way; the tables ts of code objects may grow -/
theorem law_callGT {P : Program} {w : World} {K : PySem.W.Frag} {mg mb : Str → Option Value} {CX : CXT} {k : Nat} {fa a : Addr} {fd : FuncData} {x : Str} {sp : Sp} {s1 : Shared} {vs : List Value} {ns : List Int} {ts : List (Addr × Addr)}
    (KX : K.In s1.heap) (hns : s1.heap.Ns mainGlobals mg) (hb : s1.heap.Ns builtinsNs mb) (hbb : ∀ x : Str, x ≠ "__name__" → mb x = bootBuiltins x) (hlim : s1.heap.NoLimit) (hg : s1.gens = #[])
    (t1 : ∀ q ∈ ts, s1.heap.get? q.2 = some (PySem.W.tabObj #[]) ∧ K.lookup q.2 = none ∧ PySem.W.CodeHd s1.heap q.1 q.2)
    (hbm : ∃ (m : Addr) (om : Obj), mg "__builtins__" = some (.ref m) ∧ m ≠ builtinsNs ∧ s1.heap.get? m = some om ∧ om.cls = .type "module" ∧ om.dict = some builtinsNs ∧ om.data = .plain)
    (ha : s1.heap.get? a = some { cls := .type "list", data := .seq vs.toArray }) (hi : IntsAre vs ns) (hl : ns.length ≤ sizeLine) (hr : Room k callerA)
    (F : ∀ base : Heap, K.In base → base.Ns mainGlobals mg → (∀ q ∈ ts, TabB base mg q.1 q.2) → FnG P w K mg base CX k fa fd [x] sp) (hbind : ∀ (s : Shared) (u : Value), BindsTo s fd ⟨[u], []⟩ [(x, u)])
    (hsp : ∀ H : Hp, (∀ q ∈ ts, H q.2 = some (.tbl #[])) → SqL K H a (ns.map V.int) → sp [.ref a] H (fun v _ => v = .bl true) fun _ _ _ => False)
    (hCX : ∀ H e s', CX [] H s1 (fun _ _ _ => False) e s' → False) :
    codeAny (model P w) callerA (.call (.ref fa) ⟨[.ref a], []⟩) (fun r s' => r = .ok (.ret (.bool true)) ∧ OldK s1.heap s'.heap ∧ s'.os = s1.os ∧ AllBare s'.gens) s1 := by
  have rv := vals_ints hi
  have lenV := hi.length
  let T : List Addr := ts.map (·.2)
  have tT : ∀ b ∈ T, ∃ q ∈ ts, q.2 = b := fun b h => List.mem_map.mp h
  have oT : ∀ b ∈ T, s1.heap.get? b = some (PySem.W.tabObj #[]) := fun b h => by
    obtain ⟨q, hq, rfl⟩ := tT b h
    exact (t1 q hq).1
  have naT : a ∉ T := fun h => by
    have e := oT a h
    rw [ha] at e
    have d : Data.seq vs.toArray _ = Data.fields #[] := congrArg Obj.data (Option.some.inj e)
    cases d
  let sc : HO := .frz { cls := .type "list", data := .seq vs.toArray } (.lst (ns.map V.int))
  let H : Hp := fun b => if b ∈ T then some (.tbl #[]) else if b = a ∧ (K.lookup a).isNone = true then some sc else none
  have HT : ∀ b ∈ T, H b = some (.tbl #[]) := fun b h => if_pos h
  have isH : ∀ b, H b ≠ none → b ∈ T ∨ b = a ∧ K.lookup a = none := fun b h => by
    by_cases h1 : b ∈ T
    · exact .inl h1
    · by_cases h2 : b = a ∧ (K.lookup a).isNone = true
      · exact .inr ⟨h2.1, Option.isNone_iff_eq_none.mp h2.2⟩
      · exact absurd ((if_neg h1).trans (if_neg h2)) h
  have sH : ∀ b u, H b = some u → b ∉ T → u = sc := fun b u e h1 => by
    have e2 : (if b = a ∧ (K.lookup a).isNone = true then some sc else none) = some u := (if_neg h1).symm.trans e
    by_cases h2 : b = a ∧ (K.lookup a).isNone = true
    · exact (Option.some.inj ((if_pos h2).symm.trans e2)).symm
    · cases (if_neg h2).symm.trans e2
  have seqA : SqL K H a (ns.map V.int) := by
    cases hk : K.lookup a with
    | some o =>
      have e := KX a o hk
      rw [ha] at e
      cases e
      exact .inr ⟨_, vs.toArray, _, hk, rfl, rfl, rfl, by rw [List.size_toArray, lenV]; exact hl, by simpa using rv⟩
    | none =>
      refine .inl (.inr ⟨{ cls := .type "list", data := .seq vs.toArray }, (if_neg naT).trans (if_pos ⟨rfl, ?_⟩)⟩)
      rw [hk]
      rfl
  have hok : HOk P w H s1.heap := fun b u e => by
    by_cases h1 : b ∈ T
    · have e2 := (HT b h1).symm.trans e
      cases e2
      exact oT b h1
    · have e3 := sH b u e h1
      have e4 : b = a := ((isH b (by rw [e]; simp)).resolve_left h1).1
      subst e3 e4
      exact ⟨ha, by rw [List.length_map]; exact hl, vs, _, rv, ha⟩
  -- what is of another kind is not tracked
  have off : ∀ {b : Addr} {o : Obj}, s1.heap.get? b = some o → (∀ z n, o.data ≠ .seq z n) → o.data ≠ .fields #[] → H b = none := fun {b o} e d1 d2 => by
    cases q : H b with
    | none => rfl
    | some u =>
      rcases isH b (by rw [q]; simp) with m | ⟨m, _⟩
      · rw [oT b m] at e
        cases e
        exact absurd rfl d2
      · rw [m, ha] at e
        cases e
        exact absurd rfl (d1 _ _)
  have offD : ∀ {b : Addr} {o : Obj} {es : Array DictEntry} {ep : Nat}, s1.heap.get? b = some o → o.data = .dict es ep → H b = none := fun {b o es ep} e d =>
    off e (fun z n q => by rw [d] at q; cases q) (fun q => by rw [d] at q; cases q)
  have nsB : ∀ {b : Addr} {m : Str → Option Value}, s1.heap.Ns b m → (hidT s1.heap H).Ns b m := fun {b m} ⟨o, es, ep, e, d, r⟩ => ⟨o, es, ep, hidT_get e (offD e d), d, r⟩
  have inB : K.In (hidT s1.heap H) := fun b o e => hidT_get (KX b o e) (by
    cases q : H b with
    | none => rfl
    | some u =>
      rcases isH b (by rw [q]; simp) with m | ⟨m, m2⟩
      · obtain ⟨r, hq, rfl⟩ := tT b m
        rw [(t1 r hq).2.1] at e
        cases e
      · rw [m, m2] at e
        cases e)
  have modB : Mod K mg (hidT s1.heap H) := ⟨inB, nsB hns, ⟨mb, nsB hb, hbb⟩, let ⟨mc, l1, l2⟩ := hlim; ⟨mc, nsB l1, l2⟩⟩
  have tabB : ∀ q ∈ ts, TabB (hidT s1.heap H) mg q.1 q.2 := fun q hq => by
    obtain ⟨oq, _, ⟨oc, us, fl, tf, fg, tg, nF, tx, tt, c1, c2, c3, c4, c5⟩⟩ := t1 q hq
    refine ⟨⟨oc, us, fl, tf, fg, tg, nF, tx, tt, hidT_get c1 (off c1 (fun z n d => by rw [c3] at d; cases d) fun d => ?_), c2, c3, c4, c5⟩, ?_, fun z => ?_⟩
    · rw [c3] at d
      cases d
      simp at c4
    · obtain ⟨m, om, b1, b2, b3, b4, b5, b6⟩ := hbm
      refine ⟨m, om, b1, b2, fun z => ?_, fun z => ?_, hidT_get b3 (off b3 (fun z n d => by rw [b6] at d; cases d) fun d => by rw [b6] at d; cases d), b4, b5, b6⟩
      · obtain ⟨o, es, ep, e, d, _⟩ := hns
        rw [z, e] at b3
        cases b3
        rw [d] at b6
        cases b6
      · rw [z, oq] at b3
        cases b3
        cases b6
    · obtain ⟨o, es, ep, e, d, _⟩ := hns
      rw [z, oq] at e
      cases e
      cases d
  have e0 : Env0 P w K mg (hidT s1.heap H) callerA [] s1 H :=
    ⟨rfl, modB, fun b o e => of_hidT e, Nat.le_of_eq (hidT_size _ _), trivial, fun b m => absurd (show b ∈ ([] : List Addr) from m) (by simp), hok, .of_eq hg⟩
  refine codeAny_mono ((F _ inB (nsB hns) tabB).run callerA [] s1 H ⟨[.ref a], []⟩ [.ref a] [.ref a] _ _ rfl hr e0 (hbind s1 (.ref a)) (.cons rfl .nil) (hsp H (fun q hq => HT _ (List.mem_map.mpr ⟨q, hq, rfl⟩)) seqA)) fun r s' h => ?_
  cases r with
  | error e => exact (hCX H e s' h).elim
  | ok fl =>
    cases fl with
    | next => exact False.elim h
    | brk => exact False.elim h
    | cont => exact False.elim h
    | ret u =>
      obtain ⟨v, H', os, bare, un, hok', r', q⟩ := h
      have qv : v = .bl true := q
      subst qv
      obtain rfl : u = Value.bool true := r'
      have stays : ∀ b o, b ∉ T → s1.heap.get? b = some o → s'.heap.get? b = some o := fun b o nb e => by
        cases q : H b with
        | none => exact un.keep b o e q (by intro z; exact absurd (show b ∈ ([] : List Addr) from z) (by simp)) (by simp)
        | some u =>
          have e3 := sH b u q nb
          subst e3
          have z2 := un.frzs b _ _ q
          obtain ⟨k1, _⟩ := hok b _ q
          obtain ⟨k2, _⟩ := hok' b _ z2
          rw [e] at k1
          cases k1
          exact k2
      have grows : ∀ b ∈ T, ∃ more : Array Value, s'.heap.get? b = some (PySem.W.tabObj more) := fun b m => by
        obtain ⟨more, z⟩ := un.tbls b #[] (HT b m)
        exact ⟨_, hok' b _ z⟩
      refine ⟨rfl, ⟨fun b o e => ?_, fun b o e => ?_⟩, os, bare⟩
      · by_cases m : b ∈ T
        · obtain ⟨q, hq, rfl⟩ := tT b m
          obtain ⟨more, hm⟩ := grows _ m
          obtain ⟨oq, _, cq⟩ := t1 q hq
          rw [oq] at e
          cases e
          exact .inr (.inl ⟨(cq.tab oq).isCodeTable, rfl, #[], more, rfl, by rw [Array.empty_append]; exact hm⟩)
        · exact .inl (stays b o m e)
      · by_cases m : b ∈ T
        · obtain ⟨more, hm⟩ := grows _ m
          exact ⟨_, hm⟩
        · exact ⟨o, stays b o m e⟩
/-- the walk of a law whose defs make lambdas -/
theorem walk_GT {l : PySem.W.OpenLaw} {n k : Nat} {q : Program} {loose : List Str} {XP : (Str → Option Value) → Heap → Prop} {YP : World → Heap → Prop} {d : DefRec} {K : Params → PySem.W.Frag} {sp : PySem.W.Frag → List (Addr × Addr) → Sp} {x : Str} {ts : List (Addr × Addr)}
    (hn : l.most = some n) (hn2 : n ≤ sizeLine) (hdf : d.params.defaults = []) (hr : Room k callerA)
    (hY : ∀ (w : World) (h : Heap), YP w h → (K w.params).In h) (hZ : ∀ (w : World) (h : Heap), YP w h → ∀ q ∈ ts, h.get? q.2 = some (PySem.W.tabObj #[]) ∧ (K w.params).lookup q.2 = none ∧ PySem.W.CodeHd h q.1 q.2)
    (F : ∀ (w : World) (mg : Str → Option Value) (fa : Addr) (h : Heap), (K w.params).In h → h.Ns mainGlobals mg → mg d.name = some (.ref fa) →
      ∃ fd : FuncData, (∀ (s : Shared) (u : Value), BindsTo s fd ⟨[u], []⟩ [(x, u)]) ∧
        ∀ base : Heap, (K w.params).In base → base.Ns mainGlobals mg → (∀ q ∈ ts, TabB base mg q.1 q.2) → FnG l.prog w (K w.params) mg base CX0 k fa fd [x] (sp (K w.params) ts))
    (hsp : ∀ (K : PySem.W.Frag) (H : Hp) (a : Addr) (ns : List Int), ns.length ≤ n → (∀ q ∈ ts, H q.2 = some (.tbl #[])) → SqL K H a (ns.map V.int) → sp K ts [.ref a] H (fun v _ => v = .bl true) fun _ _ _ => False) :
    PySem.W.WalkO q loose XP YP l.row.toRowW d [] (fun f vs => PySem.call f vs) := by
  refine Att.attach_call hn hdf fun w s₀ s1 mg mb fa o pm cd doc a vs ns G Y ho hd hcd hmg hobj hints hlen hg => ?_
  have KX := hY w _ Y
  have t1 := hZ w _ Y
  obtain ⟨fd, hb, hF⟩ := F w mg fa _ KX G.T.g hmg
  exact law_callGT KX G.T.g G.T.b G.T.builtins G.T.nolimit hg t1 G.T.bmain hobj hints (Nat.le_trans hlen hn2) hr hF hb (fun H hT hS => hsp (K w.params) H a ns hlen hT hS) fun _ _ _ z => z
end L2
namespace My
open PySem PySem.Spec PyProof.Rows L2 PySem.GX
def isRowL (x r : Str) : Bool := decide (r.length ≤ 1000) && r.cps.toList.all fun c => decide (c ∈ x.cps.toList)
/-- v is no row of the signs x -/
def NoRow (K : PySem.W.Frag) (H : Hp) (x : Str) (v : V) : Prop := (∃ r, v = .str r ∧ r.length ≤ 16000000 ∧ isRowL x r = false) ∨ ∃ ty, TyX K H v ty ∧ PySem.W.kitOne K ty (.type "str") = some false
end My
namespace My
open PySem PySem.Spec PyProof.Rows L2 PySem.GX
theorem mem_ins {ys : List Str} {k z : Str} : z ∈ ins ys k ↔ z = k ∨ z ∈ ys := by
  unfold ins
  by_cases h : k ∈ ys
  · rw [if_pos h]
    constructor
    · intro m; exact .inr m
    · rintro (rfl | m)
      · exact h
      · exact m
  · rw [if_neg h, List.mem_cons]
theorem setFold_all : ∀ (n : Nat) (xs : List Str), xs.length = n → (setFold xs).Nodup ∧ (∀ z, z ∈ setFold xs ↔ z ∈ xs) ∧ (xs.Nodup → (setFold xs).Perm xs) ∧ (¬ xs.Nodup → (setFold xs).length < xs.length) := by
  intro n
  induction n with
  | zero =>
    intro xs h
    have : xs = [] := List.eq_nil_of_length_eq_zero h
    subst this
    exact ⟨List.nodup_nil, fun _ => Iff.rfl, fun _ => List.Perm.refl _, fun h => absurd List.nodup_nil h⟩
  | succ n ih =>
    intro xs h
    have hne : xs ≠ [] := by intro z; subst z; cases h
    obtain ⟨ys, a, rfl⟩ : ∃ ys a, xs = ys ++ [a] := ⟨xs.dropLast, xs.getLast hne, (List.dropLast_concat_getLast hne).symm⟩
    have hl : ys.length = n := by rw [List.length_append] at h; simpa using h
    obtain ⟨i1, i2, i3, i4⟩ := ih ys hl
    have len := setFold_len n ys hl
    rw [setFold_snoc]
    refine ⟨ins_nodup i1, fun z => ?_, fun nd => ?_, fun nd => ?_⟩
    · rw [mem_ins, i2, List.mem_append]
      simp
      constructor
      · rintro (h | h) <;> simp [h]
      · rintro (h | h) <;> simp [h]
    · rw [List.nodup_append] at nd
      have ha : a ∉ setFold ys := fun z => nd.2.2 a ((i2 a).mp z) a (by simp) rfl
      unfold ins
      rw [if_neg ha]
      exact ((i3 nd.1).cons a).trans (List.perm_append_singleton a ys).symm
    · unfold ins
      by_cases ha : a ∈ setFold ys
      · rw [if_pos ha, List.length_append]
        simp; omega
      · rw [if_neg ha, List.length_append]
        have : ¬ ys.Nodup := fun z => nd (by
          rw [List.nodup_append]
          refine ⟨z, by simp, fun b hb c hc e => ?_⟩
          simp at hc
          subst hc; subst e
          exact ha ((i2 b).mpr hb))
        have := i4 this
        simp; omega
theorem setFold_eqlen (xs : List Str) : decide ((setFold xs).length = xs.length) = decide xs.Nodup := by
  obtain ⟨_, _, i3, i4⟩ := setFold_all _ xs rfl
  by_cases h : xs.Nodup
  · rw [decide_eq_true h, decide_eq_true (i3 h).length_eq]
  · rw [decide_eq_false h, decide_eq_false (Nat.ne_of_lt (i4 h))]
/-- the sign c as a text -/
abbrev sg (c : Nat) : Str := ⟨#[c]⟩
theorem sg_inj {a b : Nat} (h : sg a = sg b) : a = b := by
  have := congrArg (fun s : Str => s.cps.toList) h
  simpa using this
theorem str_ext {x y : Str} (h : x.cps.toList = y.cps.toList) : x = y := by
  cases x; cases y
  simp at h
  rw [h]
theorem asc_eq : ∀ {a b : List Nat}, a.Pairwise (· < ·) → b.Pairwise (· < ·) → (∀ z, z ∈ a ↔ z ∈ b) → a = b
  | [], [], _, _, _ => rfl
  | [], y :: _, _, _, h => by have := (h y).mpr (by simp); simp at this
  | x :: _, [], _, _, h => by have := (h x).mp (by simp); simp at this
  | x :: xs, y :: ys, h1, h2, h => by
    rw [List.pairwise_cons] at h1 h2
    have e : x = y := by
      have m1 := (h x).mp (by simp)
      have m2 := (h y).mpr (by simp)
      simp at m1 m2
      rcases m1 with m1 | m1
      · exact m1
      · rcases m2 with m2 | m2
        · exact m2.symm
        · have a1 := h1.1 _ m2
          have a2 := h2.1 _ m1
          omega
    subst e
    congr 1
    refine asc_eq h1.2 h2.2 fun z => ?_
    constructor
    · intro m
      have := (h z).mp (by simp [m])
      simp at this
      rcases this with rfl | t
      · exact absurd (h1.1 _ m) (Nat.lt_irrefl _)
      · exact t
    · intro m
      have := (h z).mpr (by simp [m])
      simp at this
      rcases this with rfl | t
      · exact absurd (h2.1 _ m) (Nat.lt_irrefl _)
      · exact t
theorem rising_asc : ∀ (cs : List Nat) (p : Nat), risingS (sg p) (cs.map sg) = true → (p :: cs).Nodup → (p :: cs).Pairwise (· < ·)
  | [], p, _, _ => by simp
  | c :: cs, p, h, nd => by
    unfold risingS at h
    rw [List.map_cons] at h
    simp only [Bool.and_eq_true] at h
    have nd' := (List.nodup_cons.mp nd)
    have ih := rising_asc cs c h.2 nd'.2
    have h1 : ¬ c < p := by
      have := h.1
      simp [ltCps] at this
      omega
    have h2 : p ≠ c := fun z => nd'.1 (by simp [z])
    rw [List.pairwise_cons] at ih ⊢
    refine ⟨fun z hz => ?_, List.pairwise_cons.mpr ih⟩
    simp at hz
    rcases hz with rfl | hz
    · omega
    · have := ih.1 z hz
      omega
theorem join_signs : ∀ cs : List Nat, (Str.join Str.empty (cs.map sg)).cps.toList = cs
  | [] => rfl
  | [c] => rfl
  | c :: d :: cs => by
    have ih := join_signs (d :: cs)
    show ((sg c ++ Str.empty ++ Str.join Str.empty ((d :: cs).map sg)).cps).toList = _
    show (((#[c] ++ #[]) ++ (Str.join Str.empty ((d :: cs).map sg)).cps)).toList = _
    rw [Array.toList_append, ih]
    rfl
/-- the text is its own signs in their order, each once -/
theorem asc_join {x : Str} {zs : List Str} (hp : zs.Perm (setFold (signsOf x))) (hs : sortedS zs = true) : decide (V.str x = V.str (Txt.join Str.empty zs)) = decide (x.cps.toList.Pairwise (· < ·)) := by
  obtain ⟨i1, i2, i3, i4⟩ := setFold_all _ (signsOf x) rfl
  have nd : zs.Nodup := hp.nodup_iff.mpr i1
  have hm : ∀ z, z ∈ zs ↔ z ∈ signsOf x := fun z => (hp.mem_iff).trans (i2 z)
  obtain ⟨cs, rfl⟩ : ∃ cs : List Nat, zs = cs.map sg := by
    have all : ∀ z ∈ zs, ∃ c, z = sg c := fun z hz => by
      have := (hm z).mp hz
      unfold signsOf at this
      obtain ⟨c, _, rfl⟩ := List.mem_map.mp this
      exact ⟨c, rfl⟩
    clear hp hs nd hm i1 i2 i3 i4
    induction zs with
    | nil => exact ⟨[], rfl⟩
    | cons z t ih =>
      obtain ⟨c, rfl⟩ := all z (by simp)
      obtain ⟨cs, e⟩ := ih fun y hy => all y (by simp [hy])
      exact ⟨c :: cs, by rw [e]; rfl⟩
  have ndc : cs.Nodup := by
    unfold List.Nodup at nd
    rw [List.pairwise_map] at nd
    exact nd.imp fun h z => h (congrArg sg z)
  have asc : cs.Pairwise (· < ·) := by
    cases cs with
    | nil => simp
    | cons c t => exact rising_asc t c hs ndc
  have mem : ∀ c, c ∈ cs ↔ c ∈ x.cps.toList := fun c => by
    have := hm (sg c)
    unfold signsOf at this
    constructor
    · intro h
      obtain ⟨d, hd, e⟩ := List.mem_map.mp (this.mp (List.mem_map.mpr ⟨c, h, rfl⟩))
      rw [← sg_inj e]; exact hd
    · intro h
      obtain ⟨d, hd, e⟩ := List.mem_map.mp (this.mpr (List.mem_map.mpr ⟨c, h, rfl⟩))
      rw [← sg_inj e]; exact hd
  have ej : (Txt.join Str.empty (cs.map sg)).cps.toList = cs := by rw [TL.join_eq, join_signs]
  by_cases h : x.cps.toList.Pairwise (· < ·)
  · rw [decide_eq_true h, decide_eq_true]
    congr 1
    exact str_ext (by rw [ej]; exact asc_eq h asc fun z => (mem z).symm)
  · rw [decide_eq_false h, decide_eq_false]
    intro e
    have e' : x = _ := V.str.inj e
    apply h
    rw [e', ej]
    exact asc
end My
namespace My
open PySem PySem.Spec PyProof.Rows L2
theorem len_app (a b : Str) : (a ++ b).length = a.length + b.length := Str.length_append a b
theorem cps_app (a b : Str) : (a ++ b).cps.toList = a.cps.toList ++ b.cps.toList := by
  show (a.cps ++ b.cps).toList = _
  exact Array.toList_append
theorem ok_low {y : Str} (h : ∀ c ∈ y.cps.toList, c < 256) : PyData.strOk y = true := by
  unfold PyData.strOk
  rw [Array.all_eq_true_iff_forall_mem]
  intro c hc
  have := h c (by simpa using hc)
  simp
  omega
theorem yat_same (xs : List V) : ∀ i H x H', YAt xs i H x H' → Same H H' := fun i H x H' h => by rw [h.1]; exact Same.refl _
theorem map_get {α : Type} {xs : List α} {f : α → V} {i : Nat} {a : α} {x : V} (ha : xs[i]? = some a) (h : (xs.map f)[i]? = some x) : x = f a := by
  rw [List.getElem?_map, ha] at h
  exact (Option.some.inj h).symm
theorem walk_listL {K : PySem.W.Frag} {a : Addr} {α : Type} (xs : List α) (f : α → V) : Walk (Itl K a) xs.length (fun H => SqL K H a (xs.map f)) (YAt (xs.map f)) := by
  have := walk_list (K := K) (a := a) (xs := xs.map f)
  rw [List.length_map] at this
  exact this
theorem in_strs (x : Str) : ∀ ys : List Str, inV (.str x) (ys.map V.str) = decide (x ∈ ys)
  | [] => rfl
  | y :: t => by
    have ih := in_strs x t
    unfold inV at ih ⊢
    rw [List.map_cons, List.any_cons, ih]
    have e : eqV (.str y) (.str x) = decide (y = x) := by
      show (y == x) = _
      by_cases h : y = x
      · subst h; simp
      · simp [h]
    rw [e]
    by_cases h : y = x
    · subst h; simp
    · simp [h, Ne.symm h]
theorem flat_strs (ys : List Str) : (ys.map V.str).all flatV = true := by
  rw [List.all_map]
  exact List.all_eq_true.mpr fun _ _ => rfl
end My
namespace My
open PySem PySem.Spec PyProof.Rows L2 PySem.GX L2H LamX
open Builtin.Str (reprChar)
theorem reps_list (c : Nat) : ∀ (n : Nat) (acc : Array Nat), ((List.replicate n #[c]).foldl (· ++ ·) acc).toList = acc.toList ++ List.replicate n c
  | 0, acc => by simp
  | n + 1, acc => by
    rw [List.replicate_succ, List.foldl_cons, reps_list c n, List.replicate_succ]
    simp
/-- one sign, so often -/
def manyS (c : Nat) : Str := ⟨(List.replicate 1001 c).toArray⟩
theorem op_mulS {X : Cx} : OpR X (binaryOp .Mult) (fun x y H Q => ∃ c : Nat, x = .str (sg c) ∧ y = .int 1001 ∧ Q (.str (manyS c)) H) := by
  intro pins s σ H x y v u Q I rx ry ⟨c, ex, ey, q⟩
  subst ex ey
  obtain ⟨t, rfl⟩ := rx
  obtain ⟨t', rfl⟩ := ry
  have e : Txt.mul (sg c) 1001 = manyS c := by
    unfold Txt.mul
    rw [if_neg (by decide), if_neg (by show ¬ ((1001 : Int) == 1 || (1 : Nat) == 0) = true; decide)]
    exact str_ext (by
      show ((List.replicate 1001 #[c]).foldl (· ++ ·) #[]).toList = _
      rw [reps_list]
      simp [manyS])
  refine SB.mul ⟨by decide, fun _ _ => ?_, fun _ _ => ?_⟩ fun t' k => ⟨.str (manyS c), H, I.tok _, ⟨t', by rw [e]⟩, q⟩
  · show ¬ ((1 : Int) > (2 ^ 63 - 1) / 1001)
    decide
  · show Builtin.Str.tooLong (1 * 1001) = false
    decide +kernel
/-- all but the tables and what is at p stays -/
def Kp (p : Addr) (H H' : Hp) : Prop := ∀ b o, b ≠ p → (∀ ps, o ≠ .tbl ps) → H b = some o → H' b = some o
theorem Kp.refl (p : Addr) (H : Hp) : Kp p H H := fun _ _ _ _ h => h
theorem Kp.trans {p : Addr} {H H1 H2 : Hp} (a : Kp p H H1) (b : Kp p H1 H2) : Kp p H H2 := fun c o n t h => b c o n t (a c o n t h)
theorem Kp.sb {p : Addr} {H H' : Hp} (s : Sb p H H') : Kp p H H' := fun b o n _ h => s b o n h
theorem Kp.of {p : Addr} {H H' : Hp} (s : Same H H') : Kp p H H' := fun b o _ _ h => s b o h
theorem Kp.ext {p : Addr} {H H' : Hp} (s : ExtN H H') : Kp p H H' := fun b o _ t h => s b o h t
theorem Tabs.sb_ {T : List (Addr × Str)} {p : Addr} {H H' : Hp} (t : Tabs T H) (w : Wl H p) (s : Sb p H H') : Tabs T H' := fun q hq => by
  obtain ⟨ps, h1, h2, h3⟩ := t q hq
  refine ⟨ps, s _ _ (w.ne h1 fun a b c z => by cases z) h1, h2, fun pos cv hc => ?_⟩
  obtain ⟨c, e1, e2⟩ := h3 pos cv hc
  exact ⟨c, e1, s _ _ (w.ne e2 fun a b c z => by cases z) e2⟩
theorem Wl.ext_ {H H' : Hp} {p : Addr} (w : Wl H p) (s : ExtN H H') : Wl H' p := by
  obtain ⟨w0, w1, w2, a0, a1, e⟩ := w
  exact ⟨w0, w1, w2, a0, a1, s _ _ e fun _ z => by cases z⟩
theorem call_reprLK {X : Cx} {K : PySem.W.Frag} (h : X.K = K) (hg : X.A.guards = some []) (hu : X.A.units + 64 < cLine) : CallR X (.builtin "repr") (rRepr K) := by subst h; exact call_reprL hg hu
def Low (y : Str) : Prop := ∀ c ∈ y.cps.toList, c < 256
theorem Low.app {a b : Str} (h1 : Low a) (h2 : Low b) : Low (a ++ b) := fun c hc => by
  rw [cps_app] at hc
  rcases List.mem_append.mp hc with m | m
  · exact h1 c m
  · exact h2 c m
theorem reprChar_low : ∀ c, c < 256 → ∀ q ∈ [39, 34], (reprChar q c).all (fun e => decide (e < 256)) = true := by decide +kernel
theorem fold_low (q : Nat) (hq : q ∈ [39, 34]) : ∀ (l : List Nat) (acc : Array Nat), (∀ c ∈ l, c < 256) → (∀ c ∈ acc.toList, c < 256) → ∀ c ∈ (l.foldl (fun out c => out ++ (reprChar q c).toArray) acc).toList, c < 256
  | [], acc, _, h => h
  | d :: r, acc, h1, h2 => by
    refine fold_low q hq r _ (fun c hc => h1 c (by simp [hc])) fun c hc => ?_
    simp only [Array.toList_append, List.mem_append] at hc
    rcases hc with m | m
    · exact h2 c m
    · exact of_decide_eq_true (List.all_eq_true.mp (reprChar_low d (h1 d (by simp)) q hq) c m)
theorem repr_low {x : Str} (h : Low x) : Low (reprText x) := fun c hc => by
  have hq : reprQuote x ∈ [39, 34] := by
    unfold reprQuote
    split <;> simp
  unfold reprText at hc
  simp only [Array.toList_push, List.mem_append, List.mem_singleton] at hc
  have q0 : reprQuote x < 256 := by
    simp only [List.mem_cons, List.not_mem_nil, or_false] at hq
    omega
  rcases hc with m | m
  · rw [← Array.foldl_toList] at m
    exact fold_low _ hq _ _ h (fun d hd => by
      have : d = reprQuote x := by simpa using hd
      rw [this]; exact q0) c m
  · rw [m]; exact q0
theorem repr_short {x : Str} (h : Low x) : (reprText x).length ≤ 10 * x.length + 2 := StrLaws.reprText_len x fun c hc => Nat.lt_trans (h c hc) (by decide)
/-- what repr(["row", d]) is asked for -/
structure Gd (d : PyData) : Prop where
  sh : PyData.showableAll [.str "row", d] = true
  ln : (PyData.list [.str "row", d]).shown.length ≤ sizeLine
  dp : (PyData.list [.str "row", d]).depth ≤ 60
  ok : PyData.strOk (PyData.list [.str "row", d]).shown = true
theorem menu_gd : ∀ d ∈ menu, Gd d := by
  have h : ∀ d ∈ menu, PyData.showableAll [.str "row", d] = true ∧ (PyData.list [.str "row", d]).shown.length ≤ sizeLine ∧ (PyData.list [.str "row", d]).depth ≤ 60 ∧ PyData.strOk (PyData.list [.str "row", d]).shown = true := by decide +kernel
  exact fun d hd => let ⟨a, b, c, e⟩ := h d hd; ⟨a, b, c, e⟩
theorem row_text (t : Str) : listText [reprText "row", t] = ("['row', " : Str) ++ t ++ "]" := by
  have e : textFrom 0 "[" [reprText "row", t] = ("['row', " : Str) ++ t := by
    show (("[" : Str) ++ ("" : Str) ++ reprText "row") ++ (", " : Str) ++ t = _
    have : (("[" : Str) ++ ("" : Str) ++ reprText "row") ++ (", " : Str) = "['row', " := by decide +kernel
    rw [this]
  unfold listText
  rw [e]
theorem gd_of {d : PyData} (h1 : d.showable = true) (h2 : d.shown.length ≤ 20000) (h3 : d.depth ≤ 50) (h4 : Low d.shown) : Gd d := by
  have e : (PyData.list [.str "row", d]).shown = ("['row', " : Str) ++ d.shown ++ "]" := by
    rw [← row_text]
    simp only [PyData.shown, PyData.shownAll]
  refine ⟨?_, ?_, ?_, ?_⟩
  · simp only [PyData.showableAll, PyData.showable, h1, Bool.and_self]
  · rw [e, len_app, len_app]
    have a : ("['row', " : Str).length = 8 := by decide +kernel
    have b : ("]" : Str).length = 1 := by decide +kernel
    rw [a, b, sizeLine_eq]
    omega
  · simp only [PyData.depth, PyData.depthAll]
    omega
  · rw [e]
    exact ok_low (Low.app (Low.app (by unfold Low; decide +kernel) h4) (by unfold Low; decide +kernel))
theorem gd_str {r : Str} (h : Low r) (hl : r.length ≤ 1100) : Gd (.str r) := by
  have := repr_short h
  refine gd_of (by simp only [PyData.showable]) ?_ (by simp only [PyData.depth]; omega) ?_
  · simp only [PyData.shown]
    omega
  · simp only [PyData.shown]
    exact repr_low h
theorem gd_list {r : Str} (h : Low r) (hl : r.length ≤ 1100) : Gd (.list [.str r]) := by
  have := repr_short h
  have e : (PyData.list [.str r]).shown = ("[" : Str) ++ reprText r ++ "]" := by
    simp only [PyData.shown, PyData.shownAll]
    unfold listText
    show (("[" : Str) ++ ("" : Str) ++ reprText r) ++ "]" = _
    have : ("[" : Str) ++ ("" : Str) = "[" := by decide +kernel
    rw [this]
  refine gd_of (by simp only [PyData.showable, PyData.showableAll, Bool.and_self]) ?_ (by simp only [PyData.depth, PyData.depthAll]; omega) ?_
  · rw [e, len_app, len_app]
    have a : ("[" : Str).length = 1 := by decide +kernel
    have b : ("]" : Str).length = 1 := by decide +kernel
    omega
  · rw [e]
    exact Low.app (Low.app (by unfold Low; decide +kernel) (repr_low h)) (by unfold Low; decide +kernel)
theorem gd_tup {r : Str} (h : Low r) (hl : r.length ≤ 1100) : Gd (.tuple [.str r]) := by
  have := repr_short h
  have e : (PyData.tuple [.str r]).shown = ("(" : Str) ++ reprText r ++ ",)" := by
    simp only [PyData.shown, PyData.shownAll]
    rfl
  refine gd_of (by simp only [PyData.showable, PyData.showableAll, Bool.and_self]) ?_ (by simp only [PyData.depth, PyData.depthAll]; omega) ?_
  · rw [e, len_app, len_app]
    have a : ("(" : Str).length = 1 := by decide +kernel
    have b : (",)" : Str).length = 2 := by decide +kernel
    omega
  · rw [e]
    exact Low.app (Low.app (by unfold Low; decide +kernel) (repr_low h)) (by unfold Low; decide +kernel)
mutual
theorem Sh.ext {K : PySem.W.Frag} {H H' : Hp} (s : ExtN H H') : ∀ {v : V} {d : PyData}, Sh K H v d → Sh K H' v d
  | _, _, .fl f => .fl f
  | _, _, .lst h t => .lst (by
      rcases h with (h | ⟨o, h⟩) | h
      · exact .inl (.inl (s _ _ h fun _ z => by cases z))
      · exact .inl (.inr ⟨o, s _ _ h fun _ z => by cases z⟩)
      · exact .inr h) (ShAll.ext s t)
  | _, _, .tup h t => .tup (by
      rcases h with (h | ⟨o, h⟩) | h
      · exact .inl (.inl (s _ _ h fun _ z => by cases z))
      · exact .inl (.inr ⟨o, s _ _ h fun _ z => by cases z⟩)
      · exact .inr h) (ShAll.ext s t)
  | _, _, .dic h a b => .dic (s _ _ h fun _ z => by cases z) a b
theorem ShAll.ext {K : PySem.W.Frag} {H H' : Hp} (s : ExtN H H') : ∀ {vs : List V} {ds : List PyData}, ShAll K H vs ds → ShAll K H' vs ds
  | _, _, .nil => .nil
  | _, _, .cons a b => .cons (Sh.ext s a) (ShAll.ext s b)
end
theorem Kp.cut {p : Addr} {H H' : Hp} (s : Kp p H H') : ExtN (del H p) (del H' p) := fun b o e t => by
  by_cases hb : b = p
  · rw [hb, del_same] at e; cases e
  · rw [del_ne hb] at e ⊢
    exact s b o hb t e
theorem ext_of_del {H : Hp} {p : Addr} : ExtN (del H p) H := fun b o e _ => by
  by_cases hb : b = p
  · rw [hb, del_same] at e; cases e
  · rw [del_ne hb] at e; exact e
theorem sb_of_del {p : Addr} {H H' : Hp} (s : Same (del H p) (del H' p)) : Sb p H H' := fun b o n e => by
  have := s b o (by rw [del_ne n]; exact e)
  rw [del_ne n] at this
  exact this
/-- a text, or of another type -/
theorem sh_ty {K : PySem.W.Frag} {H : Hp} {v : V} {d : PyData} (h : Sh K H v d) : (∃ r, v = .str r ∧ d = .str r) ∨ ∃ ty, TyX K H v ty ∧ PySem.W.kitOne K ty (.type "str") = some false := by
  cases h with
  | fl f =>
    cases f with
    | non => exact .inr ⟨_, .base .non, kit_ty (by decide +kernel)⟩
    | bl b => exact .inr ⟨_, .base (.bl b), kit_ty (by decide +kernel)⟩
    | int i => exact .inr ⟨_, .base (.int i), kit_ty (by decide +kernel)⟩
    | str x => exact .inl ⟨x, rfl, rfl⟩
  | lst h t =>
    rcases h with (h | ⟨o, h⟩) | ⟨o, its, n, hk, hc, _⟩
    · exact .inr ⟨_, .base (.lst h), kit_ty (by decide +kernel)⟩
    · exact .inr ⟨_, .base (.frz h), kit_ty (by decide +kernel)⟩
    · exact .inr ⟨_, .kList hk hc, kit_ty (by decide +kernel)⟩
  | tup h t =>
    rcases h with (h | ⟨o, h⟩) | ⟨o, its, n, hk, hc, _⟩
    · exact .inr ⟨_, .base (.tup h), kit_ty (by decide +kernel)⟩
    · exact .inr ⟨_, .fTuple h, kit_ty (by decide +kernel)⟩
    · exact .inr ⟨_, .kTuple hk hc, kit_ty (by decide +kernel)⟩
  | dic h a b => exact .inr ⟨_, .base (.dK h), kit_ty (by decide +kernel)⟩
theorem row_is {x r : Str} (h1 : r.length ≤ 1000) (h2 : ∀ c ∈ r.cps.toList, c ∈ x.cps.toList) : isRowL x r = true := by
  unfold isRowL
  rw [decide_eq_true h1, Bool.true_and]
  exact List.all_eq_true.mpr fun c hc => decide_eq_true (h2 c hc)
theorem cut_sub (r : Str) (lo hi : Option Int) : ∀ c ∈ (cutS r lo hi).cps.toList, c ∈ r.cps.toList := fun c hc => by
  unfold cutS at hc
  exact List.mem_of_mem_drop (List.mem_of_mem_take (by simpa using hc))
theorem many_low {c : Nat} (h : c < 256) : Low (manyS c) := fun d hd => by
  unfold manyS at hd
  have : d = c := by simpa using hd
  rw [this]; exact h
theorem many_len (c : Nat) : (manyS c).length = 1001 := by
  show ((List.replicate 1001 c).toArray).size = 1001
  rw [List.size_toArray, List.length_replicate]
theorem sg_low {c : Nat} (h : c < 256) : Low (sg c) := fun d hd => by
  have : d = c := by simpa using hd
  rw [this]; exact h
theorem menu_str (z : Str) (h : PyData.str z ∈ menu) : Low z ∧ z.length ≤ 1100 := by
  have a : ∀ d ∈ menu, (match d with | .str z => z.cps.toList.all (fun c => decide (c < 256)) && decide (z.length ≤ 1100) | _ => true) = true := by decide +kernel
  have b := a _ h
  simp only [Bool.and_eq_true] at b
  exact ⟨fun c hc => of_decide_eq_true (List.all_eq_true.mp b.1 c hc), of_decide_eq_true b.2⟩
theorem Tabs.off {T : List (Addr × Str)} {l : Addr} {H : Hp} {xs : List V} {o : HO} (t : Tabs T H) (e : H l = some (.lst xs)) : Tabs T (upd H l o) := fun q hq => by
  obtain ⟨ps, h1, h2, h3⟩ := t q hq
  refine ⟨ps, by rw [upd_ne (ne_of h1 e (by intro z; cases z))]; exact h1, h2, fun pos cv hc => ?_⟩
  obtain ⟨c, e1, e2⟩ := h3 pos cv hc
  exact ⟨c, e1, by rw [upd_ne (ne_of e2 e (by intro z; cases z))]; exact e2⟩
end My
namespace My
open PySem PySem.Spec PyProof.Rows L2 PySem.GX L2H
abbrev wd : List Str := ["text", "row", "kind", "number", "mood", "sign", "paper", "rule", "others", "many", "kept"]
abbrev cn : List Str := ["InvalidText", "InvalidRow", "InvalidKind", "InvalidNumber", "InvalidMood", "InvalidSign", "InvalidPaper", "NotARule", "OtherSigns", "TooMany", "Kept"]
/-- the lists at as hold pairs of a text and a bool -/
inductive Rp (H : Hp) : List Addr → List (Str × Bool) → Prop
  | nil : Rp H [] []
  | cons {a : Addr} {x : Str} {b : Bool} {as : List Addr} {rs : List (Str × Bool)} : H a = some (.lst [.str x, .bl b]) → Rp H as rs → Rp H (a :: as) ((x, b) :: rs)
theorem Rp.same {H H' : Hp} (s : Same H H') : ∀ {as : List Addr} {rs : List (Str × Bool)}, Rp H as rs → Rp H' as rs
  | _, _, .nil => .nil
  | _, _, .cons e t => .cons (s _ _ e) (Rp.same s t)
theorem Rp.len {H : Hp} : ∀ {as : List Addr} {rs : List (Str × Bool)}, Rp H as rs → as.length = rs.length
  | _, _, .nil => rfl
  | _, _, .cons _ t => by simp [Rp.len t]
theorem Rp.app {H : Hp} : ∀ {as bs : List Addr} {rs us : List (Str × Bool)}, Rp H as rs → Rp H bs us → Rp H (as ++ bs) (rs ++ us)
  | _, _, _, _, .nil, t => t
  | _, _, _, _, .cons e r, t => .cons e (Rp.app r t)
theorem Rp.get {H : Hp} : ∀ {as : List Addr} {rs : List (Str × Bool)} {i : Nat} {a : Addr} {r : Str × Bool}, Rp H as rs → as[i]? = some a → rs[i]? = some r → H a = some (.lst [.str r.1, .bl r.2])
  | _, _, _, _, _, .nil, e, _ => by simp at e
  | _, _, 0, _, _, .cons e _, e1, e2 => by simp at e1 e2; subst e1; subst e2; exact e
  | _, _, i + 1, a, r, .cons _ t, e1, e2 => Rp.get (i := i) t (by simpa using e1) (by simpa using e2)
/-- the list l holds such pairs; what stood in H0 stands -/
structure Sp2 (H0 H : Hp) (l : Addr) (rs : List (Str × Bool)) : Prop where
  sm : Same H0 H
  ex : ∃ as : List Addr, H l = some (.lst (as.map V.ref)) ∧ Rp H as rs
theorem sp2_new {H0 H : Hp} {q1 q2 l : Addr} {x1 x2 : Str} {b1 b2 : Bool} (s : Same H0 H) (h1 : H q1 = none) (h2 : upd H q1 (.lst [.str x1, .bl b1]) q2 = none) (h3 : upd (upd H q1 (.lst [.str x1, .bl b1])) q2 (.lst [.str x2, .bl b2]) l = none) :
    Sp2 H0 (upd (upd (upd H q1 (.lst [.str x1, .bl b1])) q2 (.lst [.str x2, .bl b2])) l (.lst [.ref q1, .ref q2])) l [(x1, b1), (x2, b2)] :=
  ⟨((s.trans (same_new h1)).trans (same_new h2)).trans (same_new h3), [q1, q2], upd_same, .cons (keep1 (keep1 upd_same h2) h3) (.cons (keep1 upd_same h3) .nil)⟩
theorem sp2_cat {H0 H H' : Hp} {l l2 l3 : Addr} {rs us : List (Str × Bool)} {as bs : List Addr} (s : Same H H') (h : Same H0 H) (el : H l = some (.lst (as.map V.ref))) (ra : Rp H as rs) (e2 : H' l2 = some (.lst (bs.map V.ref))) (rb : Rp H' bs us) (h3 : H' l3 = none) :
    Sp2 H0 (upd H' l3 (.lst (as.map V.ref ++ bs.map V.ref))) l3 (rs ++ us) :=
  ⟨(h.trans s).trans (same_new h3), as ++ bs, by rw [upd_same, List.map_append], ((ra.same s).app rb).same (same_new h3)⟩
theorem sp2_step {H0 H : Hp} {l q1 q2 l2 l3 : Addr} {rs : List (Str × Bool)} {as : List Addr} {x1 x2 : Str} {b1 b2 : Bool} (s0 : Same H0 H) (el : H l = some (.lst (as.map V.ref))) (ra : Rp H as rs) (h1 : H q1 = none) (h2 : upd H q1 (.lst [.str x1, .bl b1]) q2 = none)
    (h3 : upd (upd H q1 (.lst [.str x1, .bl b1])) q2 (.lst [.str x2, .bl b2]) l2 = none) (h4 : upd (upd (upd H q1 (.lst [.str x1, .bl b1])) q2 (.lst [.str x2, .bl b2])) l2 (.lst [.ref q1, .ref q2]) l3 = none) :
    Sp2 H0 (upd (upd (upd (upd H q1 (.lst [.str x1, .bl b1])) q2 (.lst [.str x2, .bl b2])) l2 (.lst [.ref q1, .ref q2])) l3 (.lst (as.map V.ref ++ [.ref q1, .ref q2]))) l3 (rs ++ [(x1, b1), (x2, b2)]) :=
  sp2_cat (bs := [q1, q2]) (((same_new h1).trans (same_new h2)).trans (same_new h3)) s0 el ra upd_same (.cons (keep1 (keep1 upd_same h2) h3) (.cons (keep1 upd_same h3) .nil)) h4
def spClass (p : Addr × Obj) (d : Addr) (i : Nat) : Sp := fun vs H Q _ => ∃ fs : List (Str × V), vs = [.ref p.1] ∧ H d = some (exd d fs) ∧ ∀ H', Same H H' → Q (.str (wd.getD i Str.empty)) H'
theorem class_one : ∀ i, i < 11 → ([("text", decide (0 = i)), ("row", decide (1 = i)), ("kind", decide (2 = i)), ("number", decide (3 = i)), ("mood", decide (4 = i)), ("sign", decide (5 = i)), ("paper", decide (6 = i)), ("rule", decide (7 = i)), ("others", decide (8 = i)), ("many", decide (9 = i)), ("kept", decide (10 = i))] : List (Str × Bool)).filterMap (fun r => if r.2 = true then some r.1 else none) = [wd.getD i Str.empty] := by decide +kernel
section
variable {P : Program} {w : World} {K : PySem.W.Frag} {mg : Str → Option Value} {base : Heap} {p : Addr × Obj} {C d : Addr} {c : Nat → Addr} {i : Nat}
abbrev nClass : List Str := ["_law_e", "_law_sorts", "_law_found", "_law_word", "_law_fits"]
theorem scClass : FnScope nClass ["_law_e"] (defScope sClass) := ⟨rfl, rfl, rfl, by decide +kernel, rfl, by decide +kernel, by decide +kernel⟩
theorem ok_class {f : Addr} {fd : FuncData} (F : Fun K "_law_class" "_law_class" sClass f fd) (hp : PIs p C d) (T : ExcC K C) (hi : i < 11) (gc : ∀ j, j < 11 → mg (cn.getD j Str.empty) = some (.ref (c j))) (kits : ∀ j, j < 11 → PySem.W.kitOne K (.ref C) (.ref (c j)) = some (decide (j = i)))
    (hIs : mg "isinstance" = none) (hL : mg "len" = none) : FnE p P w K mg base 1 f fd ["_law_e"] (spClass p d i) := by
  refine F.okE scClass (fun vs H Q E h => ?_) (fun cdv A outer s H vs Q E hot hr h => ?_)
  · obtain ⟨fs, rfl, _⟩ := h
    rfl
  · obtain ⟨fs, rfl, hd, k⟩ := h
    have hb : Hb (cxH CX0 P w K mg base nClass "_law_class" (defScope sClass) f cdv A outer s H E p) p := Hb.of_pn hot.1 hot.2 (List.mem_singleton.mpr rfl)
    refine ⟨_, pss_cons (ps_set (i := 1) scClass.nd rfl (Or.inl rfl) (pe_lst (pa_cons (pe_lst (pa_cons pe_str (pa_cons (pe_callB (call_isP hb hp T) (by rfl) hIs (by decide +kernel) (pa_cons (pv 0) (pa_cons (pe_glob (v := .ref (c 0)) rfl (gc 0 (by decide)) rfl) pa_nil))) pa_nil)))
          (pa_cons (pe_lst (pa_cons pe_str (pa_cons (pe_callB (call_isP hb hp T) (by rfl) hIs (by decide +kernel) (pa_cons (pv 0) (pa_cons (pe_glob (v := .ref (c 1)) rfl (gc 1 (by decide)) rfl) pa_nil))) pa_nil))) pa_nil))))
      (pss_cons (ps_set (i := 1) scClass.nd rfl (Or.inl rfl) (pe_op op_cat (pv 1) (pe_lst (pa_cons (pe_lst (pa_cons pe_str (pa_cons (pe_callB (call_isP hb hp T) (by rfl) hIs (by decide +kernel) (pa_cons (pv 0) (pa_cons (pe_glob (v := .ref (c 2)) rfl (gc 2 (by decide)) rfl) pa_nil))) pa_nil)))
          (pa_cons (pe_lst (pa_cons pe_str (pa_cons (pe_callB (call_isP hb hp T) (by rfl) hIs (by decide +kernel) (pa_cons (pv 0) (pa_cons (pe_glob (v := .ref (c 3)) rfl (gc 3 (by decide)) rfl) pa_nil))) pa_nil))) pa_nil)))))
      (pss_cons (ps_set (i := 1) scClass.nd rfl (Or.inl rfl) (pe_op op_cat (pv 1) (pe_lst (pa_cons (pe_lst (pa_cons pe_str (pa_cons (pe_callB (call_isP hb hp T) (by rfl) hIs (by decide +kernel) (pa_cons (pv 0) (pa_cons (pe_glob (v := .ref (c 4)) rfl (gc 4 (by decide)) rfl) pa_nil))) pa_nil)))
          (pa_cons (pe_lst (pa_cons pe_str (pa_cons (pe_callB (call_isP hb hp T) (by rfl) hIs (by decide +kernel) (pa_cons (pv 0) (pa_cons (pe_glob (v := .ref (c 5)) rfl (gc 5 (by decide)) rfl) pa_nil))) pa_nil))) pa_nil)))))
      (pss_cons (ps_set (i := 1) scClass.nd rfl (Or.inl rfl) (pe_op op_cat (pv 1) (pe_lst (pa_cons (pe_lst (pa_cons pe_str (pa_cons (pe_callB (call_isP hb hp T) (by rfl) hIs (by decide +kernel) (pa_cons (pv 0) (pa_cons (pe_glob (v := .ref (c 6)) rfl (gc 6 (by decide)) rfl) pa_nil))) pa_nil)))
          (pa_cons (pe_lst (pa_cons pe_str (pa_cons (pe_callB (call_isP hb hp T) (by rfl) hIs (by decide +kernel) (pa_cons (pv 0) (pa_cons (pe_glob (v := .ref (c 7)) rfl (gc 7 (by decide)) rfl) pa_nil))) pa_nil))) pa_nil)))))
      (pss_cons (ps_set (i := 1) scClass.nd rfl (Or.inl rfl) (pe_op op_cat (pv 1) (pe_lst (pa_cons (pe_lst (pa_cons pe_str (pa_cons (pe_callB (call_isP hb hp T) (by rfl) hIs (by decide +kernel) (pa_cons (pv 0) (pa_cons (pe_glob (v := .ref (c 8)) rfl (gc 8 (by decide)) rfl) pa_nil))) pa_nil)))
          (pa_cons (pe_lst (pa_cons pe_str (pa_cons (pe_callB (call_isP hb hp T) (by rfl) hIs (by decide +kernel) (pa_cons (pv 0) (pa_cons (pe_glob (v := .ref (c 9)) rfl (gc 9 (by decide)) rfl) pa_nil))) pa_nil)))
          (pa_cons (pe_lst (pa_cons pe_str (pa_cons (pe_callB (call_isP hb hp T) (by rfl) hIs (by decide +kernel) (pa_cons (pv 0) (pa_cons (pe_glob (v := .ref (c 10)) rfl (gc 10 (by decide)) rfl) pa_nil))) pa_nil))) pa_nil))))))
      (pss_cons (ps_setLcE (i := 2) (own := [("_law_word", 3), ("_law_fits", 4)]) (g := gUnl K 2 (gCons (gName 3) (gCons (gName 4) gNil))) (List.mem_singleton.mpr rfl) hb scClass.nd rfl rfl (sw_true rfl rfl rfl (by decide +kernel)) (pv 1)
          (blkOk_by (N := nClass) (sc := defScope sClass) (by decide +kernel)) (fun _ _ _ _ _ hbb => pg_unlE rfl hbb (pgs_cons (pg_name (i := 3) scClass.nd rfl (Or.inl rfl)) (pgs_cons (pg_name (i := 4) scClass.nd rfl (Or.inl rfl)) pgs_nil)))
          (fun _ _ _ _ _ => pts_one (pt_val (pv 4))) (fun _ _ _ _ _ => pv 3))
      (pss_one (ps_ret (pe_ifExp (pt_cmpR op_eq (pe_callB call_len_seq (by rfl) hL PySem.boot_len (pa_cons (pv 2) pa_nil)) pe_int (nomark _)) (pe_ix ix_list (pv 2) pe_int (fun _ _ => rfl)) pe_str)))))))), ?_⟩
    have two : 2 ≤ sizeLine := by decide
    have three : 3 ≤ sizeLine := by decide
    refine ⟨_, rfl, .ref (c 0), .ref (c 0), decide (0 = i), fs, rfl, hd, .own _, kits 0 (by decide), two, fun q1 h1 => ?_⟩
    refine ⟨_, rfl, .ref (c 1), .ref (c 1), decide (1 = i), fs, rfl, keep1 hd h1, .own _, kits 1 (by decide), two, fun q2 h2 => ⟨two, fun l1 h3 => ?_⟩⟩
    have S := sp2_new (x1 := "text") (x2 := "row") (b1 := decide (0 = i)) (b2 := decide (1 = i)) (Same.refl H) h1 h2 h3
    generalize upd (upd (upd H q1 _) q2 _) l1 _ = H1 at S ⊢
    clear h1 h2 h3
    obtain ⟨s1, as1, el1, ra1⟩ := S
    refine ⟨_, rfl, _, rfl, .ref (c 2), .ref (c 2), decide (2 = i), fs, rfl, s1 _ _ hd, .own _, kits 2 (by decide), two, fun q1 h1 => ?_⟩
    refine ⟨_, rfl, .ref (c 3), .ref (c 3), decide (3 = i), fs, rfl, keep1 (s1 _ _ hd) h1, .own _, kits 3 (by decide), two, fun q2 h2 => ⟨two, fun m1 h3 => ?_⟩⟩
    refine ⟨l1, m1, _, _, rfl, rfl, keep1 (keep1 (keep1 el1 h1) h2) h3, upd_same, ?_, fun l2 h4 => ?_⟩
    · have z := ra1.len
      rw [List.length_map, sizeLine_eq]
      simp only [List.length_cons, List.length_append, List.length_nil] at z ⊢
      omega
    have S := sp2_step (x1 := "kind") (x2 := "number") (b1 := decide (2 = i)) (b2 := decide (3 = i)) s1 el1 ra1 h1 h2 h3 h4
    generalize upd (upd (upd (upd H1 q1 _) q2 _) m1 _) l2 _ = H2 at S ⊢
    clear h1 h2 h3 h4 el1 ra1
    obtain ⟨s2, as2, el2, ra2⟩ := S
    refine ⟨_, rfl, _, rfl, .ref (c 4), .ref (c 4), decide (4 = i), fs, rfl, s2 _ _ hd, .own _, kits 4 (by decide), two, fun q1 h1 => ?_⟩
    refine ⟨_, rfl, .ref (c 5), .ref (c 5), decide (5 = i), fs, rfl, keep1 (s2 _ _ hd) h1, .own _, kits 5 (by decide), two, fun q2 h2 => ⟨two, fun m1 h3 => ?_⟩⟩
    refine ⟨l2, m1, _, _, rfl, rfl, keep1 (keep1 (keep1 el2 h1) h2) h3, upd_same, ?_, fun l3 h4 => ?_⟩
    · have z := ra2.len
      rw [List.length_map, sizeLine_eq]
      simp only [List.length_cons, List.length_append, List.length_nil] at z ⊢
      omega
    have S := sp2_step (x1 := "mood") (x2 := "sign") (b1 := decide (4 = i)) (b2 := decide (5 = i)) s2 el2 ra2 h1 h2 h3 h4
    generalize upd (upd (upd (upd H2 q1 _) q2 _) m1 _) l3 _ = H3 at S ⊢
    clear h1 h2 h3 h4 el2 ra2
    obtain ⟨s3, as3, el3, ra3⟩ := S
    refine ⟨_, rfl, _, rfl, .ref (c 6), .ref (c 6), decide (6 = i), fs, rfl, s3 _ _ hd, .own _, kits 6 (by decide), two, fun q1 h1 => ?_⟩
    refine ⟨_, rfl, .ref (c 7), .ref (c 7), decide (7 = i), fs, rfl, keep1 (s3 _ _ hd) h1, .own _, kits 7 (by decide), two, fun q2 h2 => ⟨two, fun m1 h3 => ?_⟩⟩
    refine ⟨l3, m1, _, _, rfl, rfl, keep1 (keep1 (keep1 el3 h1) h2) h3, upd_same, ?_, fun l4 h4 => ?_⟩
    · have z := ra3.len
      rw [List.length_map, sizeLine_eq]
      simp only [List.length_cons, List.length_append, List.length_nil] at z ⊢
      omega
    have S := sp2_step (x1 := "paper") (x2 := "rule") (b1 := decide (6 = i)) (b2 := decide (7 = i)) s3 el3 ra3 h1 h2 h3 h4
    generalize upd (upd (upd (upd H3 q1 _) q2 _) m1 _) l4 _ = H4 at S ⊢
    clear h1 h2 h3 h4 el3 ra3
    obtain ⟨s4, as4, el4, ra4⟩ := S
    refine ⟨_, rfl, _, rfl, .ref (c 8), .ref (c 8), decide (8 = i), fs, rfl, s4 _ _ hd, .own _, kits 8 (by decide), two, fun q1 h1 => ?_⟩
    refine ⟨_, rfl, .ref (c 9), .ref (c 9), decide (9 = i), fs, rfl, keep1 (s4 _ _ hd) h1, .own _, kits 9 (by decide), two, fun q2 h2 => ?_⟩
    refine ⟨_, rfl, .ref (c 10), .ref (c 10), decide (10 = i), fs, rfl, keep1 (keep1 (s4 _ _ hd) h1) h2, .own _, kits 10 (by decide), two, fun q3 h3 => ⟨three, fun m1 h4 => ?_⟩⟩
    refine ⟨l4, m1, _, _, rfl, rfl, keep1 (keep1 (keep1 (keep1 el4 h1) h2) h3) h4, upd_same, ?_, fun l5 h5 => ?_⟩
    · have z := ra4.len
      rw [List.length_map, sizeLine_eq]
      simp only [List.length_cons, List.length_append, List.length_nil] at z ⊢
      omega
    have S : Sp2 H (upd (upd (upd (upd (upd H4 q1 (.lst [.str "others", .bl (decide (8 = i))])) q2 (.lst [.str "many", .bl (decide (9 = i))])) q3 (.lst [.str "kept", .bl (decide (10 = i))])) m1 (.lst [.ref q1, .ref q2, .ref q3])) l5 (.lst (as4.map V.ref ++ [.ref q1, .ref q2, .ref q3]))) l5 _ :=
      sp2_cat (bs := [q1, q2, q3]) (us := [("others", decide (8 = i)), ("many", decide (9 = i)), ("kept", decide (10 = i))]) ((((same_new h1).trans (same_new h2)).trans (same_new h3)).trans (same_new h4)) s4 el4 ra4 upd_same (.cons (keep1 (keep1 (keep1 upd_same h2) h3) h4) (.cons (keep1 (keep1 upd_same h3) h4) (.cons (keep1 upd_same h4) .nil))) h5
    generalize upd (upd (upd (upd (upd H4 q1 _) q2 _) q3 _) m1 _) l5 _ = H5 at S ⊢
    clear h1 h2 h3 h4 h5 el4 ra4
    obtain ⟨s5, as5, el5, ra5⟩ := S
    generalize eR : ([("text", decide (0 = i)), ("row", decide (1 = i))] : List (Str × Bool)) ++ ([("kind", decide (2 = i)), ("number", decide (3 = i))] : List (Str × Bool)) ++ ([("mood", decide (4 = i)), ("sign", decide (5 = i))] : List (Str × Bool)) ++ ([("paper", decide (6 = i)), ("rule", decide (7 = i))] : List (Str × Bool)) ++ ([("others", decide (8 = i)), ("many", decide (9 = i)), ("kept", decide (10 = i))] : List (Str × Bool)) = rs at ra5
    have one : rs.filterMap (fun r => if r.2 = true then some r.1 else none) = [wd.getD i Str.empty] := by
      rw [← eR]
      exact class_one i hi
    have len11 : rs.length = 11 := by rw [← eR]; rfl
    clear eR
    refine ⟨_, rfl, l5, rfl, ⟨_, SqL.of el5⟩, fun D hD => ?_⟩
    refine lcG (as5.zip rs) (fun ar => if ar.2.2 = true then some (V.str ar.2.1) else none) (by rw [List.length_zip, ← ra5.len, Nat.min_self]; exact walk_listL as5 V.ref) (by rw [List.length_zip]; omega) hD (yat_same _) (fun H' s => SqL.of (s _ _ el5)) (fun j ar y H' H'' k1 hz sz hy k2 => ?_) (fun H6 s6 e6 => ?_)
    · obtain ⟨rfl, hy⟩ := hy
      rw [List.getElem?_zip_eq_some] at hz
      obtain rfl := map_get hz.1 hy
      have hrow := sz _ _ (ra5.get hz.1 hz.2)
      have kk := k2 _ (Same.refl _)
      refine ⟨ar.1, _, rfl, SqL.of hrow, rfl, _, _, rfl, _, _, rfl, rfl, rfl, _, rfl, _, rfl, ite2 (fun c => ?_) (fun c => ?_)⟩
      · rw [if_pos c] at kk
        exact ⟨_, rfl, kk⟩
      · rw [if_neg c] at kk
        exact kk
    have ez : (as5.zip rs).filterMap (fun ar => if ar.2.2 = true then some (V.str ar.2.1) else none) = [V.str (wd.getD i Str.empty)] := by
      have h1 : (as5.zip rs).map Prod.snd = rs := List.map_snd_zip (by rw [ra5.len]; exact Nat.le_refl _)
      have h2 : (as5.zip rs).filterMap (fun ar => if ar.2.2 = true then some (V.str ar.2.1) else none) = (((as5.zip rs).map Prod.snd).filterMap (fun r => if r.2 = true then some r.1 else none)).map V.str := by
        rw [List.filterMap_map, List.map_filterMap]
        congr 1
        funext ar
        by_cases hc : ar.2.2 = true
        · simp [hc]
        · simp [hc]
      rw [h2, h1, one]
      rfl
    rw [ez] at e6
    refine ⟨_, rfl, D, _, rfl, .inl (SqL.of e6), rfl, _, rfl, ite2 (fun cc => ?_) (fun cc => absurd (decide_eq_true rfl) cc)⟩
    exact ⟨_, rfl, D, _, _, _, rfl, rfl, SqL.of e6, atI_nat (j := 0) rfl, k _ (s5.trans s6)⟩
end
end My
namespace L2
open PySem PySem.Spec PyProof.Rows PySem.GX
/-! a set comprehension whose members are texts -/
theorem addT {P : Program} {w : World} {A : Around} {E : Value → Shared → Prop} {s : Shared} {a : Addr} {ys : List Str} {k : Str} {tk : Tok} {Q : Value → Shared → Prop} (R : SetT w s.heap a ys) (room : ys.length + 1 < scanBound)
    (done : ∀ h', Heap.SameBut a s.heap h' → SetT w h' a (ins ys k) → Q .none { s with heap := h', toks := s.toks + 1 }) : wpAny (model P w) A (call (.builtin "set.add") [.ref a, .str k tk]) Q E s := by
  have ty : s.TypeIs (.ref a) "set" := by
    obtain ⟨o, _, _, _, ho, hex, _⟩ := R
    exact ⟨o, ho, hex.1⟩
  refine wpAny_call_entry PySem.F.slot_set_add ty PySem.F.entry_set_add ?_ (PySem.F.args_set_add_2 (.ref a) (.str k tk))
  unfold Builtin.«set.add» Builtin.Frozenset.oneOther Builtin.Frozenset.addrOf setAdd
  simp only [bind_assoc, List.isEmpty_nil]
  refine wpAny_bind (wpAny_pure ?_)
  try dsimp only
  refine wpAny_bind (wpAny_pure ?_)
  try dsimp only
  refine wpAny_bind (wpAny_holding ?_)
  refine wpAny_bind ((PySem.strKind P w).pyHash (k := k) (strKind_is P w k tk) ?_)
  refine setT_add (s := { s with toks := s.toks + 1 }) R room fun b h' sb r => ?_
  show wpAny _ _ (ret Value.none) _ _ _
  exact wpAny_pure ⟨_, rfl, done h' sb r⟩
/-- D is the new set -/
def tScT (w : World) (wi : TI) (g : TG) (tt : TT) (te : TE) (vs : List Nat) : TE := fun σ H Q => wi σ H fun J H1 => ∀ D, H1 D = none → ∃ W : Nat → Nat → Hp → Prop, (∃ m, W 0 m (upd H1 D (SetTx w D []))) ∧ ∀ i m H, W i m H →
  (J.stop i H ∧ Q (.ref D) H) ∨ (J.go i H ∧ ∃ On : Hp → Prop, (∀ H', On H' → ∃ m', m' < m ∧ W (i + 1) m' H') ∧ ∀ x H', J.yld i H x H' → g x (wipe σ vs) H' fun σ2 H2 => wipe σ2 vs = wipe σ vs ∧ tt σ2 H2 fun b H3 =>
    if b = true then te σ2 H3 fun y H4 => ∃ ys k, y = .str k ∧ H4 D = some (SetTx w D ys) ∧ ys.length + 1 < scanBound ∧ On (upd H4 D (SetTx w D (ins ys k))) else On H3)
section
variable {X : Cx} {ex tg iter : Expr} {ifs : List Expr} {scope : Scope} {own : List (Str × Nat)} {pos : Pos} {wi : TI} {g : TG} {tt : TT} {te : TE}
theorem pe_scT (calm : X.calm = true) (hN : X.N.Nodup) (hi : PI X tg iter wi) (ok : BlkOk X.N X.env.scope scope own)
    (hg : ∀ (s : Shared) (H : Hp) (C : Addr) (cl : List (Str × Addr)) (fp : List Addr), PG (X.blk s H scope (compEnvC scope cl C X.env) fp) tg g)
    (ht : ∀ (s : Shared) (H : Hp) (C : Addr) (cl : List (Str × Addr)) (fp : List Addr), PTs (X.blk s H scope (compEnvC scope cl C X.env) fp) ifs tt)
    (hk : ∀ (s : Shared) (H : Hp) (C : Addr) (cl : List (Str × Addr)) (fp : List Addr), PE (X.blk s H scope (compEnvC scope cl C X.env) fp) ex te)
    (hs : ∀ x, foldedSetIterable iter X.env x = pure x := by intro _; rfl) :
    PE X (.SetComp ex [⟨tg, iter, ifs, 0⟩] scope pos) (tScT X.w wi g tt te (own.map (·.2))) := by
  refine ⟨fun pl s σ H Q I h => ?_⟩
  rw [PpSet.eval_SetComp]
  have frees : ∀ y ∈ scope.names, y.2 = .free → ∃ c, X.env.cells.lookup y.1 = some c := fun y hy e => by
    rcases ok.free y hy e with k | k
    · exact I.ok.has _ (.inl k)
    · exact I.ok.has _ (.inr k)
  refine wpAny_comprehension_free rfl hs (closure_ok frees) ok.kind (fun y hy e => by rw [ok.uniq y hy, e]) (thn (hi.run pl s σ H _ I h) fun _ sa ha => thn ha fun _ sb hb => ?_)
  obtain ⟨it, fp, tn, J, Hb, rfl, Ib, T, tb, okb, want⟩ := hb
  refine PpSet.newSet_ok (newEnv_comp ?_)
  -- the new set
  generalize eD : sb.heap.objs.size = D
  have freeD : Hb D = none := Ib.hok.fresh (Nat.le_of_eq eD)
  obtain ⟨W, ⟨m0, begins⟩, turn⟩ := want D freeD
  generalize esc : ({ sb with heap := sb.heap.push (L2.newSet X.w) } : Shared) = sc
  have hsc : sc.heap = sb.heap.push (L2.newSet X.w) := by rw [← esc]
  have Ic : Inv X pl σ (upd Hb D (SetTx X.w D [])) sc := by
    rw [← esc]
    refine Ib.laid (t' := sb.toks) (fun b o e => Heap.get?_push_of_some _ e) (Nat.le_of_eq eD) ?_
    rw [← eD]
    exact setTx_new (setT_fresh X.w)
  have old : ∀ b ∈ fp, b < sb.heap.objs.size := fun b hb => by
    obtain ⟨o, e, _⟩ := T.obj _ _ tb b hb
    exact Heap.lt_size e
  have okc : ∀ b ∈ fp, FpOk X pl (upd Hb D (SetTx X.w D [])) b ∧ b < sc.heap.objs.size := fun b hb => by
    have lt := old b hb
    refine ⟨⟨?_, (okb b hb).2⟩, ?_⟩
    · rw [upd_ne (by rw [← eD]; exact Nat.ne_of_lt lt)]
      exact (okb b hb).1
    · rw [hsc, Heap.size_push]
      exact Nat.lt_succ_of_lt lt
  have tc : tn 0 sc.heap := T.keep _ _ _ tb fun b _ o e => by
    rw [hsc]
    exact Heap.get?_push_of_some _ e
  -- the block
  have Id := block_start Ic ok hN okc
  have g1 := hg sc (upd Hb D (SetTx X.w D [])) sc.heap.objs.size (cellsFrom (sc.heap.objs.size + 1) scope.names (cloFrom X.env.cells scope.names [])) fp
  have g2 := ht sc (upd Hb D (SetTx X.w D [])) sc.heap.objs.size (cellsFrom (sc.heap.objs.size + 1) scope.names (cloFrom X.env.cells scope.names [])) fp
  have g3 := hk sc (upd Hb D (SetTx X.w D [])) sc.heap.objs.size (cellsFrom (sc.heap.objs.size + 1) scope.names (cloFrom X.env.cells scope.names [])) fp
  show codeAny _ _ (.compStart (.SetComp ex [⟨tg, iter, ifs, 0⟩] scope pos) 0 (.ref it) (.ref D) (compEnvC scope (cellsFrom (sc.heap.objs.size + 1) scope.names (cloFrom X.env.cells scope.names [])) sc.heap.objs.size X.env)) _
    { sc with heap := pushCells (sc.heap.push { cls := .type "dict", data := .dict #[] }) scope.names }
  have hid : ∀ b ∈ fp, (upd Hb D (SetTx X.w D [])) b = none := fun b hb => (okc b hb).1.1
  generalize eenv : compEnvC scope (cellsFrom (sc.heap.objs.size + 1) scope.names (cloFrom X.env.cells scope.names [])) sc.heap.objs.size X.env = env at Id g1 g2 g3 ⊢
  have eloc : env.locals = sc.heap.objs.size := by subst eenv; rfl
  generalize eHc : upd Hb D (SetTx X.w D []) = Hc at Ic Id g1 g2 g3 begins hid okc
  generalize esd : ({ sc with heap := pushCells (sc.heap.push { cls := .type "dict", data := .dict #[] }) scope.names } : Shared) = sd at Id ⊢
  have td : tn 0 sd.heap := T.keep _ _ _ tc fun b _ o e => by
    rw [← esd]
    exact pushCells_keeps _ _ _ _ (Heap.get?_push_of_some _ e)
  have fpOk : ∀ {σ' : St} {H' : Hp} {s' : Shared}, Inv (X.blk sc Hc scope env fp) [] σ' H' s' → (∀ b ∈ fp, H' b = none) → ∀ b ∈ fp, FpOk (X.blk sc Hc scope env fp) [] H' b := fun {σ' H' s'} I' free b hb => by
    refine ⟨free b hb, (I'.ok.exf b hb).1, I'.ok.exfs b hb, .inl hb, fun x c e => (I'.ok.exf b hb).2 x c e, fun p hp => ?_⟩
    exact absurd (show p ∈ ([] : List (Addr × Obj)) ++ [] from hp) (by simp)
  refine PpSet.codeAny_compStart_set ?lp (T.self X.A 0 _ _ _ td ?lp)
  refine PpSet.compLoopS_any (fun n s' => ∃ i H', Inv (X.blk sc Hc scope env fp) [] (wipe σ (own.map (·.2))) H' s' ∧ tn i s'.heap ∧ (∀ b ∈ fp, H' b = none) ∧ W i n H') ?_ m0 ⟨0, Hc, Id, td, hid, begins⟩
  rintro n se ⟨i, He, Ie, te, free, at_⟩
  rcases turn i n He at_ with ⟨stop, wish⟩ | ⟨goes, On, next, step⟩
  · refine thnF (T.done (X.blk sc Hc scope env fp) rfl rfl rfl calm i [] se _ He (fun _ _ => False) Ie (fpOk Ie free) te stop) fun r sf ⟨hr, If⟩ => ?_
    subst hr
    have back : Inv X pl σ He sf := Ic.call' (ch := fp) If.os If.base If.hok If.bare fun b hb => ⟨(okc b hb).1.2.2.2.1, (okc b hb).1.2.1, (okc b hb).1.2.2.2.2.1, (okc b hb).1.2.2.2.2.2⟩
    have noC : He sc.heap.objs.size = none := by
      have z : He env.locals = none := If.free
      rw [eloc] at z
      exact z
    obtain ⟨m, hn, _⟩ := If.loc
    have hn' : sf.heap.Ns env.locals m := hn
    rw [eloc] at hn'
    obtain ⟨f0, f1, f2, f3, f4, f5⟩ := Ic.fpOk (Nat.le_refl _) noC
    exact ⟨m, hn', fun h'' sb' => ⟨.ref D, He, back.turned (t' := sf.toks) (fun b o hb e => (sb'.2 b hb).trans e) f0 f1 f3 f4 f5, rfl, wish⟩⟩
  · refine thnF (T.item (X.blk sc Hc scope env fp) rfl rfl rfl calm i [] se _ He (fun _ _ => False) Ie (fpOk Ie free) te goes) fun r sf ⟨u, hr, hf⟩ => ?_
    subst hr
    refine thnF hf fun _ sg ⟨x, Hg, Ig, rg, yg, tg', freeg⟩ => ?_
    have pinned := Ig.pinned (fpOk Ig freeg) (T.obj _ _ tg')
    refine thnF (g1.run _ sg _ Hg x u _ pinned rg (step x Hg yg)) fun _ sh ⟨σh, Hh, Ih, wh, qh⟩ => ?_
    refine thnF (g2.run _ sh σh Hh _ Ih qh) fun b si ⟨Hi, Ii, qi⟩ => ?_
    have ends : ∀ {s' : Shared} {H' : Hp}, Inv (X.blk sc Hc scope env fp) ([] ++ pinsAt fp sg.heap) σh H' s' → On H' →
        ∃ m, m < n ∧ ∃ i H', Inv (X.blk sc Hc scope env fp) [] (wipe σ (own.map (·.2))) H' s' ∧ tn i s'.heap ∧ (∀ b ∈ fp, H' b = none) ∧ W i m H' := fun {s' H'} I' on => by
      obtain ⟨m', lt, at'⟩ := next H' on
      have kept : ∀ b ∈ fp, ∀ o, sg.heap.get? b = some o → s'.heap.get? b = some o ∧ H' b = none := fun b hb o e => by
        have z := I'.pin (b, o) (List.mem_append_right _ (List.mem_append_right _ (mem_pinsAt hb e)))
        exact ⟨z.1, z.2.1⟩
      have len : (wipe σ (own.map (·.2))).length = σh.length := by
        rw [← wh, wipe_length]
      refine ⟨m', lt, i + 1, H', (I'.unpinned (pins := [])).weak len (fun j y e => ?_), T.keep _ _ _ tg' fun b hb o e => (kept b hb o e).1, fun b hb => ?_, at'⟩
      · rw [← wh] at e
        exact (wipe_some e).1
      · obtain ⟨o, e, _⟩ := T.obj _ _ tg' b hb
        exact (kept b hb o e).2
    cases b with
    | false =>
      simp only [Bool.false_eq_true, if_false] at qi ⊢
      exact ends Ii qi
    | true =>
      simp only [if_true] at qi ⊢
      refine thnF (g3.run _ si σh Hi _ Ii qi) fun z sj ⟨yk, Hj, Ij, rj, ys, k, ek, eDk, few, on⟩ => ?_
      subst ek
      obtain ⟨tk, rfl⟩ := rj
      have R : SetT X.w sj.heap D ys := (Ij.hok D _ eDk).1
      refine addT R few fun h' sb' new => ends (Ij.write (e := D) (t' := sj.toks + 1) (by rw [eDk]; trivial) (.inl rfl) (fun b u hb hu => (sb'.2 b hb).trans hu) ?_ (setTx_new new)) on
      obtain ⟨o, _, _, _, ho, _⟩ := new
      exact ⟨o, ho⟩
end
section
variable {w : World} {J : It} {G : Hp → Prop} {Y : Nat → Hp → V → Hp → Prop} {g : TG} {tt : TT} {te : TE} {vs : List Nat} {σ : St} {H1 : Hp} {D : Addr} {Qd : Hp → Prop}
/-- {e for x in ..}, xs the texts that e is, one after another -/
theorem scG (xs : List Str) (wk : Walk J xs.length G Y) (hz : xs.length < 4000) (hD : H1 D = none) (hY : ∀ i H x H', Y i H x H' → Same H H') (hG : ∀ H', Same H1 H' → G H')
    (turn : ∀ (i : Nat) (a : Str) (x : V) (H' H'' : Hp) (k : V → Hp → Prop) (k0 : Hp → Prop), xs[i]? = some a → Same H1 H' → Y i H' x H'' → (∀ H4, Same H'' H4 → k (.str a) H4) →
      g x (wipe σ vs) H'' fun σ2 H2 => wipe σ2 vs = wipe σ vs ∧ tt σ2 H2 fun b H3 => if b = true then te σ2 H3 fun y H4 => k y H4 else k0 H3)
    (hd : ∀ H', Same H1 H' → H' D = some (SetTx w D (setFold xs)) → Qd H') :
    ∃ W : Nat → Nat → Hp → Prop, (∃ m, W 0 m (upd H1 D (SetTx w D []))) ∧ ∀ i m H, W i m H →
      (J.stop i H ∧ Qd H) ∨ (J.go i H ∧ ∃ On : Hp → Prop, (∀ H', On H' → ∃ m', m' < m ∧ W (i + 1) m' H') ∧ ∀ x H', J.yld i H x H' → g x (wipe σ vs) H' fun σ2 H2 => wipe σ2 vs = wipe σ vs ∧ tt σ2 H2 fun b H3 =>
        if b = true then te σ2 H3 fun y H4 => ∃ ys k, y = .str k ∧ H4 D = some (SetTx w D ys) ∧ ys.length + 1 < scanBound ∧ On (upd H4 D (SetTx w D (ins ys k))) else On H3) := by
  refine dc_it wk (nx := fun i H' => Same H1 H' ∧ H' D = some (SetTx w D (setFold (xs.take i)))) (body := fun i x H' On => g x (wipe σ vs) H' fun σ2 H2 => wipe σ2 vs = wipe σ vs ∧ tt σ2 H2 fun b H3 =>
        if b = true then te σ2 H3 fun y H4 => ∃ ys k, y = .str k ∧ H4 D = some (SetTx w D ys) ∧ ys.length + 1 < scanBound ∧ On (upd H4 D (SetTx w D (ins ys k))) else On H3)
    ⟨same_new hD, upd_same⟩ (fun i H _ h => hG H h.1) (fun i x H H' hi h hy => ?_) (fun H h => hd H h.1 (by rw [h.2, List.take_length]))
  have ei : xs[i]? = some xs[i] := List.getElem?_eq_getElem hi
  have sy := hY _ _ _ _ hy
  refine turn i xs[i] x H H' (fun y H5 => ∃ ys k, y = .str k ∧ H5 D = some (SetTx w D ys) ∧ ys.length + 1 < scanBound ∧ _) _ ei h.1 hy fun H4 s4 => ⟨_, _, rfl, s4 _ _ (sy _ _ h.2), ?_, fun b o z => ?_, ?_⟩
  · have := setFold_len i (xs.take i) (by rw [List.length_take]; omega)
    unfold scanBound
    omega
  · rw [upd_ne (ne_of_none z hD)]
    exact s4 _ _ (sy _ _ (h.1 b o z))
  · rw [upd_same, List.take_add_one, ei]
    show some (SetTx w D _) = some (SetTx w D (setFold (xs.take i ++ [xs[i]])))
    rw [setFold_snoc]
end
end L2
namespace PySem.SeqAt
open AutoSeq1 (wpAny_loadPart')
open MeetsSeq
theorem str_declines_dict (x : Str) (u : Tok) (a : Addr) (es : Array DictEntry) (n : Nat) (dd : Option Addr) (sl : Array (Option Value)) :
    Meets (Builtin.«str.__eq__» ⟨[.str x u, .ref a], []⟩) (fun _ R s => s.heap.get? a = some { cls := .type "dict", dict := dd, data := .dict es n, slots := sl } ∧ R (.ok (.ret .notImplemented)) s) :=
  .of_wp fun prog w A R s h => by
    obtain ⟨hp, g, d, tk, os⟩ := s
    obtain ⟨ha, h⟩ := h
    wp_walk using wpAny_loadPart' ha, wpAny_load ha
    exact ⟨_, rfl, h⟩
theorem dict_declines_str (x : Str) (u : Tok) (a : Addr) (es : Array DictEntry) (n : Nat) (dd : Option Addr) (sl : Array (Option Value)) :
    Meets (Builtin.«dict.__eq__» ⟨[.ref a, .str x u], []⟩) (fun _ R s => s.heap.get? a = some { cls := .type "dict", dict := dd, data := .dict es n, slots := sl } ∧ R (.ok (.ret .notImplemented)) s) :=
  .of_wp fun prog w A R s h => by
    obtain ⟨hp, g, d, tk, os⟩ := s
    obtain ⟨ha, h⟩ := h
    have f1 := F.sub_str_dict
    wp_walk using wpAny_loadPart' ha, wpAny_load ha
    exact ⟨_, rfl, h⟩
section
variable {A : Around} {s : Shared} {a : Addr} {o : Obj} {es : Array DictEntry} {n : Nat}
theorem rc_str_dict (x : Str) (u : Tok) (ho : s.heap.get? a = some o) (hc : o.cls = .type "dict") (hd : o.data = .dict es n) (hu : A.units < cLine) : RcAt A s (.str x u) (.ref a) false := fun prog w E Q h => by
  obtain ⟨cls, dd, data, sl⟩ := o
  dsimp only at hc hd
  subst hc hd
  refine rc_eq_decline_or (k := false) (typeIs_str s x u) ⟨_, ho, rfl⟩ (by decide) F.sub_dict_str F.slot_str_eq F.slot_dict_eq_refl (fun _ hq => ?_) (fun _ hq => ?_) (fun _ hq => wpAny_of_eq (rfl : isSame (.str x u) (.ref a) = pure false) hq) (.inr hu) h
  · exact call_meets F.slot_str_eq (typeIs_str s x u) F.entry_str_eq (F.args_str_eq_2 _ _) (str_declines_dict x u a es n dd sl) ⟨ho, hq⟩
  · exact call_meets F.slot_dict_eq_refl ⟨_, ho, rfl⟩ F.entry_dict_eq (F.args_dict_eq_2 _ _) (dict_declines_str x u a es n dd sl) ⟨ho, hq⟩
theorem rc_dict_str (x : Str) (u : Tok) (ho : s.heap.get? a = some o) (hc : o.cls = .type "dict") (hd : o.data = .dict es n) (hu : A.units < cLine) : RcAt A s (.ref a) (.str x u) false := fun prog w E Q h => by
  obtain ⟨cls, dd, data, sl⟩ := o
  dsimp only at hc hd
  subst hc hd
  refine rc_eq_decline_or (k := false) ⟨_, ho, rfl⟩ (typeIs_str s x u) (by decide) F.sub_str_dict F.slot_dict_eq F.slot_str_eq_refl (fun _ hq => ?_) (fun _ hq => ?_) (fun _ hq => wpAny_of_eq (rfl : isSame (.ref a) (.str x u) = pure false) hq) (.inr hu) h
  · exact call_meets F.slot_dict_eq ⟨_, ho, rfl⟩ F.entry_dict_eq (F.args_dict_eq_2 _ _) (dict_declines_str x u a es n dd sl) ⟨ho, hq⟩
  · exact call_meets F.slot_str_eq_refl (typeIs_str s x u) F.entry_str_eq (F.args_str_eq_2 _ _) (str_declines_dict x u a es n dd sl) ⟨ho, hq⟩
theorem eq_str_dict (x : Str) (u : Tok) (ho : s.heap.get? a = some o) (hc : o.cls = .type "dict") (hd : o.data = .dict es n) (hu : A.units < cLine) : EqAt A s (.str x u) (.ref a) false := fun prog w E Q h => by
  unfold eqBool
  refine wpAny_holding (wpAny_ite_split (fun z => absurd (eq_of_beq z) nofun) fun _ => ?_)
  exact wpAny_bind (rc_str_dict x u ho hc hd hu prog w E _ (wpAny_truthy_bool h))
end
end PySem.SeqAt
namespace L2
open PySem PySem.Spec PyProof.Rows PySem.GX
/-- the data is this text -/
def isTx (z : Str) : PyData → Bool
  | .str y => decide (y = z)
  | _ => false
section
variable {X : Cx} {pins : List (Addr × Obj)} {σ : St} {H : Hp} {s : Shared}
/-- a text beside any thing -/
theorem sh_eqAt (I : Inv X pins σ H s) {x : V} {d : PyData} {v : Value} (h : Sh X.K H x d) (r : RelV x v) {A : Around} (hu : A.units < cLine) (z : Str) (t : Tok) : SeqAt.EqAt A s (.str z t) v (isTx z d) := by
  cases h with
  | fl f =>
    cases f with
    | non => cases r; exact SeqAt.EqAt.str_none z t
    | bl b => cases r; exact SeqAt.EqAt.str_bool z t b
    | int i => obtain ⟨u, rfl⟩ := r; exact SeqAt.EqAt.str_int z t i u
    | str y =>
      obtain ⟨u, rfl⟩ := r
      have e : isTx z (.str y) = (z == y) := by
        show decide (y = z) = _
        by_cases q : y = z
        · subst q; simp
        · rw [decide_eq_false q]
          exact (beq_eq_false_iff_ne.mpr (Ne.symm q)).symm
      rw [e]
      exact SeqAt.EqAt.str_str z t y u
  | lst hq _ =>
    cases r
    obtain ⟨its, rv, ⟨o, n, ho, hc, _, hd⟩, _⟩ := I.list hq
    exact SeqAt.EqAt.str_list z t ⟨o, ho, hc, n, hd⟩ hu
  | tup hq _ =>
    cases r
    obtain ⟨its, rv, ⟨o, ho, hc, n, hd⟩, _⟩ := I.tuple hq
    exact SeqAt.EqAt.str_tuple z t ⟨o, ho, hc, n, hd⟩ hu
  | dic hq _ _ =>
    cases r
    obtain ⟨_, hsys, vs, rkv, o, es, ep, ho, ⟨hc, _⟩, hd, _⟩ := I.hok _ _ hq
    exact SeqAt.eq_str_dict z t ho hc hd hu
theorem sh_rcAt (I : Inv X pins σ H s) {x : V} {d : PyData} {v : Value} (h : Sh X.K H x d) (r : RelV x v) {A : Around} (hu : A.units < cLine) (z : Str) (t : Tok) : SeqAt.RcAt A s v (.str z t) (isTx z d) := by
  cases h with
  | fl f =>
    cases f with
    | non => cases r; exact SeqAt.RcAt.none_str z t
    | bl b => cases r; exact SeqAt.RcAt.bool_str b z t
    | int i => obtain ⟨u, rfl⟩ := r; exact SeqAt.RcAt.int_str i u z t
    | str y =>
      obtain ⟨u, rfl⟩ := r
      have e : isTx z (.str y) = (y == z) := by
        show decide (y = z) = _
        by_cases q : y = z
        · subst q; simp
        · rw [decide_eq_false q]
          exact (beq_eq_false_iff_ne.mpr q).symm
      rw [e]
      exact SeqAt.RcAt.str_str y u z t
  | lst hq _ =>
    cases r
    obtain ⟨its, rv, ⟨o, n, ho, hc, _, hd⟩, _⟩ := I.list hq
    exact SeqAt.RcAt.list_str z t ⟨o, ho, hc, n, hd⟩ hu
  | tup hq _ =>
    cases r
    obtain ⟨its, rv, ⟨o, ho, hc, n, hd⟩, _⟩ := I.tuple hq
    exact SeqAt.RcAt.tuple_str z t ⟨o, ho, hc, n, hd⟩ hu
  | dic hq _ _ =>
    cases r
    obtain ⟨_, hsys, vs, rkv, o, es, ep, ho, ⟨hc, _⟩, hd, _⟩ := I.hok _ _ hq
    exact SeqAt.rc_dict_str z t ho hc hd hu
end
/-- x not in a list of texts, x anything -/
def rNotInTx (K : PySem.W.Frag) : R2 := fun x y H Q => ∃ (d : PyData) (p : Addr) (ws : List Str), Sh K H x d ∧ y = .ref p ∧ SqL K H p (ws.map V.str) ∧ Q (.bl (!ws.any fun z => isTx z d)) H
theorem op_notInTx {X : Cx} (hu : X.A.units + 1 < cLine) : OpR X (compareOp .NotIn) (rNotInTx X.K) := by
  intro pins s σ H x y v u Q I rx ry ⟨d, p, ws, hd, ey, hp, q⟩
  subst ey
  cases ry
  obtain ⟨its, rv, ⟨o, n, ho, hc, hnn, hdd⟩, hlen⟩ := I.list hp
  have at_ : ∀ y, y ∈ its.toArray → ∃ z t, y = Value.str z t ∧ z ∈ ws := by
    intro y hy
    have hy' : y ∈ its := by simpa using hy
    clear hdd ho hc hp hy q hlen hnn
    generalize hvs : ws.map V.str = vs at rv
    induction rv generalizing ws with
    | nil => cases hy'
    | cons r _ ih =>
      match ws, hvs with
      | w1 :: wt, hvs =>
        injection hvs with e1 e2
        subst e1
        rcases List.mem_cons.mp hy' with m | m
        · obtain ⟨t, e⟩ := r
          exact ⟨w1, t, by rw [m, e], List.mem_cons_self ..⟩
        · obtain ⟨z, t, a1, a2⟩ := ih wt m e2
          exact ⟨z, t, a1, List.mem_cons_of_mem _ a2⟩
  have any_ : (its.toArray.any fun y => match y with | .str z _ => isTx z d | _ => false) = ws.any fun z => isTx z d := by
    rw [List.any_toArray]
    clear at_ hdd ho hc hp q hlen hnn
    generalize hvs : ws.map V.str = vs at rv
    induction rv generalizing ws with
    | nil =>
      match ws, hvs with
      | [], _ => rfl
    | cons r _ ih =>
      match ws, hvs with
      | w1 :: wt, hvs =>
        injection hvs with e1 e2
        subst e1
        obtain ⟨t, e⟩ := r
        subst e
        rw [List.any_cons, List.any_cons, ih wt e2]
  refine SeqAt.notIn_listAt (fun y => match y with | .str z _ => isTx z d | _ => false) ⟨o, ho, hc, n, hdd⟩ (fun y hy => ?_) ?_
  · obtain ⟨z, t, rfl, _⟩ := at_ y hy
    exact sh_eqAt I hd rx (by show X.A.units + 1 < cLine; exact hu) z t
  · rw [any_]
    exact ⟨.bl _, H, I, rfl, q⟩
/-- x == text, x anything -/
def rEqTx (K : PySem.W.Frag) : R2 := fun x y H Q => ∃ (d : PyData) (z : Str), Sh K H x d ∧ y = .str z ∧ Q (.bl (isTx z d)) H
theorem op_eqTx {X : Cx} (hu : X.A.units < cLine) : OpR X (compareOp .Eq) (rEqTx X.K) := by
  intro pins s σ H x y v u Q I rx ry ⟨d, z, hd, ey, q⟩
  subst ey
  obtain ⟨t, rfl⟩ := ry
  exact sh_rcAt I hd rx hu z t _ _ _ _ ⟨.bl _, H, I, rfl, q⟩
/-- repr(x), x a tuple -/
def rReprT (K : PySem.W.Frag) : List V → Hp → VK → Prop := fun xs H Q => ∃ (a : Addr) (ds : List PyData), xs = [.ref a] ∧ Sh K H (.ref a) (.tuple ds) ∧ PyData.showableAll ds = true ∧ (PyData.tuple ds).shown.length ≤ sizeLine ∧ (PyData.tuple ds).depth ≤ 60 ∧
  Q (.str (PyData.tuple ds).shown) H
theorem call_reprT {X : Cx} {K : PySem.W.Frag} (eK : X.K = K) (hg : X.A.guards = some []) (hu : X.A.units + 64 < cLine) : CallR X (.builtin "repr") (rReprT K) := by
  subst eK
  intro pins s σ H xs us Q I r h
  obtain ⟨a, ds, rfl, hsh, hs, hz, hdp, q⟩ := h
  cases r with
  | cons r1 r2 =>
    cases r2
    cases r1
    cases hsh with
    | fl f => cases f
    | @tup _ xs _ hq ha =>
      obtain ⟨its, rv, ⟨o, ho, hc, n, hd⟩, _⟩ := I.tuple hq
      have hz' : (tupleText (PyData.shownAll ds)).length ≤ sizeLine := by simpa only [PyData.shown] using hz
      obtain ⟨⟨as, hr⟩, bs, hb, hk⟩ := Sh.bothAll I ds xs its ha rv hs (fun t ht => Nat.le_trans (tupleText_mem_le ht) hz')
      have rr : Reads s.heap (.ref a) (.tuple ds) _ := Reads.tuple ho hc hd hr
      have hna : a ∉ bs := not_mem_of_deeper rr (by simp only [PyData.depth]; omega) hb
      simp only [PyData.depth] at hdp
      simp only [PyData.shown] at q
      refine call_repr_slot (by omega) ⟨o, ho, hc⟩ F.slot_tuple_repr ?_
      exact call_tuple_reprK ho hc hd hna hk hg (fun b _ => Clear.nil b) (by show X.A.units + 1 + _ < cLine; omega) (fun _ _ e => e) (fun h' u tk k => ⟨_, _, rfl, .str (tupleText (PyData.shownAll ds)), H, I.kept k, ⟨u, rfl⟩, q⟩) hz'
/-- what is compared can be shown -/
theorem Dp.sh {K : PySem.W.Frag} {H : Hp} : ∀ {d : PyData} {v : V}, Dp K H v d → Sh K H v d := by
  intro d v h
  exact Dp.rec (motive_1 := fun v d _ => Sh K H v d) (motive_2 := fun vs ds _ => ShAll K H vs ds) (.fl .non) (fun b => .fl (.bl b)) (fun i => .fl (.int i)) (fun x => .fl (.str x)) (fun h _ i => .lst h i) (fun h _ i => .tup h i) .nil (fun _ _ i j => .cons i j) h
end L2
namespace L2
open PySem PySem.Spec PyProof.Rows PySem.GX PySem.W
/-- a, b, *c, d = a tuple -/
def gStar (K : PySem.W.Frag) (n i : Nat) (t : TGs) : TG := fun v σ H Q => ∃ a xs, v = .ref a ∧ SqT K H a xs ∧ i < n ∧ n ≤ xs.length + 1 ∧ xs.length ≤ 16384 ∧
  ∀ D, H D = none → t (xs.take i ++ [.ref D] ++ (xs.drop i).drop (xs.length + 1 - n)) σ (upd H D (.lst ((xs.drop i).take (xs.length + 1 - n)))) Q
theorem vals_take {vs : List V} {us : List Value} (r : Vals vs us) : ∀ n, Vals (vs.take n) (us.take n) := by
  induction r with
  | nil => intro n; cases n <;> exact .nil
  | cons a t ih =>
    intro n
    cases n with
    | zero => exact .nil
    | succ n => exact .cons a (ih n)
theorem vals_drop {vs : List V} {us : List Value} (r : Vals vs us) : ∀ n, Vals (vs.drop n) (us.drop n) := by
  induction r with
  | nil => intro n; cases n <;> exact .nil
  | cons a t ih =>
    intro n
    cases n with
    | zero => exact .cons a t
    | succ n => exact ih n
theorem pg_star {X : Cx} {es : List Expr} {k : Nat} {t : TGs} {n i : Nat} {pos : Pos} (hc : X.calm = true) (h : PGs X es t)
    (hn : (assignEach es X.env).length = n := by rfl) (hst : (assignEach es X.env).findIdx? (·.1) = some i := by rfl) : PG X (.Tuple es k pos) (gStar X.K n i t) := by
  refine ⟨fun pins s σ H v u Q I r hw => ?_⟩
  obtain ⟨a, xs, e1, hq, hi, hle, hz, hw⟩ := hw
  subst e1
  cases r
  obtain ⟨its, rv, hl, _⟩ := I.tuple hq
  have hh := I.ok.hd hc
  have hs : xs.length = its.length := rv.length
  generalize hit : its.toArray = items at hl
  have hsz : items.size = its.length := by rw [← hit]; simp
  have htl : items.toList = its := by rw [← hit]
  rw [assign_Tuple]
  refine wpAny_bind (wpAny_standAt ?_)
  unfold unpack
  rw [hn, hst]
  refine wpAny_bind (wpAny_holding ?_)
  have hlt : a ≠ s.heap.objs.size := by obtain ⟨o, ho, _⟩ := hl; exact Nat.ne_of_lt (Heap.lt_size ho)
  unfold unpackItems
  refine wpAny_bind ?_
  unfold notIterableAtAll
  refine wpAny_bind (wpAny_specialOf hl.typeIs slot_tuple_iter.lookup ?_)
  refine wpAny_pure ?_
  simp only [Bool.false_eq_true, if_false]
  refine wpAny_bind (wpAny_holding (iter_tuple hl ?_))
  refine wpAny_bind (wpAny_holding (draw_tuple hlt i 0 _ _ ⟨_, Heap.get?_push_size _ rfl, rfl, rfl⟩ (hl.push _) (by omega) fun h₁ hit₁ hs₁ => ?_))
  have hl₁ : IsTup h₁ a items := (hl.push _).extBut hs₁.extBut hlt
  rw [Nat.zero_add] at hit₁
  have hit₁' := hit₁
  obtain ⟨oi, hoi, _⟩ := hit₁'
  have hl₁' := hl₁
  obtain ⟨ol, hol, _⟩ := hl₁'
  rw [List.drop_zero]
  have hfl : (items.toList.take i).length = i := by rw [List.length_take, Array.length_toList]; omega
  rw [if_neg (show ¬ ((items.toList.take i).length < i) by rw [hfl]; omega)]
  refine wpAny_bind (wpAny_holding (kun_collect (s := { s with heap := h₁ }) (T := "tuple_iterator") (.inr (.inr (.inr rfl))) (Walks.tuple (A := X.A.in1) hh s.heap.objs.size a hlt items) (fun j u st => st.1.typeIs) (k := i) (by omega) ⟨hit₁, hl₁⟩ (Heap.lt_size hoi) (Heap.lt_size hol) (fun h₂ tk hk => ?_) (by rw [sizeLine_eq]; omega)))
  have hrl : (items.toList.drop i).length = items.size - i := by rw [List.length_drop, Array.length_toList]
  have hmid : (items.toList.drop i).length - (n - 1 - i) = items.size + 1 - n := by rw [hrl]; omega
  show wpAny _ _ (if (items.toList.drop i).length < n - 1 - i then _ else _) _ _ _
  rw [if_neg (by rw [hrl]; omega)]
  show wpAny _ _ (newList ((items.toList.drop i).take ((items.toList.drop i).length - (n - 1 - i))) >>= fun d => pure (items.toList.take i ++ [d] ++ (items.toList.drop i).drop ((items.toList.drop i).length - (n - 1 - i)))) _ _ _
  rw [hmid, htl, hsz, ← hs]
  have he : ∀ b o, s.heap.get? b = some o → h₂.get? b = some o := fun b o e => by
    have hb : b ≠ s.heap.objs.size := Nat.ne_of_lt (Heap.lt_size e)
    exact hk b o hb (hs₁.extBut b o hb (Heap.get?_push_of_some _ e))
  have I1 : Inv X pins σ H { s with heap := h₂, toks := tk } := I.kept (t' := tk) he
  have hf : H h₂.objs.size = none := I1.hok.fresh (Nat.le_refl _)
  have hlen : ((its.drop i).take (xs.length + 1 - n)).length ≤ sizeLine := by rw [List.length_take, List.length_drop, sizeLine_eq]; omega
  refine wpAny_bind (wpAny_newObj_type (wpAny_pure ?_) ?_)
  · have I2 := I1.laid (a := h₂.objs.size) (o := .lst ((xs.drop i).take (xs.length + 1 - n))) (t' := tk) (h' := h₂.push { cls := .type "list", data := .seq ((its.drop i).take (xs.length + 1 - n)).toArray 0 }) (fun b u e => Heap.get?_push_of_some _ e) (Nat.le_refl _) ⟨by rw [List.length_take, List.length_drop, sizeLine_eq]; omega, _, 0, vals_take (vals_drop rv i) _, Heap.get?_push_size _ rfl⟩
    exact h.run pins _ σ _ _ _ Q I2 (((vals_take rv i).append (.cons (show RelV (.ref h₂.objs.size) (Value.ref h₂.objs.size) from rfl) .nil)).append (vals_drop (vals_drop rv i) _)) (hw _ hf)
  · size_fits
theorem pgs_star {X : Cx} {e : Expr} {p : Pos} {es : List Expr} {t : TG} {u : TGs} (h1 : PG X e t) (h2 : PGs X es u)
    (hs : (assignEach (.Starred e p :: es) X.env).map (·.2) = assign e X.env :: (assignEach es X.env).map (·.2) := by rfl) : PGs X (.Starred e p :: es) (gCons t u) := by
  refine ⟨fun pins s σ H vs us Q I r h => ?_⟩
  obtain ⟨v, vr, e1, h⟩ := h
  subst e1
  cases r with
  | cons r rr =>
    rw [hs]
    refine assignInOrder_cons (thn (h1.run pins s σ H _ _ _ I r h) fun _ s1 ⟨σ1, H1, I1, q1⟩ => ?_)
    exact h2.run pins s1 σ1 H1 _ _ Q I1 rr q1
/-- text * a number -/
theorem mul_len {x : Str} {n : Nat} : (Txt.mul x (n : Int)).length = x.length * n := by
  unfold Txt.mul
  by_cases h1 : (n : Int) < 1
  · have : n = 0 := by omega
    subst this
    rw [if_pos h1]
    rfl
  · rw [if_neg h1]
    by_cases h2 : ((n : Int) == 1 || x.length == 0) = true
    · rw [if_pos h2]
      rcases Bool.or_eq_true_iff.mp h2 with e | e
      · have : n = 1 := by have := beq_iff_eq.mp e; omega
        subst this
        rw [Nat.mul_one]
      · have : x.length = 0 := by simpa using e
        rw [this, Nat.zero_mul]
    · rw [if_neg h2]
      have go : ∀ (m : Nat) (acc : Array Nat), ((List.replicate m x.cps).foldl (· ++ ·) acc).size = acc.size + x.length * m := by
        intro m
        induction m with
        | zero => intro acc; simp
        | succ m ih =>
          intro acc
          rw [List.replicate_succ, List.foldl_cons, ih, Array.size_append, Nat.mul_succ]
          show acc.size + x.length + _ = _
          omega
      show ((List.replicate (n : Int).toNat x.cps).foldl (· ++ ·) #[]).size = _
      rw [go]
      simp
def rMulX : V → V → Hp → VK → Prop := fun x y H Q => ∃ (z : Str) (n : Nat), x = .str z ∧ y = .int (n : Int) ∧ n ≤ 1000 ∧ z.length ≤ 10000 ∧ ∀ r : Str, r = Txt.mul z (n : Int) → r.length = z.length * n → Q (.str r) H
theorem op_mulX {X : Cx} : OpR X (binaryOp .Mult) rMulX := by
  intro pins s σ H x y v u Q I rx ry ⟨z, n, ex, ey, hn, hz, q⟩
  subst ex ey
  obtain ⟨t, rfl⟩ := rx
  obtain ⟨t', rfl⟩ := ry
  have hm : z.length * n ≤ 10000 * 1000 := Nat.mul_le_mul hz hn
  refine SB.mul ⟨?_, fun h _ => ?_, fun _ _ => ?_⟩ fun t' k => ⟨.str (Txt.mul z (n : Int)), H, I.tok _, ⟨t', rfl⟩, q _ rfl mul_len⟩
  · rw [decide_eq_false (by omega), decide_eq_false (by omega)]
    rfl
  · have h1 : 1 ≤ (n : Int) := by omega
    have e : (1000000 : Int) ≤ (2 ^ 63 - 1) / (n : Int) := by
      apply Int.le_ediv_of_mul_le (by omega)
      have : (n : Int) ≤ 1000 := by omega
      omega
    omega
  · show decide (_ > sizeLine) = false
    rw [sizeLine_eq]
    apply decide_eq_false
    show ¬ z.length * (n : Int).toNat > 16777216
    rw [Int.toNat_natCast]
    omega
end L2
namespace My
open PySem PySem.Spec PyProof.Rows L2 PySem.GX L2H LamX
abbrev kinds : List Str := ["last", "ends", "windows", "sets"]
def isK (d : PyData) : Bool := kinds.any fun z => isTx z d
/-- an integer in bounds -/
def inb (d : PyData) (lo hi : Int) : Bool := match d with
  | .int i => decide (lo ≤ i) && decide (i ≤ hi)
  | _ => false
def leastN (k : Str) : Int := if k = "last" then 0 else 1
def isI : PyData → Bool
  | .int _ => true
  | .bool _ => true
  | _ => false
def isB : PyData → Bool
  | .bool _ => true
  | _ => false
def isS : PyData → Bool
  | .str _ => true
  | _ => false
theorem sh_kit {K : PySem.W.Frag} {H : Hp} {v : V} {d : PyData} (h : Sh K H v d) : ∃ ty, TyX K H v ty ∧ PySem.W.kitOne K ty (.type "int") = some (isI d) ∧ PySem.W.kitOne K ty (.type "bool") = some (isB d) ∧ PySem.W.kitOne K ty (.type "str") = some (isS d) := by
  cases h with
  | fl f =>
    cases f with
    | non => exact ⟨_, .base .non, kit_ty (show _ = some false by decide +kernel), kit_ty (show _ = some false by decide +kernel), kit_ty (show _ = some false by decide +kernel)⟩
    | bl b => exact ⟨_, .base (.bl b), kit_ty (show _ = some true by decide +kernel), kit_ty (show _ = some true by decide +kernel), kit_ty (show _ = some false by decide +kernel)⟩
    | int i => exact ⟨_, .base (.int i), kit_ty (show _ = some true by decide +kernel), kit_ty (show _ = some false by decide +kernel), kit_ty (show _ = some false by decide +kernel)⟩
    | str x => exact ⟨_, .base (.str x), kit_ty (show _ = some false by decide +kernel), kit_ty (show _ = some false by decide +kernel), kit_ty (show _ = some true by decide +kernel)⟩
  | lst h t =>
    rcases h with (h | ⟨o, h⟩) | ⟨o, its, n, hk, hc, _⟩
    · exact ⟨_, .base (.lst h), kit_ty (show _ = some false by decide +kernel), kit_ty (show _ = some false by decide +kernel), kit_ty (show _ = some false by decide +kernel)⟩
    · exact ⟨_, .base (.frz h), kit_ty (show _ = some false by decide +kernel), kit_ty (show _ = some false by decide +kernel), kit_ty (show _ = some false by decide +kernel)⟩
    · exact ⟨_, .kList hk hc, kit_ty (show _ = some false by decide +kernel), kit_ty (show _ = some false by decide +kernel), kit_ty (show _ = some false by decide +kernel)⟩
  | tup h t =>
    rcases h with (h | ⟨o, h⟩) | ⟨o, its, n, hk, hc, _⟩
    · exact ⟨_, .base (.tup h), kit_ty (show _ = some false by decide +kernel), kit_ty (show _ = some false by decide +kernel), kit_ty (show _ = some false by decide +kernel)⟩
    · exact ⟨_, .fTuple h, kit_ty (show _ = some false by decide +kernel), kit_ty (show _ = some false by decide +kernel), kit_ty (show _ = some false by decide +kernel)⟩
    · exact ⟨_, .kTuple hk hc, kit_ty (show _ = some false by decide +kernel), kit_ty (show _ = some false by decide +kernel), kit_ty (show _ = some false by decide +kernel)⟩
  | dic h a b => exact ⟨_, .base (.dK h), kit_ty (show _ = some false by decide +kernel), kit_ty (show _ = some false by decide +kernel), kit_ty (show _ = some false by decide +kernel)⟩
theorem sh_int {K : PySem.W.Frag} {H : Hp} {v : V} {i : Int} (h : Sh K H v (.int i)) : v = .int i := by
  cases h with
  | fl f => cases f; rfl
theorem sh_str {K : PySem.W.Frag} {H : Hp} {v : V} {x : Str} (h : Sh K H v (.str x)) : v = .str x := by
  cases h with
  | fl f => cases f; rfl
/-- the promise where nothing is raised -/
theorem FnOk.calm_ {P : Program} {w : World} {K : PySem.W.Frag} {mg : Str → Option Value} {base : Heap} {k : Nat} {f : Addr} {fd : FuncData} {ps : List Str} {sp sp0 : Sp} (F : FnOk P w K mg base (L2N.CX P w) k f fd ps sp) (m : ∀ vs H Q E, sp0 vs H Q E → sp vs H Q E0) : FnOk P w K mg base CX0 k f fd ps sp0 :=
  ⟨fun vs H Q E h => F.len vs H Q E0 (m _ _ _ _ h), fun A outer s H args us vs Q E hr e0 hb r h => codeAny_mono (F.run A outer s H args us vs Q E0 hr e0 hb r (m _ _ _ _ h)) fun r s' hq => by
    cases r with
    | error e =>
      obtain ⟨a, B, H', cls, d, _, _, _, _, _, _, _, hE⟩ := hq
      exact hE.elim
    | ok fl => cases fl <;> exact hq⟩
/-- raises C with v as what is given -/
def Rz (C : Addr) (v : V) (H : Hp) (E : XK) : Prop := ∀ da H', Same H H' → H' da = some (exd da [("given", v)]) → E (.ref C) (some da) H'
theorem Rz.same {C : Addr} {v : V} {H H1 : Hp} {E : XK} (h : Rz C v H E) (s : Same H H1) : Rz C v H1 E := fun da H' s' e => h da H' (s.trans s') e
/-- what is known of a class that is raised -/
structure RzC (P : Program) (w : World) (K : PySem.W.Frag) (mg : Str → Option Value) (base : Heap) (x : Str) (C : Addr) : Prop where
  mk1 : Mk1 P w K mg base x C "given"
  b1 : PySem.W.subIn K (.ref C) (.type "BaseException") = some true
  b2 : PySem.W.typeIn K (.ref C) = some (.type "type")
def spInB (K : PySem.W.Frag) : Sp := fun vs H Q _ => ∃ (v : V) (d : PyData) (lo hi : Int), vs = [v, .int lo, .int hi] ∧ Sh K H v d ∧ Q (.bl (inb d lo hi)) H
section
variable {P : Program} {w : World} {K : PySem.W.Frag} {mg : Str → Option Value} {base : Heap}
theorem scInB : FnScope ["value", "low", "high"] ["value", "low", "high"] (defScope sBounds) := ⟨rfl, rfl, rfl, by decide +kernel, rfl, by decide +kernel, by decide +kernel⟩
theorem ok_inb {f : Addr} {fd : FuncData} (F : Fun K "in_bounds" "in_bounds" sBounds f fd) (hIs : mg "isinstance" = none) (hI : mg "int" = none) (hB : mg "bool" = none) : FnOk P w K mg base CX0 1 f fd ["value", "low", "high"] (spInB K) := by
  refine F.ok scInB (fun vs H Q E h => ?_) (fun cdv A outer s H vs Q E hr h => ?_)
  · obtain ⟨v, d, lo, hi, rfl, _⟩ := h
    rfl
  · obtain ⟨v, d, lo, hi, rfl, hd, k⟩ := h
    refine ⟨_, pss_one (ps_ret (pe_and (pe_callB call_isi (by rfl) hIs (by decide +kernel) (pa_cons (pv 0) (pa_cons (pe_bltn (v := .ty "int") (by rfl) hI (by decide +kernel) rfl) pa_nil)))
        (pe_and (pe_not (pe_callB call_isi (by rfl) hIs (by decide +kernel) (pa_cons (pv 0) (pa_cons (pe_bltn (v := .ty "bool") (by rfl) hB (by decide +kernel) rfl) pa_nil))))
        (pe_one (pe_chain op_le op_le (pv 1) (pv 0) (pv 2)))))), ?_⟩
    obtain ⟨ty, hty, k1, k2, _⟩ := sh_kit hd
    refine ⟨_, rfl, v, .ty "int", ty, .type "int", isI d, rfl, .ty _, hty, k1, _, rfl, ite2 (fun c1 => ?_) (fun c1 => ?_)⟩
    · refine ⟨_, rfl, v, .ty "bool", ty, .type "bool", isB d, rfl, .ty _, hty, k2, _, rfl, _, rfl, ite2 (fun c2 => ?_) (fun c2 => ?_)⟩
      · match d, hd, c1, c2, k with
        | .int i, hd, _, _, k =>
          obtain rfl := sh_int hd
          refine ⟨_, rfl, _, rfl, _, _, rfl, rfl, _, rfl, ite2 (fun c3 => ⟨_, rfl, _, _, rfl, rfl, ?_⟩) (fun c3 => ?_)⟩
          · have e : inb (.int i) lo hi = decide (i ≤ hi) := by
              show (decide (lo ≤ i) && decide (i ≤ hi)) = _
              rw [c3, Bool.true_and]
            rw [e] at k
            exact k
          · have e : inb (.int i) lo hi = false := by
              show (decide (lo ≤ i) && decide (i ≤ hi)) = _
              rw [Bool.eq_false_iff.mpr c3, Bool.false_and]
            rw [e] at k
            exact k
      · have e : inb d lo hi = false := by
          match d, c2 with
          | .bool b, _ => rfl
          | .int i, c2 => exact absurd rfl c2
          | .none, _ => rfl
          | .str _, _ => rfl
          | .list _, _ => rfl
          | .tuple _, _ => rfl
          | .dict _, _ => rfl
        rw [e] at k
        exact k
    · have e : inb d lo hi = false := by
        match d, c1 with
        | .int i, c1 => exact absurd rfl c1
        | .bool b, _ => rfl
        | .none, _ => rfl
        | .str _, _ => rfl
        | .list _, _ => rfl
        | .tuple _, _ => rfl
        | .dict _, _ => rfl
      rw [e] at k
      exact k
theorem PE_imp {X : Cx} {e : Expr} {t t' : TE} (h : PE X e t) (m : ∀ σ H Q, t' σ H Q → t σ H Q) : PE X e t' := ⟨fun pins s σ H Q I q => h.run pins s σ H Q I (m σ H Q q)⟩
end
end My
namespace My
open PySem PySem.Spec PyProof.Rows L2 PySem.GX L2H LamX
def isKs (ws : List Str) (d : PyData) : Bool := ws.any fun z => isTx z d
theorem isK_is (d : PyData) : isK d = isKs kinds d := rfl
/-- the def x is there, and keeps the promise; it may raise -/
structure HvX (P : Program) (w : World) (K : PySem.W.Frag) (mg : Str → Option Value) (base : Heap) (k : Nat) (x : Str) (ps : List Str) (sp : Sp) : Prop where
  ex : ∃ (f : Addr) (fd : FuncData), FnOk P w K mg base (L2N.CX P w) k f fd ps sp ∧ Binds K fd ps [] ∧ mg x = some (.ref f) ∧ PySem.W.keepIn K (.ref f) = true
theorem pe_clX {X : Cx} {k : Nat} {x : Str} {ps : List Str} {sp : Sp} {p pos : Pos} {e : Expr} {es : List Expr} {t : TA} {E : XK} (h : HvX X.prog X.w X.K X.mg X.base k x ps sp) (hr : Room k X.A) (hg : Gl X x) (hx : Passes (L2N.CX X.prog X.w) X E) (ha : PA X (e :: es) t)
    (hdb : (x == ("__debug__" : Str)) = false := by decide) (he : starEach (e :: es) X.env = (false, eval e X.env) :: starEach es X.env := by rfl) (hpl : (backTo pos (starEach es X.env)).any (·.1) = false := by rfl) :
    PE X (.Call (.Name x p) (e :: es) [] pos) (tCall sp [] E t) := by
  obtain ⟨f, fd, F, b, g, kp⟩ := h.ex
  exact pe_call F hr hg g kp b .nil hx ha hdb he hpl
/-- the same, called without its last parameters, whose values are dvs -/
structure HvD (P : Program) (w : World) (K : PySem.W.Frag) (mg : Str → Option Value) (base : Heap) (k : Nat) (x : Str) (ps : List Str) (dvs : List V) (sp : Sp) : Prop where
  ex : ∃ (f : Addr) (fd : FuncData) (ds : List Value), FnOk P w K mg base (L2N.CX P w) k f fd ps sp ∧ Vals dvs ds ∧ Binds K fd ps ds ∧ mg x = some (.ref f) ∧ PySem.W.keepIn K (.ref f) = true
theorem pe_clD {X : Cx} {k : Nat} {x : Str} {ps : List Str} {dvs : List V} {sp : Sp} {p pos : Pos} {e : Expr} {es : List Expr} {t : TA} {E : XK} (h : HvD X.prog X.w X.K X.mg X.base k x ps dvs sp) (hr : Room k X.A) (hg : Gl X x) (hx : Passes (L2N.CX X.prog X.w) X E) (ha : PA X (e :: es) t)
    (hdb : (x == ("__debug__" : Str)) = false := by decide) (he : starEach (e :: es) X.env = (false, eval e X.env) :: starEach es X.env := by rfl) (hpl : (backTo pos (starEach es X.env)).any (·.1) = false := by rfl) :
    PE X (.Call (.Name x p) (e :: es) [] pos) (tCall sp dvs E t) := by
  obtain ⟨f, fd, ds, F, v, b, g, kp⟩ := h.ex
  exact pe_call F hr hg g kp b v hx ha hdb he hpl
def spIsK (K : PySem.W.Frag) : Sp := fun vs H Q _ => ∃ (v : V) (d : PyData) (t : Addr) (ws : List Str), vs = [v, .ref t] ∧ Sh K H v d ∧ SqT K H t (ws.map V.str) ∧ Q (.bl (isKs ws d)) H
def spCKs (K : PySem.W.Frag) (C2 : Addr) : Sp := fun vs H Q E => ∃ (v : V) (d : PyData) (t : Addr) (ws : List Str), vs = [v, .ref t] ∧ Sh K H v d ∧ SqT K H t (ws.map V.str) ∧ (isKs ws d = true → Q .non H) ∧ (isKs ws d = false → Rz C2 v H E)
theorem isKs_str (ws : List Str) (x : Str) : inV (.str x) (ws.map V.str) = isKs ws (.str x) := by
  rw [in_strs]
  unfold isKs
  rw [Bool.eq_iff_iff, decide_eq_true_eq, List.any_eq_true]
  exact ⟨fun h => ⟨x, h, decide_eq_true rfl⟩, fun ⟨z, h1, h2⟩ => by rw [show x = z from of_decide_eq_true h2]; exact h1⟩
theorem isKs_no {ws : List Str} {d : PyData} (h : ¬ isS d = true) : isKs ws d = false := by
  have : ∀ z, isTx z d = false := fun z => by
    match d, h with
    | .str _, h => exact absurd rfl h
    | .int i, _ => rfl
    | .bool b, _ => rfl
    | .none, _ => rfl
    | .list _, _ => rfl
    | .tuple _, _ => rfl
    | .dict _, _ => rfl
  unfold isKs
  rw [Bool.eq_false_iff]
  intro z
  obtain ⟨y, _, e⟩ := List.any_eq_true.mp z
  rw [this y] at e
  cases e
section
variable {P : Program} {w : World} {K : PySem.W.Frag} {mg : Str → Option Value} {base : Heap}
theorem scIsK : FnScope ["value", "kinds"] ["value", "kinds"] (defScope sIsKind) := ⟨rfl, rfl, rfl, by decide +kernel, rfl, by decide +kernel, by decide +kernel⟩
theorem ok_isk {f : Addr} {fd : FuncData} (F : Fun K "is_kind" "is_kind" sIsKind f fd) (hIs : mg "isinstance" = none) (hSt : mg "str" = none) : FnOk P w K mg base CX0 1 f fd ["value", "kinds"] (spIsK K) := by
  refine F.ok scIsK (fun vs H Q E h => ?_) (fun cdv A outer s H vs Q E hr h => ?_)
  · obtain ⟨v, d, t, ws, rfl, _⟩ := h
    rfl
  · obtain ⟨v, d, t, ws, rfl, hd, ht, k⟩ := h
    refine ⟨_, pss_one (ps_ret (pe_and (pe_callB call_isi (by rfl) hIs (by decide +kernel) (pa_cons (pv 0) (pa_cons (pe_bltn (v := .ty "str") (by rfl) hSt (by decide +kernel) rfl) pa_nil)))
        (pe_one (pe_cmpR op_in_seq (pv 0) (pv 1) (by rfl))))), ?_⟩
    obtain ⟨ty, hty, _, _, k3⟩ := sh_kit hd
    refine ⟨_, rfl, v, .ty "str", ty, .type "str", isS d, rfl, .ty _, hty, k3, _, rfl, ite2 (fun c1 => ?_) (fun c1 => ?_)⟩
    · match d, hd, c1, k with
      | .str x, hd, _, k =>
        obtain rfl := sh_str hd
        refine ⟨_, rfl, _, rfl, t, _, rfl, .inr ht, rfl, flat_strs _, ?_⟩
        rw [isKs_str]
        exact k
    · rw [isKs_no c1] at k
      exact k
theorem scCK : FnScope ["kind", "kinds"] ["kind", "kinds"] (defScope sCKind) := ⟨rfl, rfl, rfl, by decide +kernel, rfl, by decide +kernel, by decide +kernel⟩
theorem ok_ck {f C2 tK : Addr} {fd : FuncData} (F : FunD K "check_kind" "check_kind" (defArgs sCKind) (defBody sCKind) (defScope sCKind) [.ref tK] [] f fd) (Z : RzC P w K mg base "InvalidKind" C2) (hI : Hv P w K mg base 1 "is_kind" ["value", "kinds"] (spIsK K)) :
    FnOk P w K mg base (L2N.CX P w) 3 f fd ["kind", "kinds"] (spCKs K C2) := by
  refine F.ok scCK (fun vs H Q E h => ?_) (fun cdv A outer s H vs Q E hr h => ?_)
  · obtain ⟨v, d, t, ws, rfl, _⟩ := h
    rfl
  · obtain ⟨v, d, t, ws, rfl, hd, ht, k1, k2⟩ := h
    refine ⟨_, pss_one (ps_if (pt_not (pt_val (pe_cl hI (hr.mono (by decide)) rfl pass0 (pa_cons (pv 0) (pa_cons (pv 1) pa_nil))))) (pss_one (ps_raise1 Z.mk1 hr rfl rfl rfl (L2N.takes_of rfl rfl rfl rfl) (pa_cons (pv 0) pa_nil))) pss_nil), ?_⟩
    refine ⟨_, rfl, _, rfl, v, d, t, ws, rfl, hd, ht, _, rfl, ?_⟩
    cases hk : isKs ws d with
    | true => exact iteF (k1 hk)
    | false =>
      refine iteT ⟨_, rfl, _, rfl, fun a' d' H2 na ne s2 ex => rs1_end (X := cxOf (L2N.CX P w) P w K mg base _ _ _ f cdv A outer s H E) (W := fun cls d _ H => E cls d H) (σ := []) (raises_own Z.b1 Z.b2) (Same.refl _) na ne s2 ex fun H3 s3 e3 => k2 hk d' H3 s3 e3⟩
theorem binds_ck {f tK : Addr} {fd : FuncData} (F : FunD K "check_kind" "check_kind" (defArgs sCKind) (defBody sCKind) (defScope sCKind) [.ref tK] [] f fd) : ∃ ds, Vals [.ref tK] ds ∧ Binds K fd ["kind", "kinds"] ds :=
  F.binds1 1 0 (fun z => by cases z) rfl fun T kV doc pm an cdv ct us its hu hi => match us, its, hu, hi with
    | [_], [_], _, _ => ⟨_, rfl, rfl⟩
end
end My
namespace My
open PySem PySem.Spec PyProof.Rows L2 PySem.GX L2H LamX
def spCN (K : PySem.W.Frag) (C3 : Addr) : Sp := fun vs H Q E => ∃ (k : Str) (v : V) (d : PyData), vs = [.str k, v] ∧ Sh K H v d ∧ (inb d (leastN k) 1000 = true → Q .non H) ∧ (inb d (leastN k) 1000 = false → Rz C3 v H E)
def spIsN (K : PySem.W.Frag) : Sp := fun vs H Q _ => ∃ (k : Str) (v : V) (d : PyData) (hi : Int), vs = [.str k, v, .int hi] ∧ Sh K H v d ∧ Q (.bl (inb d (leastN k) hi)) H
section
variable {P : Program} {w : World} {K : PySem.W.Frag} {mg : Str → Option Value} {base : Heap}
theorem scIsN : FnScope ["kind", "value", "most"] ["kind", "value", "most"] (defScope sIsNum) := ⟨rfl, rfl, rfl, by decide +kernel, rfl, by decide +kernel, by decide +kernel⟩
def tLeast : TE := fun σ H Q => ∃ (k : Str) (v1 v2 : Option V), σ = [some (.str k), v1, v2] ∧ Q (.int (leastN k)) H
theorem ok_isn {f : Addr} {fd : FuncData} (F : Fun K "is_number" "is_number" sIsNum f fd) (hB : Hv P w K mg base 1 "in_bounds" ["value", "low", "high"] (spInB K)) : FnOk P w K mg base CX0 2 f fd ["kind", "value", "most"] (spIsN K) := by
  refine F.ok scIsN (fun vs H Q E h => ?_) (fun cdv A outer s H vs Q E hr h => ?_)
  · obtain ⟨k, v, d, hi, rfl, _⟩ := h
    rfl
  · obtain ⟨k, v, d, hi, rfl, hd, q⟩ := h
    refine ⟨_, pss_one (ps_ret (pe_cl hB hr rfl pass0 (pa_cons (pv 1) (pa_cons (PE_imp (t' := tLeast) (pe_ifExp (pt_cmpR op_eq (pv 0) pe_str (nomark _)) pe_int pe_int) (fun σ H Q ⟨k, v1, v2, e, q⟩ => by
          subst e
          refine ⟨_, rfl, rfl, _, rfl, ite2 (fun c => ?_) (fun c => ?_)⟩
          · have : k = "last" := by
              have z := of_decide_eq_true c
              injection z
            have e1 : leastN k = 0 := if_pos this
            rw [e1] at q
            exact q
          · have e1 : leastN k = 1 := if_neg fun z => c (decide_eq_true (by rw [z]))
            rw [e1] at q
            exact q)) (pa_cons (pv 2) pa_nil))))), ?_⟩
    exact ⟨_, rfl, k, _, _, rfl, _, rfl, v, d, leastN k, hi, rfl, hd, q⟩
theorem scCN : FnScope ["kind", "number"] ["kind", "number"] (defScope sCNum) := ⟨rfl, rfl, rfl, by decide +kernel, rfl, by decide +kernel, by decide +kernel⟩
theorem ok_cn {f C3 : Addr} {fd : FuncData} {tA : Tok} (F : Fun K "check_number" "check_number" sCNum f fd) (Z : RzC P w K mg base "InvalidNumber" C3) (hN : Hv P w K mg base 2 "is_number" ["kind", "value", "most"] (spIsN K)) (gM : mg "MOST_LOOK" = some (.int 1000 tA)) :
    FnOk P w K mg base (L2N.CX P w) 3 f fd ["kind", "number"] (spCN K C3) := by
  refine F.okN scCN (fun vs H Q E h => ?_) (fun cdv A outer s H vs Q E hr h => ?_)
  · obtain ⟨k, v, d, rfl, _⟩ := h
    rfl
  · obtain ⟨k, v, d, rfl, hd, k1, k2⟩ := h
    refine ⟨_, pss_one (ps_if (pt_not (pt_val (pe_cl hN hr rfl pass0 (pa_cons (pv 0) (pa_cons (pv 1) (pa_cons (pe_glob (v := .int 1000) rfl gM ⟨_, rfl⟩) pa_nil)))))) (pss_one (ps_raise1 Z.mk1 hr rfl rfl rfl (L2N.takes_of rfl rfl rfl rfl) (pa_cons (pv 1) pa_nil))) pss_nil), ?_⟩
    refine ⟨_, rfl, _, rfl, k, v, d, 1000, rfl, hd, _, rfl, ?_⟩
    cases hk : inb d (leastN k) 1000 with
    | true => exact iteF (k1 hk)
    | false =>
      refine iteT ⟨_, rfl, _, rfl, fun a' d' H2 na ne s2 ex => rs1_end (X := cxOf (L2N.CX P w) P w K mg base _ _ _ f cdv A outer s H E) (W := fun cls d _ H => E cls d H) (σ := []) (raises_own Z.b1 Z.b2) (Same.refl _) na ne s2 ex fun H3 s3 e3 => k2 hk d' H3 s3 e3⟩
end
end My
namespace My
open PySem PySem.Spec PyProof.Rows L2 PySem.GX L2H LamX
theorem lt_le {a b : Str} (h : ltCps b.cps.toList a.cps.toList = false) : a.cps.toList ≤ b.cps.toList := by
  rw [ltCps_eq] at h
  exact fun z => of_decide_eq_false h z
theorem rising_pair : ∀ (l : List Str) (p : Str), risingS p l = true → (p :: l).Pairwise (fun a b : Str => a.cps.toList ≤ b.cps.toList)
  | [], p, _ => by simp
  | x :: r, p, h => by
    unfold risingS at h
    simp only [Bool.and_eq_true] at h
    have ih := rising_pair r x h.2
    have h1 : p.cps.toList ≤ x.cps.toList := lt_le (by simpa using h.1)
    rw [List.pairwise_cons]
    refine ⟨fun z hz => ?_, ih⟩
    rcases List.mem_cons.mp hz with rfl | m
    · exact h1
    · exact List.le_trans h1 ((List.pairwise_cons.mp ih).1 z m)
theorem sorted_pair (l : List Str) (h : sortedS l = true) : l.Pairwise (fun a b : Str => a.cps.toList ≤ b.cps.toList) := by
  match l, h with
  | [], _ => exact List.Pairwise.nil
  | x :: r, h => exact rising_pair r x h
theorem pair_uniq : ∀ {a b : List Str}, a.Pairwise (fun a b : Str => a.cps.toList ≤ b.cps.toList) → b.Pairwise (fun a b : Str => a.cps.toList ≤ b.cps.toList) → a.Perm b → a = b
  | [], b, _, _, p => (List.Perm.nil_eq p)
  | x :: xs, [], _, _, p => absurd p.length_eq (by simp)
  | x :: xs, y :: ys, h1, h2, p => by
    rw [List.pairwise_cons] at h1 h2
    have e : x = y := by
      have m1 := p.mem_iff.mp (List.mem_cons_self (a := x) (l := xs))
      have m2 := p.mem_iff.mpr (List.mem_cons_self (a := y) (l := ys))
      rcases List.mem_cons.mp m1 with m1 | m1
      · exact m1
      · rcases List.mem_cons.mp m2 with m2 | m2
        · exact m2.symm
        · exact str_ext (List.le_antisymm (h1.1 _ m2) (h2.1 _ m1))
    subst e
    rw [pair_uniq h1.2 h2.2 (List.Perm.cons_inv p)]
def pcs (m : Str) (n : Nat) : List Str := (List.range (m.length - n + 1)).map fun i : Nat => cutS m (some (i : Int)) (some ((i : Int) + (n : Int)))
theorem pcs_len (m : Str) (n : Nat) : (pcs m n).length = m.length - n + 1 := by
  unfold pcs
  rw [List.length_map, List.length_range]
theorem pcs_get {m : Str} {n i : Nat} {a : Str} (h : (pcs m n)[i]? = some a) : a = cutS m (some (0 + (i : Int))) (some (0 + (i : Int) + (n : Int))) := by
  unfold pcs at h
  rw [List.getElem?_map] at h
  have hi : i < m.length - n + 1 := by
    apply Classical.byContradiction
    intro z
    rw [List.getElem?_eq_none (by rw [List.length_range]; omega)] at h
    cases h
  rw [List.getElem?_range hi] at h
  cases h
  rw [Int.zero_add]
/-- the pieces, ascending -/
def PcsD (m : Str) (n : Nat) (zs : List Str) : Prop := (m.length < n ∧ zs = [m]) ∨ (n ≤ m.length ∧ zs.Perm (setFold (pcs m n)) ∧ sortedS zs = true)
theorem PcsD.uniq {m : Str} {n : Nat} {a b : List Str} (h1 : PcsD m n a) (h2 : PcsD m n b) : a = b := by
  rcases h1 with ⟨l1, rfl⟩ | ⟨l1, p1, s1⟩ <;> rcases h2 with ⟨l2, rfl⟩ | ⟨l2, p2, s2⟩
  · rfl
  · omega
  · omega
  · exact pair_uniq (sorted_pair _ s1) (sorted_pair _ s2) (p1.trans p2.symm)
abbrev lastS (n : Nat) (r : Str) : Str := cutS r (some ((r.length : Int) - (n : Int))) none
abbrev firstS (n : Nat) (r : Str) : Str := cutS r none (some (n : Int))
def lastD (n : Nat) (r : Str) : PyData := if r.length < n then .tuple [.str r, .bool true] else .tuple [.str (lastS n r), .bool false]
def endsD (n : Nat) (r : Str) : PyData := if r.length < 2 * n then .tuple [.str r, .bool true] else .tuple [.tuple [.str (firstS n r), .str (lastS n r)], .bool false]
def mark (r : Str) : Str := ((">" : Str) ++ r) ++ ("<" : Str)
def LookD (k : Str) (n : Nat) (r : Str) (d : PyData) : Prop := (k = "last" ∧ d = lastD n r) ∨ (k ≠ "last" ∧ k = "ends" ∧ d = endsD n r) ∨ (k ≠ "last" ∧ k ≠ "ends" ∧ ∃ zs, d = .tuple (zs.map .str) ∧ PcsD (mark r) n zs)
theorem LookD.uniq {k : Str} {n : Nat} {r : Str} {a b : PyData} (h1 : LookD k n r a) (h2 : LookD k n r b) : a = b := by
  rcases h1 with ⟨e1, rfl⟩ | ⟨n1, e1, rfl⟩ | ⟨n1, m1, z1, rfl, q1⟩ <;> rcases h2 with ⟨e2, rfl⟩ | ⟨n2, e2, rfl⟩ | ⟨n2, m2, z2, rfl, q2⟩
  · rfl
  · exact absurd e1 n2
  · exact absurd e1 n2
  · exact absurd e2 n1
  · rfl
  · exact absurd e1 m2
  · exact absurd e2 n1
  · exact absurd e2 m1
  · rw [q1.uniq q2]
def spLast (K : PySem.W.Frag) : Sp := fun vs H Q _ => ∃ (n : Nat) (r : Str), vs = [.int (n : Int), .str r] ∧ r.length ≤ 1000 ∧ ∀ v H', Same H H' → Dp K H' v (lastD n r) → Q v H'
def spEnds (K : PySem.W.Frag) : Sp := fun vs H Q _ => ∃ (n : Nat) (r : Str), vs = [.int (n : Int), .str r] ∧ r.length ≤ 1000 ∧ n ≤ 1000 ∧ ∀ v H', Same H H' → Dp K H' v (endsD n r) → Q v H'
def spPcs (K : PySem.W.Frag) : Sp := fun vs H Q _ => ∃ (n : Nat) (r : Str), vs = [.int (n : Int), .str r] ∧ r.length ≤ 1000 ∧ n ≤ 1000 ∧ ∀ v H' zs, PcsD (mark r) n zs → Same H H' → Dp K H' v (.tuple (zs.map .str)) → Q v H'
theorem dp_strT {K : PySem.W.Frag} {H : Hp} {t : Addr} {ws : List Str} (h : H t = some (.tup (ws.map V.str))) : Dp K H (.ref t) (.tuple (ws.map .str)) := .tup (SqT.of h) (dpStrs ws)
theorem mark_len (r : Str) : (mark r).length = r.length + 2 := by
  unfold mark
  rw [len_app, len_app]
  have a : (">" : Str).length = 1 := rfl
  have b : ("<" : Str).length = 1 := rfl
  rw [a, b]
  omega
section
variable {P : Program} {w : World} {K : PySem.W.Frag} {mg : Str → Option Value} {base : Heap}
theorem scLast : FnScope ["number", "row"] ["number", "row"] (defScope sLastL) := ⟨rfl, rfl, rfl, by decide +kernel, rfl, by decide +kernel, by decide +kernel⟩
theorem ok_last {f : Addr} {fd : FuncData} (F : Fun K "last_look" "last_look" sLastL f fd) (hL : mg "len" = none) : FnOk P w K mg base CX0 1 f fd ["number", "row"] (spLast K) := by
  refine F.ok scLast (fun vs H Q E h => ?_) (fun cdv A outer s H vs Q E hr h => ?_)
  · obtain ⟨n, r, rfl, _⟩ := h
    rfl
  · obtain ⟨n, r, rfl, lr, k⟩ := h
    have zr : r.length ≤ sizeLine := by rw [sizeLine_eq]; omega
    refine ⟨_, pss_cons (ps_if (pt_cmpR op_lt (pe_callB call_len_str (by rfl) hL PySem.boot_len (pa_cons (pv 1) pa_nil)) (pv 0) (nomark _)) (pss_one (ps_ret (pe_tup (pa_cons (pv 1) (pa_cons pe_bl pa_nil))))) pss_nil)
      (pss_one (ps_ret (pe_tup (pa_cons (pe_slice sl_str (pv 1) (po_some (pe_op op_sub (pe_callB call_len_str (by rfl) hL PySem.boot_len (pa_cons (pv 1) pa_nil)) (pv 0))) po_none) (pa_cons pe_bl pa_nil))))), ?_⟩
    refine ⟨_, rfl, r, rfl, zr, _, rfl, _, _, rfl, rfl, _, rfl, ite2 (fun c => ?_) (fun c => ?_)⟩
    · have c' : r.length < n := by have := of_decide_eq_true c; omega
      refine ⟨_, rfl, by show 2 ≤ sizeLine; decide, fun t ht => k _ _ (same_new ht) ?_⟩
      unfold lastD
      rw [if_pos c']
      exact .tup (SqT.of upd_same) (.cons (.str _) (.cons (.bl _) .nil))
    · have c' : ¬ r.length < n := fun z => c (decide_eq_true (by omega))
      refine ⟨_, rfl, _, rfl, r, rfl, zr, _, rfl, _, _, rfl, rfl, _, rfl, r, rfl, zr, by show 2 ≤ sizeLine; decide, fun t ht => k _ _ (same_new ht) ?_⟩
      unfold lastD
      rw [if_neg c']
      exact .tup (SqT.of upd_same) (.cons (.str _) (.cons (.bl _) .nil))
theorem scEnds : FnScope ["number", "row"] ["number", "row"] (defScope sEndsL) := ⟨rfl, rfl, rfl, by decide +kernel, rfl, by decide +kernel, by decide +kernel⟩
theorem ok_ends {f : Addr} {fd : FuncData} (F : Fun K "ends_look" "ends_look" sEndsL f fd) (hL : mg "len" = none) : FnOk P w K mg base CX0 1 f fd ["number", "row"] (spEnds K) := by
  refine F.ok scEnds (fun vs H Q E h => ?_) (fun cdv A outer s H vs Q E hr h => ?_)
  · obtain ⟨n, r, rfl, _⟩ := h
    rfl
  · obtain ⟨n, r, rfl, lr, ln, k⟩ := h
    have zr : r.length ≤ sizeLine := by rw [sizeLine_eq]; omega
    refine ⟨_, pss_cons (ps_if (pt_cmpR op_lt (pe_callB call_len_str (by rfl) hL PySem.boot_len (pa_cons (pv 1) pa_nil)) (pe_op op_mul pe_int (pv 0)) (nomark _)) (pss_one (ps_ret (pe_tup (pa_cons (pv 1) (pa_cons pe_bl pa_nil))))) pss_nil)
      (pss_one (ps_ret (pe_tup (pa_cons (pe_tup (pa_cons (pe_slice sl_str (pv 1) po_none (po_some (pv 0))) (pa_cons (pe_slice sl_str (pv 1) (po_some (pe_op op_sub (pe_callB call_len_str (by rfl) hL PySem.boot_len (pa_cons (pv 1) pa_nil)) (pv 0))) po_none) pa_nil))) (pa_cons pe_bl pa_nil))))), ?_⟩
    refine ⟨_, rfl, r, rfl, zr, _, rfl, _, _, rfl, rfl, .inl ⟨by decide, by decide⟩, _, _, rfl, rfl, _, rfl, ite2 (fun c => ?_) (fun c => ?_)⟩
    · have c' : r.length < 2 * n := by have := of_decide_eq_true c; omega
      refine ⟨_, rfl, by show 2 ≤ sizeLine; decide, fun t ht => k _ _ (same_new ht) ?_⟩
      unfold endsD
      rw [if_pos c']
      exact .tup (SqT.of upd_same) (.cons (.str _) (.cons (.bl _) .nil))
    · have c' : ¬ r.length < 2 * n := fun z => c (decide_eq_true (by omega))
      refine ⟨_, rfl, _, rfl, _, rfl, r, rfl, zr, _, rfl, _, rfl, r, rfl, zr, _, rfl, _, _, rfl, rfl, _, rfl, r, rfl, zr, by show 2 ≤ sizeLine; decide, fun t ht => ⟨by show 2 ≤ sizeLine; decide, fun t2 ht2 => k _ _ ((same_new ht).trans (same_new ht2)) ?_⟩⟩
      unfold endsD
      rw [if_neg c']
      exact .tup (SqT.of upd_same) (.cons (.tup (SqT.of (keep1 upd_same ht2)) (.cons (.str _) (.cons (.str _) .nil))) (.cons (.bl _) .nil))
abbrev nPcs : List Str := ["number", "row", "marked", "at"]
theorem scPcs : FnScope nPcs ["number", "row"] (defScope sPiecesL) := ⟨rfl, rfl, rfl, by decide +kernel, rfl, by decide +kernel, by decide +kernel⟩
theorem ok_pcs {f : Addr} {fd : FuncData} (F : Fun K "pieces_look" "pieces_look" sPiecesL f fd) (hL : mg "len" = none) (hR : mg "range" = none) (hSo : mg "sorted" = none) (hTu : mg "tuple" = none) : FnOk P w K mg base CX0 1 f fd ["number", "row"] (spPcs K) := by
  refine F.ok scPcs (fun vs H Q E h => ?_) (fun cdv A outer s H vs Q E hr h => ?_)
  · obtain ⟨n, r, rfl, _⟩ := h
    rfl
  · obtain ⟨n, r, rfl, lr, ln, k⟩ := h
    have lm := mark_len r
    have zm : (mark r).length ≤ sizeLine := by rw [sizeLine_eq]; omega
    refine ⟨_, pss_cons (ps_set (i := 2) scPcs.nd rfl (Or.inr rfl) (pe_op op_add_str (pe_op op_add_str pe_str (pv 1)) pe_str))
      (pss_cons (ps_if (pt_cmpR op_lt (pe_callB call_len_str (by rfl) hL PySem.boot_len (pa_cons (pv 2) pa_nil)) (pv 0) (nomark _)) (pss_one (ps_ret (pe_tup (pa_cons (pv 2) pa_nil)))) pss_nil)
      (pss_one (ps_ret (pe_callTy call_tuple_of (by rfl) hTu (by decide +kernel) (pa_cons (pe_callB (cr_sortedTx rfl) (by rfl) hSo (by decide +kernel) (pa_cons
        (pe_scT (own := [("at", 3)]) (g := gName 3) (tt := tYes) rfl scPcs.nd (pi_range1 rfl hR (pa_cons (pe_op op_add (pe_op op_sub (pe_callB call_len_str (by rfl) hL PySem.boot_len (pa_cons (pv 2) pa_nil)) (pv 0)) pe_int) pa_nil))
          (blkOk_by (N := nPcs) (sc := defScope sPiecesL) (by decide +kernel)) (fun _ _ _ _ _ => pg_name (i := 3) scPcs.nd rfl (Or.inl rfl)) (fun _ _ _ _ _ => pts_nil)
          (fun _ _ _ _ _ => pe_slice sl_str (pv 2) (po_some (pv 3)) (po_some (pe_op op_add (pv 3) (pv 0))))) pa_nil)) pa_nil))))), ?_⟩
    have l1 : (">" : Str).length = 1 := rfl
    have l2 : ("<" : Str).length = 1 := rfl
    refine ⟨_, rfl, _, _, rfl, rfl, by rw [l1, sizeLine_eq]; omega, _, _, rfl, rfl, by rw [len_app, l1, l2, sizeLine_eq]; omega, ?_⟩
    have em : ((">" : Str) ++ r) ++ ("<" : Str) = mark r := rfl
    rw [em]
    refine ⟨_, rfl, mark r, rfl, zm, _, rfl, _, _, rfl, rfl, _, rfl, ite2 (fun c => ?_) (fun c => ?_)⟩
    · have c' : (mark r).length < n := by have := of_decide_eq_true c; omega
      exact ⟨_, rfl, by show 1 ≤ sizeLine; decide, fun t ht => k _ _ [mark r] (.inl ⟨c', rfl⟩) (same_new ht) (dp_strT (ws := [mark r]) upd_same)⟩
    · have c' : n ≤ (mark r).length := by
        have : ¬ (mark r).length < n := fun z => c (decide_eq_true (by omega))
        omega
      have ei : ((mark r).length : Int) - (n : Int) + 1 = (((mark r).length - n + 1 : Nat) : Int) := by omega
      refine ⟨_, rfl, mark r, rfl, zm, _, rfl, _, _, rfl, rfl, _, _, rfl, rfl, (((mark r).length - n + 1 : Nat) : Int), congrArg (fun z => [V.int z]) ei, by omega, by omega, fun D hD => ?_⟩
      refine scG (pcs (mark r) n) (by rw [pcs_len]; exact walk_range (lo := 0)) (by rw [pcs_len]; omega) hD (fun i H x H' h => by rw [h.1]; exact Same.refl _) (fun _ _ => trivial) (fun i a x H' H'' k1 k0 hx s1 hy kk => ?_) (fun H1 s1 e1 => ?_)
      · obtain ⟨rfl, rfl⟩ := hy
        refine ⟨rfl, _, rfl, _, rfl, _, rfl, _, rfl, _, rfl, _, _, rfl, rfl, _, rfl, mark r, rfl, zm, ?_⟩
        rw [← pcs_get hx]
        exact kk _ (Same.refl _)
      · refine ⟨D, _, rfl, e1, fun zs q pz sz hq => ?_⟩
        refine ⟨q, _, rfl, .inl ⟨SqL.of upd_same, fun t ht => ?_⟩⟩
        exact k _ _ zs (.inr ⟨c', pz, sz⟩) ((s1.trans (same_new hq)).trans (same_new ht)) (dp_strT upd_same)
end
end My
namespace My
open PySem PySem.Spec PyProof.Rows L2 PySem.GX
def spRow : Sp := fun vs H Q _ => ∃ (r x : Str), vs = [.str r, .str x] ∧ r.length ≤ 16000000 ∧ ∀ H', Same H H' → Q (.bl (isRowL x r)) H'
def spRowX (K : PySem.W.Frag) : Sp := fun vs H Q _ => ∃ (v : V) (x : Str), vs = [v, .str x] ∧ NoRow K H x v ∧ ∀ H', Same H H' → Q (.bl false) H'
section
variable {P : Program} {w : World} {K : PySem.W.Frag} {mg : Str → Option Value} {base : Heap}
theorem pe_neverE {X : Cx} {e : Expr} : PE X e (fun _ _ _ => False) := ⟨fun _ _ _ _ _ _ h => h.elim⟩
theorem FnOk.or_ {CX : CXT} {k : Nat} {f : Addr} {fd : FuncData} {ps : List Str} {s1 s2 : Sp} (a : FnOk P w K mg base CX k f fd ps s1) (b : FnOk P w K mg base CX k f fd ps s2) : FnOk P w K mg base CX k f fd ps (fun vs H Q E => s1 vs H Q E ∨ s2 vs H Q E) :=
  ⟨fun vs H Q E h => h.elim (a.len vs H Q E) (b.len vs H Q E), fun A outer s H args us vs Q E hr e0 hb r h => h.elim (a.run A outer s H args us vs Q E hr e0 hb r) (b.run A outer s H args us vs Q E hr e0 hb r)⟩
theorem FnOk.imp_ {CX : CXT} {k : Nat} {f : Addr} {fd : FuncData} {ps : List Str} {s1 s2 : Sp} (a : FnOk P w K mg base CX k f fd ps s1) (m : ∀ vs H Q E, s2 vs H Q E → s1 vs H Q E) : FnOk P w K mg base CX k f fd ps s2 :=
  ⟨fun vs H Q E h => a.len vs H Q E (m _ _ _ _ h), fun A outer s H args us vs Q E hr e0 hb r h => a.run A outer s H args us vs Q E hr e0 hb r (m _ _ _ _ h)⟩
theorem scRow : FnScope ["value", "letters"] ["value", "letters"] (defScope sRowOf) := ⟨rfl, rfl, rfl, by decide +kernel, rfl, by decide +kernel, by decide +kernel⟩
theorem made_all (x r : Str) : madeL r x = r.cps.toList.all fun c => decide (c ∈ x.cps.toList) := by
  unfold madeL
  rw [List.all_map]
  rfl
theorem ok_row {f : Addr} {fd : FuncData} {tA : Tok} (F : Fun K "is_row_of" "is_row_of" sRowOf f fd) (hO : Hv P w K mg base 1 "made_of" ["text", "letters"] spMade) (hIs : mg "isinstance" = none) (hSt : mg "str" = none) (hL : mg "len" = none) (gM : mg "MOST_ROW" = some (.int 1000 tA)) : FnOk P w K mg base CX0 2 f fd ["value", "letters"] spRow := by
  refine F.ok scRow (fun vs H Q E h => ?_) (fun cdv A outer s H vs Q E hr h => ?_)
  · obtain ⟨r, x, rfl, _⟩ := h
    rfl
  · obtain ⟨r, x, rfl, zr, k⟩ := h
    refine ⟨_, pss_one (ps_ret (pe_and (pe_callB call_isi (by rfl) hIs (by decide +kernel) (pa_cons (pv 0) (pa_cons (pe_bltn (v := .ty "str") (by rfl) hSt (by decide +kernel) rfl) pa_nil)))
        (pe_and (pe_cmpR op_le (pe_callB call_len_str (by rfl) hL PySem.boot_len (pa_cons (pv 0) pa_nil)) (pe_glob (v := .int 1000) rfl gM ⟨_, rfl⟩) (nomark _)) (pe_one (pe_cl hO hr rfl pass0 (pa_cons (pv 0) (pa_cons (pv 1) pa_nil))))))), ?_⟩
    refine ⟨_, rfl, .str r, .ty "str", _, .type "str", true, rfl, .ty _, .base (.str r), kit_ty (by decide +kernel), _, rfl, iteT ?_⟩
    refine ⟨_, rfl, r, rfl, (by rw [sizeLine_eq]; omega), _, _, rfl, rfl, _, rfl, ite2 (fun c => ?_) (fun c => ?_)⟩
    · have h1 : (r.length : Int) ≤ 1000 := of_decide_eq_true c
      refine ⟨_, rfl, _, rfl, r, x, rfl, zr, fun H' s' => ?_⟩
      have e : madeL r x = isRowL x r := by
        unfold isRowL
        rw [decide_eq_true (by omega : r.length ≤ 1000), Bool.true_and, made_all]
      rw [e]
      exact k _ s'
    · have h1 : ¬ (r.length : Int) ≤ 1000 := by simpa using c
      have e : isRowL x r = false := by
        unfold isRowL
        rw [decide_eq_false (by omega : ¬ r.length ≤ 1000)]
        rfl
      rw [e] at k
      exact k _ (Same.refl _)
def spRowT (K : PySem.W.Frag) : Sp := fun vs H Q _ => ∃ (v : V) (x : Str) (ty : Value), vs = [v, .str x] ∧ TyX K H v ty ∧ PySem.W.kitOne K ty (.type "str") = some false ∧ Q (.bl false) H
theorem ok_rowT {f : Addr} {fd : FuncData} (F : Fun K "is_row_of" "is_row_of" sRowOf f fd) (hIs : mg "isinstance" = none) (hSt : mg "str" = none) : FnOk P w K mg base CX0 2 f fd ["value", "letters"] (spRowT K) := by
  refine F.ok scRow (fun vs H Q E h => ?_) (fun cdv A outer s H vs Q E hr h => ?_)
  · obtain ⟨v, x, ty, rfl, _⟩ := h
    rfl
  · obtain ⟨v, x, ty, rfl, hty, hk, k⟩ := h
    refine ⟨_, pss_one (ps_ret (pe_and (pe_callB call_isi (by rfl) hIs (by decide +kernel) (pa_cons (pv 0) (pa_cons (pe_bltn (v := .ty "str") (by rfl) hSt (by decide +kernel) rfl) pa_nil))) pe_neverE)), ?_⟩
    exact ⟨_, rfl, v, .ty "str", ty, .type "str", false, rfl, .ty _, hty, hk, _, rfl, iteF k⟩
theorem ok_rowX {f : Addr} {fd : FuncData} {tA : Tok} (F : Fun K "is_row_of" "is_row_of" sRowOf f fd) (hO : Hv P w K mg base 1 "made_of" ["text", "letters"] spMade) (hIs : mg "isinstance" = none) (hSt : mg "str" = none) (hL : mg "len" = none) (gM : mg "MOST_ROW" = some (.int 1000 tA)) : FnOk P w K mg base CX0 2 f fd ["value", "letters"] (spRowX K) := by
  refine FnOk.imp_ (FnOk.or_ (ok_row F hO hIs hSt hL gM) (ok_rowT F hIs hSt)) fun vs H Q E ⟨v, x, e, nr, k⟩ => ?_
  rcases nr with ⟨r, rfl, zr, ir⟩ | ⟨ty, hty, hk⟩
  · exact .inl ⟨r, x, e, zr, by rw [ir]; exact k⟩
  · exact .inr ⟨v, x, ty, e, hty, hk, k _ (Same.refl _)⟩
end
end My
namespace My
open PySem PySem.Spec PyProof.Rows L2 PySem.GX L2H LamX
def rowOk (x : Str) (d : PyData) : Bool := match d with
  | .str z => isRowL x z
  | _ => false
def spRowD (K : PySem.W.Frag) : Sp := fun vs H Q _ => ∃ (v : V) (d : PyData) (x : Str), vs = [v, .str x] ∧ Sh K H v d ∧ (∀ z, d = .str z → z.length ≤ 16000000) ∧ ∀ H', Same H H' → Q (.bl (rowOk x d)) H'
theorem isK_str {d : PyData} (h : isK d = true) : ∃ k, d = .str k ∧ k ∈ kinds := by
  unfold isK at h
  rw [List.any_eq_true] at h
  obtain ⟨z, hz, h⟩ := h
  match d, h with
  | .str y, h => exact ⟨y, rfl, by rw [show y = z from of_decide_eq_true h]; exact hz⟩
theorem inb_nat {d : PyData} {lo : Int} (h0 : 0 ≤ lo) (h : inb d lo 1000 = true) : ∃ n : Nat, d = .int (n : Int) ∧ n ≤ 1000 := by
  match d, h with
  | .int i, h =>
    have h' : (decide (lo ≤ i) && decide (i ≤ 1000)) = true := h
    rw [Bool.and_eq_true_iff] at h'
    have a := of_decide_eq_true h'.1
    have b := of_decide_eq_true h'.2
    obtain ⟨n, rfl⟩ := Int.eq_ofNat_of_zero_le (show 0 ≤ i by omega)
    exact ⟨n, rfl, by omega⟩
theorem least0 (k : Str) : 0 ≤ leastN k := by
  unfold leastN
  split <;> omega
def spLook (K : PySem.W.Frag) (C1 C2 C3 : Addr) : Sp := fun vs H Q E => ∃ (vk vn vr : V) (dk dn dr : PyData), vs = [vk, vn, vr] ∧ Sh K H vk dk ∧ Sh K H vn dn ∧ Sh K H vr dr ∧ (∀ z, dr = .str z → z.length ≤ 16000000) ∧
  (isK dk = false → Rz C2 vk H E) ∧
  (∀ k, dk = .str k → isK dk = true → inb dn (leastN k) 1000 = false → Rz C3 vn H E) ∧
  (∀ k, dk = .str k → isK dk = true → inb dn (leastN k) 1000 = true → rowOk abc dr = false → Rz C1 vr H E) ∧
  (∀ (k : Str) (n : Nat) (r : Str), dk = .str k → dn = .int (n : Int) → dr = .str r → isK dk = true → inb dn (leastN k) 1000 = true → rowOk abc dr = true → ∀ v H' d, LookD k n r d → Same H H' → Dp K H' v d → Q v H')
def spLookL (K : PySem.W.Frag) : Sp := fun vs H Q _ => ∃ (k : Str) (n : Nat) (r : Str), vs = [.str k, .int (n : Int), .str r] ∧ r.length ≤ 1000 ∧ n ≤ 1000 ∧ ∀ v H' d, LookD k n r d → Same H H' → Dp K H' v d → Q v H'
def spPcsL (K : PySem.W.Frag) : Sp := fun vs H Q _ => ∃ (n : Nat) (m : Str), vs = [.str m, .int (n : Int)] ∧ m.length ≤ 1002 ∧ n ≤ 1000 ∧ ∀ v H' zs, PcsD m n zs → Same H H' → Dp K H' v (.tuple (zs.map .str)) → Q v H'
section
variable {P : Program} {w : World} {K : PySem.W.Frag} {mg : Str → Option Value} {base : Heap}
theorem ok_rowD {f : Addr} {fd : FuncData} {tA : Tok} (F : Fun K "is_row_of" "is_row_of" sRowOf f fd) (hO : Hv P w K mg base 1 "made_of" ["text", "letters"] spMade) (hIs : mg "isinstance" = none) (hSt : mg "str" = none) (hL : mg "len" = none) (gM : mg "MOST_ROW" = some (.int 1000 tA)) :
    FnOk P w K mg base CX0 2 f fd ["value", "letters"] (spRowD K) := by
  refine FnOk.imp_ (FnOk.or_ (ok_row F hO hIs hSt hL gM) (ok_rowT F hIs hSt)) fun vs H Q E ⟨v, d, x, e, hd, hz, k⟩ => ?_
  rcases sh_ty hd with ⟨r, rfl, rfl⟩ | ⟨ty, hty, hk⟩
  · exact .inl ⟨r, x, e, hz r rfl, k⟩
  · refine .inr ⟨v, x, ty, e, hty, hk, ?_⟩
    have : rowOk x d = false := by
      obtain ⟨ty', hty', _, _, k3⟩ := sh_kit hd
      match d, hd, k with
      | .str z, hd, _ =>
        obtain rfl := sh_str hd
        exfalso
        cases hty with
        | base b => cases b; rw [kit_ty (show _ = some true by decide +kernel)] at hk; cases hk
      | .none, _, _ => rfl
      | .int _, _, _ => rfl
      | .bool _, _, _ => rfl
      | .list _, _, _ => rfl
      | .tuple _, _, _ => rfl
      | .dict _, _, _ => rfl
    rw [this] at k
    exact k _ (Same.refl _)
theorem scLook : FnScope ["kind", "number", "row"] ["kind", "number", "row"] (defScope sLook) := ⟨rfl, rfl, rfl, by decide +kernel, rfl, by decide +kernel, by decide +kernel⟩
theorem ok_look {f C1 C2 C3 tK : Addr} {fd : FuncData} {tA : Tok} (F : Fun K "look" "look" sLook f fd) (Z : RzC P w K mg base "InvalidRow" C1) (hCK : HvD P w K mg base 3 "check_kind" ["kind", "kinds"] [.ref tK] (spCKs K C2)) (kK : ∀ H, SqT K H tK (kinds.map V.str)) (hCN : HvX P w K mg base 3 "check_number" ["kind", "number"] (spCN K C3))
    (hRo : Hv P w K mg base 2 "is_row_of" ["value", "letters"] (spRowD K)) (h1 : Hv P w K mg base 1 "last_look" ["number", "row"] (spLast K)) (h2 : Hv P w K mg base 1 "ends_look" ["number", "row"] (spEnds K)) (h3 : Hv P w K mg base 1 "pieces_look" ["number", "row"] (spPcs K)) (gA : mg "LETTERS" = some (.str abc tA)) :
    FnOk P w K mg base (L2N.CX P w) 4 f fd ["kind", "number", "row"] (spLook K C1 C2 C3) := by
  refine F.okN scLook (fun vs H Q E h => ?_) (fun cdv A outer s H vs Q E hr h => ?_)
  · obtain ⟨vk, vn, vr, dk, dn, dr, rfl, _⟩ := h
    rfl
  · obtain ⟨vk, vn, vr, dk, dn, dr, rfl, hk, hn, hw, zr, e1, e2, e3, ok⟩ := h
    have hr1 : Room 1 (A.deeper (envOfC "look" (defScope sLook) s.heap.objs.size f cdv)) := hr.mono (by decide)
    have hr2 : Room 2 (A.deeper (envOfC "look" (defScope sLook) s.heap.objs.size f cdv)) := hr.mono (by decide)
    refine ⟨_, pss_cons (ps_expr (pe_clD hCK hr rfl (L2N.passes_call (L2N.takes_of rfl rfl rfl rfl) (fun _ _ _ _ z => z)) (pa_cons (pv 0) pa_nil)))
      (pss_cons (ps_expr (pe_clX hCN hr rfl (L2N.passes_call (L2N.takes_of rfl rfl rfl rfl) (fun _ _ _ _ z => z)) (pa_cons (pv 0) (pa_cons (pv 1) pa_nil))))
      (pss_cons (ps_if (pt_not (pt_val (pe_cl hRo hr2 rfl pass0 (pa_cons (pv 2) (pa_cons (pe_glob (v := .str abc) rfl gA ⟨_, rfl⟩) pa_nil))))) (pss_one (ps_raise1 Z.mk1 hr2 rfl rfl rfl (L2N.takes_of rfl rfl rfl rfl) (pa_cons (pv 2) pa_nil))) pss_nil)
      (pss_cons (ps_if (pt_cmpR op_eq (pv 0) pe_str (nomark _)) (pss_one (ps_ret (pe_cl h1 hr1 rfl pass0 (pa_cons (pv 1) (pa_cons (pv 2) pa_nil))))) pss_nil)
      (pss_cons (ps_if (pt_cmpR op_eq (pv 0) pe_str (nomark _)) (pss_one (ps_ret (pe_cl h2 hr1 rfl pass0 (pa_cons (pv 1) (pa_cons (pv 2) pa_nil))))) pss_nil)
      (pss_one (ps_ret (pe_cl h3 hr1 rfl pass0 (pa_cons (pv 1) (pa_cons (pv 2) pa_nil))))))))), ?_⟩
    refine ⟨_, rfl, vk, dk, tK, kinds, rfl, hk, kK _, fun tk => ?_, fun fk => e1 fk⟩
    have tk : isK dk = true := tk
    obtain ⟨k, rfl, mk⟩ := isK_str tk
    obtain rfl := sh_str hk
    refine ⟨_, rfl, _, rfl, k, vn, dn, rfl, hn, fun tn => ?_, fun fn => e2 k rfl tk fn⟩
    obtain ⟨n, rfl, ln⟩ := inb_nat (least0 k) tn
    obtain rfl := sh_int hn
    refine ⟨_, rfl, vr, dr, abc, rfl, hw, zr, fun H1 s1 => ⟨_, rfl, ?_⟩⟩
    cases tr : rowOk abc dr with
    | false =>
      refine iteT ⟨_, rfl, _, rfl, fun a' d' H2 na ne s2 ex => rs1_end (X := cxOf (L2N.CX P w) P w K mg base _ _ _ f cdv A outer s H E) (W := fun cls d _ H => E cls d H) (σ := []) (raises_own Z.b1 Z.b2) s1 na ne s2 ex fun H3 s3 e3' => e3 k rfl tk tn tr d' H3 (s1.trans s3) e3'⟩
    | true =>
      refine iteF ?_
      obtain ⟨r, rfl⟩ : ∃ r, dr = .str r := by
        match dr, tr with
        | .str r, _ => exact ⟨r, rfl⟩
      obtain rfl := sh_str hw
      have lr : r.length ≤ 1000 := by
        have : isRowL abc r = true := tr
        unfold isRowL at this
        exact of_decide_eq_true (Bool.and_eq_true_iff.mp this).1
      have fin := ok k n r rfl rfl rfl tk tn tr
      refine ⟨_, rfl, rfl, _, rfl, ite2 (fun c => ?_) (fun c => ?_)⟩
      · have ek : k = "last" := by
          have z := of_decide_eq_true c
          injection z
        exact ⟨_, rfl, _, rfl, n, r, rfl, lr, fun v H2 s2 hv => fin v H2 _ (.inl ⟨ek, rfl⟩) (s1.trans s2) hv⟩
      · have nk : k ≠ "last" := fun z => c (decide_eq_true (by rw [z]))
        refine ⟨_, rfl, rfl, _, rfl, ite2 (fun c2 => ?_) (fun c2 => ?_)⟩
        · have ek : k = "ends" := by
            have z := of_decide_eq_true c2
            injection z
          exact ⟨_, rfl, _, rfl, n, r, rfl, lr, ln, fun v H2 s2 hv => fin v H2 _ (.inr (.inl ⟨nk, ek, rfl⟩)) (s1.trans s2) hv⟩
        · have nk2 : k ≠ "ends" := fun z => c2 (decide_eq_true (by rw [z]))
          exact ⟨_, rfl, _, rfl, n, r, rfl, lr, ln, fun v H2 zs hz s2 hv => fin v H2 _ (.inr (.inr ⟨nk, nk2, zs, rfl, hz⟩)) (s1.trans s2) hv⟩
abbrev nPcsL : List Str := ["_law_marked", "_law_measure", "_law_k"]
theorem scPcsL : FnScope nPcsL ["_law_marked", "_law_measure"] (defScope sLPieces) := ⟨rfl, rfl, rfl, by decide +kernel, rfl, by decide +kernel, by decide +kernel⟩
theorem ok_pcsL {f : Addr} {fd : FuncData} (F : Fun K "_law_pieces" "_law_pieces" sLPieces f fd) (hL : mg "len" = none) (hR : mg "range" = none) (hSo : mg "sorted" = none) (hTu : mg "tuple" = none) (hSe : mg "set" = none) : FnOk P w K mg base CX0 1 f fd ["_law_marked", "_law_measure"] (spPcsL K) := by
  refine F.ok scPcsL (fun vs H Q E h => ?_) (fun cdv A outer s H vs Q E hr h => ?_)
  · obtain ⟨n, m, rfl, _⟩ := h
    rfl
  · obtain ⟨n, m, rfl, lm, ln, k⟩ := h
    have zm : m.length ≤ sizeLine := by rw [sizeLine_eq]; omega
    refine ⟨_, pss_cons (ps_if (pt_cmpR op_lt (pe_callB call_len_str (by rfl) hL PySem.boot_len (pa_cons (pv 0) pa_nil)) (pv 1) (nomark _)) (pss_one (ps_ret (pe_tup (pa_cons (pv 0) pa_nil)))) pss_nil)
      (pss_one (ps_ret (pe_callTy call_tuple_of (by rfl) hTu (by decide +kernel) (pa_cons (pe_callB (cr_sortedTx rfl) (by rfl) hSo (by decide +kernel) (pa_cons (pe_callTy (cr_setL rfl) (by rfl) hSe (by decide +kernel) (pa_cons
        (pe_lc (own := [("_law_k", 2)]) (g := gName 2) (tt := tYes) rfl scPcsL.nd (pi_range1 rfl hR (pa_cons (pe_op op_add (pe_op op_sub (pe_callB call_len_str (by rfl) hL PySem.boot_len (pa_cons (pv 0) pa_nil)) (pv 1)) pe_int) pa_nil))
          (blkOk_by (N := nPcsL) (sc := defScope sLPieces) (by decide +kernel)) (fun _ _ _ _ _ => pg_name (i := 2) scPcsL.nd rfl (Or.inl rfl)) (fun _ _ _ _ _ => pts_nil)
          (fun _ _ _ _ _ => pe_slice sl_str (pv 0) (po_some (pv 2)) (po_some (pe_op op_add (pv 2) (pv 1))))) pa_nil)) pa_nil)) pa_nil)))), ?_⟩
    refine ⟨_, rfl, m, rfl, zm, _, rfl, _, _, rfl, rfl, _, rfl, ite2 (fun c => ?_) (fun c => ?_)⟩
    · have c' : m.length < n := by have := of_decide_eq_true c; omega
      exact ⟨_, rfl, by show 1 ≤ sizeLine; decide, fun t ht => k _ _ [m] (.inl ⟨c', rfl⟩) (same_new ht) (dp_strT (ws := [m]) upd_same)⟩
    · have c' : n ≤ m.length := by
        have : ¬ m.length < n := fun z => c (decide_eq_true (by omega))
        omega
      have ei : (m.length : Int) - (n : Int) + 1 = ((m.length - n + 1 : Nat) : Int) := by omega
      refine ⟨_, rfl, m, rfl, zm, _, rfl, _, _, rfl, rfl, _, _, rfl, rfl, ((m.length - n + 1 : Nat) : Int), congrArg (fun z => [V.int z]) ei, by omega, by omega, fun D hD => ?_⟩
      refine lcG (pcs m n) (fun a => some (.str a)) (by rw [pcs_len]; exact walk_range (lo := 0)) (by rw [pcs_len]; omega) hD (fun i H x H' h => by rw [h.1]; exact Same.refl _) (fun _ _ => trivial) (fun i a x H' H'' k1 hx s1 hy kk => ?_) (fun H1 s1 e1 => ?_)
      · obtain ⟨rfl, rfl⟩ := hy
        refine ⟨rfl, _, rfl, _, rfl, _, rfl, _, rfl, _, rfl, _, _, rfl, rfl, _, rfl, m, rfl, zm, ?_⟩
        rw [← pcs_get hx]
        exact kk _ (Same.refl _)
      · have e1' : H1 D = some (.lst ((pcs m n).map V.str)) := by
          rw [e1, List.filterMap_eq_map']
        refine ⟨D, pcs m n, rfl, SqL.of e1', by rw [pcs_len]; omega, fun p hp => ⟨p, _, rfl, upd_same, fun zs q pz sz hq => ?_⟩⟩
        refine ⟨q, _, rfl, .inl ⟨SqL.of upd_same, fun t ht => ?_⟩⟩
        exact k _ _ zs (.inr ⟨c', pz, sz⟩) (((s1.trans (same_new hp)).trans (same_new hq)).trans (same_new ht)) (dp_strT upd_same)
theorem scLookL : FnScope ["_law_sort", "_law_measure", "_law_line_here"] ["_law_sort", "_law_measure", "_law_line_here"] (defScope sLLook) := ⟨rfl, rfl, rfl, by decide +kernel, rfl, by decide +kernel, by decide +kernel⟩
theorem ok_lookL {f : Addr} {fd : FuncData} (F : Fun K "_law_look" "_law_look" sLLook f fd) (hL : mg "len" = none) (hP : Hv P w K mg base 1 "_law_pieces" ["_law_marked", "_law_measure"] (spPcsL K)) : FnOk P w K mg base CX0 2 f fd ["_law_sort", "_law_measure", "_law_line_here"] (spLookL K) := by
  refine F.ok scLookL (fun vs H Q E h => ?_) (fun cdv A outer s H vs Q E hr h => ?_)
  · obtain ⟨k, n, r, rfl, _⟩ := h
    rfl
  · obtain ⟨k, n, r, rfl, lr, ln, fin⟩ := h
    have zr : r.length ≤ sizeLine := by rw [sizeLine_eq]; omega
    refine ⟨_, pss_cons (ps_if (pt_cmpR op_eq (pv 0) pe_str (nomark _)) (pss_one (ps_ret (pe_ifExp (pt_cmpR op_lt (pe_callB call_len_str (by rfl) hL PySem.boot_len (pa_cons (pv 2) pa_nil)) (pv 1) (nomark _)) (pe_tup (pa_cons (pv 2) (pa_cons pe_bl pa_nil)))
          (pe_tup (pa_cons (pe_slice sl_str (pv 2) (po_some (pe_op op_sub (pe_callB call_len_str (by rfl) hL PySem.boot_len (pa_cons (pv 2) pa_nil)) (pv 1))) po_none) (pa_cons pe_bl pa_nil)))))) pss_nil)
      (pss_cons (ps_if (pt_cmpR op_eq (pv 0) pe_str (nomark _)) (pss_one (ps_ret (pe_ifExp (pt_cmpR op_lt (pe_callB call_len_str (by rfl) hL PySem.boot_len (pa_cons (pv 2) pa_nil)) (pe_op op_mul pe_int (pv 1)) (nomark _)) (pe_tup (pa_cons (pv 2) (pa_cons pe_bl pa_nil)))
          (pe_tup (pa_cons (pe_tup (pa_cons (pe_slice sl_str (pv 2) po_none (po_some (pv 1))) (pa_cons (pe_slice sl_str (pv 2) (po_some (pe_op op_sub (pe_callB call_len_str (by rfl) hL PySem.boot_len (pa_cons (pv 2) pa_nil)) (pv 1))) po_none) pa_nil))) (pa_cons pe_bl pa_nil)))))) pss_nil)
      (pss_one (ps_ret (pe_cl hP hr rfl pass0 (pa_cons (pe_op op_add_str (pe_op op_add_str pe_str (pv 2)) pe_str) (pa_cons (pv 1) pa_nil)))))), ?_⟩
    refine ⟨_, rfl, rfl, _, rfl, ite2 (fun c => ?_) (fun c => ?_)⟩
    · have ek : k = "last" := by
        have z := of_decide_eq_true c
        injection z
      have fin' := fun v H' s' hv => fin v H' (lastD n r) (.inl ⟨ek, rfl⟩) s' hv
      refine ⟨_, rfl, r, rfl, zr, _, rfl, _, _, rfl, rfl, _, rfl, ite2 (fun c => ?_) (fun c => ?_)⟩
      · have c' : r.length < n := by have := of_decide_eq_true c; omega
        refine ⟨_, rfl, by show 2 ≤ sizeLine; decide, fun t ht => fin' _ _ (same_new ht) ?_⟩
        unfold lastD
        rw [if_pos c']
        exact .tup (SqT.of upd_same) (.cons (.str _) (.cons (.bl _) .nil))
      · have c' : ¬ r.length < n := fun z => c (decide_eq_true (by omega))
        refine ⟨_, rfl, _, rfl, r, rfl, zr, _, rfl, _, _, rfl, rfl, _, rfl, r, rfl, zr, by show 2 ≤ sizeLine; decide, fun t ht => fin' _ _ (same_new ht) ?_⟩
        unfold lastD
        rw [if_neg c']
        exact .tup (SqT.of upd_same) (.cons (.str _) (.cons (.bl _) .nil))
    · have nk : k ≠ "last" := fun z => c (decide_eq_true (by rw [z]))
      refine ⟨_, rfl, rfl, _, rfl, ite2 (fun c2 => ?_) (fun c2 => ?_)⟩
      · have ek : k = "ends" := by
          have z := of_decide_eq_true c2
          injection z
        have fin' := fun v H' s' hv => fin v H' (endsD n r) (.inr (.inl ⟨nk, ek, rfl⟩)) s' hv
        refine ⟨_, rfl, r, rfl, zr, _, rfl, _, _, rfl, rfl, .inl ⟨by decide, by decide⟩, _, _, rfl, rfl, _, rfl, ite2 (fun c => ?_) (fun c => ?_)⟩
        · have c' : r.length < 2 * n := by have := of_decide_eq_true c; omega
          refine ⟨_, rfl, by show 2 ≤ sizeLine; decide, fun t ht => fin' _ _ (same_new ht) ?_⟩
          unfold endsD
          rw [if_pos c']
          exact .tup (SqT.of upd_same) (.cons (.str _) (.cons (.bl _) .nil))
        · have c' : ¬ r.length < 2 * n := fun z => c (decide_eq_true (by omega))
          refine ⟨_, rfl, _, rfl, _, rfl, r, rfl, zr, _, rfl, _, rfl, r, rfl, zr, _, rfl, _, _, rfl, rfl, _, rfl, r, rfl, zr, by show 2 ≤ sizeLine; decide, fun t ht => ⟨by show 2 ≤ sizeLine; decide, fun t2 ht2 => fin' _ _ ((same_new ht).trans (same_new ht2)) ?_⟩⟩
          unfold endsD
          rw [if_neg c']
          exact .tup (SqT.of upd_same) (.cons (.tup (SqT.of (keep1 upd_same ht2)) (.cons (.str _) (.cons (.str _) .nil))) (.cons (.bl _) .nil))
      · have nk2 : k ≠ "ends" := fun z => c2 (decide_eq_true (by rw [z]))
        have l1 : (">" : Str).length = 1 := rfl
        have l2 : ("<" : Str).length = 1 := rfl
        refine ⟨_, rfl, _, _, rfl, rfl, by rw [l1, sizeLine_eq]; omega, _, _, rfl, rfl, by rw [len_app, l1, l2, sizeLine_eq]; omega, _, rfl, n, mark r, rfl, by rw [mark_len]; omega, ln, fun v H2 zs hz s2 hv => fin v H2 _ (.inr (.inr ⟨nk, nk2, zs, rfl, hz⟩)) s2 hv⟩
end
end My
namespace My
open PySem PySem.Spec PyProof.Rows L2 PySem.GX L2H LamX
/-- xs.count(True), xs a list of bools -/
def isTrueV : Value → Bool
  | .bool b => b == true
  | _ => false
def rCntB (K : PySem.W.Frag) : V → List V → Hp → VK → Prop := fun x xs H Q => ∃ (p : Addr) (bs : List Bool), x = .ref p ∧ xs = [.bl true] ∧ SqL K H p (bs.map V.bl) ∧ Q (.int (bs.count true : Nat)) H
theorem vals_bools : ∀ {bs : List Bool} {its : List Value}, Vals (bs.map V.bl) its → its = bs.map Value.bool
  | [], _, .nil => rfl
  | _ :: _, _, .cons r t => by
    rw [vals_bools t, show _ = Value.bool _ from r]
    rfl
theorem mt_bcount {X : Cx} : MtR X "list.count" (rCntB X.K) := by
  intro pl s σ H x xs v us Q I rx rxs ⟨p, bs, ex, exs, hs, q⟩
  subst ex exs
  cases rx
  obtain ⟨u, rfl, ru⟩ := rxs.one
  obtain rfl : u = Value.bool true := ru
  obtain ⟨its, rv, ⟨⟨cls, dd, data, sl⟩, n, ho, hc, hdn, hd⟩, hlen⟩ := I.list hs
  simp only at hc hd
  subst hc hd
  have hi := vals_bools rv
  subst hi
  refine call_meets PySem.F.slot_list_count ⟨_, ho, rfl⟩ PySem.F.entry_list_count (PySem.F.args_list_count_2 _ _) (SeqAt.list_countAt p (bs.map Value.bool).toArray n dd sl (.bool true) isTrueV) ⟨ho, fun y hy => ?_, ?_⟩
  · obtain ⟨b, _, rfl⟩ := List.mem_map.mp (by simpa using hy : y ∈ bs.map Value.bool)
    exact SeqAt.EqAt.bool_bool b true
  · have ec : ((bs.map Value.bool).toArray.toList.countP isTrueV) = bs.count true := by
      rw [List.countP_map]
      unfold List.count
      apply List.countP_congr
      intro b _
      rfl
    refine ⟨.int (bs.count true : Nat), H, I.tok _, ⟨s.toks, ?_⟩, q⟩
    show Value.int ((((bs.map Value.bool).toArray.toList.countP isTrueV : Nat)) : Int) s.toks = _
    rw [ec]
def spField (p : Addr × Obj) (d : Addr) : Sp := fun vs H Q _ => ∃ (fs : List (Str × V)) (v : V), vs = [.ref p.1] ∧ H d = some (exd d fs) ∧ fs.lookup ("given" : Str) = some v ∧ Q v H
/-- the class at C is the i-th, its objects keep 'given', it is of the bases as b says -/
structure ErrC (K : PySem.W.Frag) (c : Nat → Addr) (bR bK bP C : Addr) (i : Nat) : Prop where
  T : ExcC K C
  hi : i < 8
  kits : ∀ j, j < 11 → PySem.W.kitOne K (.ref C) (.ref (c j)) = some (decide (j = i))
  no : PySem.W.findIn K (.ref C) "given" = some none
  k1 : PySem.W.kitOne K (.ref C) (.ref bR) = some true
  k2 : PySem.W.kitOne K (.ref C) (.ref bK) = some false
  k3 : PySem.W.kitOne K (.ref C) (.ref bP) = some false
  v1 : PySem.W.kitOne K (.ref C) (.type "ValueError") = some true
  v2 : PySem.W.kitOne K (.ref C) (.type "LookupError") = some false
  v3 : PySem.W.kitOne K (.ref C) (.type "ArithmeticError") = some false
  ex : PySem.W.exmAny K (.ref C) [.ref bR, .ref bK, .ref bP] = some true
section
variable {P : Program} {w : World} {K : PySem.W.Frag} {mg : Str → Option Value} {base : Heap} {p : Addr × Obj} {C d : Addr} {c : Nat → Addr} {i : Nat} {bR bK bP : Addr}
theorem scField : FnScope ["_law_e"] ["_law_e"] (defScope sField) := ⟨rfl, rfl, rfl, by decide +kernel, rfl, by decide +kernel, by decide +kernel⟩
theorem ok_field {f : Addr} {fd : FuncData} (F : Fun K "_law_field" "_law_field" sField f fd) (hp : PIs p C d) (EC : ErrC K c bR bK bP C i) (gc : ∀ j, j < 11 → mg (cn.getD j Str.empty) = some (.ref (c j))) (hIs : mg "isinstance" = none) : FnE p P w K mg base 1 f fd ["_law_e"] (spField p d) := by
  refine F.okE scField (fun vs H Q E h => ?_) (fun cdv A outer s H vs Q E hot hr h => ?_)
  · obtain ⟨fs, v, rfl, _⟩ := h
    rfl
  · obtain ⟨fs, v, rfl, hd, hv, k⟩ := h
    have hb : Hb (cxH CX0 P w K mg base ["_law_e"] "_law_field" (defScope sField) f cdv A outer s H E p) p := Hb.of_pn hot.1 hot.2 (List.mem_singleton.mpr rfl)
    refine ⟨_, pss_cons (ps_if (pt_val (pe_callB (call_isP hb hp EC.T) (by rfl) hIs (by decide +kernel) (pa_cons (pv 0) (pa_cons (pe_glob (v := .ref (c 9)) rfl (gc 9 (by decide)) rfl) pa_nil)))) (pss_one ps_never) pss_nil)
      (pss_one (ps_ret (pe_ifExp (PW.pt (pw_or (pt_val (pe_callB (call_isP hb hp EC.T) (by rfl) hIs (by decide +kernel) (pa_cons (pv 0) (pa_cons (pe_glob (v := .ref (c 8)) rfl (gc 8 (by decide)) rfl) pa_nil))))
        (pw_or1 (pt_val (pe_callB (call_isP hb hp EC.T) (by rfl) hIs (by decide +kernel) (pa_cons (pv 0) (pa_cons (pe_glob (v := .ref (c 10)) rfl (gc 10 (by decide)) rfl) pa_nil))))))) pe_non (pe_xfP hb hp EC.T (pv 0))))), ?_⟩
    have hi := EC.hi
    have z : ∀ j, j < 11 → 8 ≤ j → PySem.W.kitOne K (.ref C) (.ref (c j)) = some false := fun j h1 h2 => by
      rw [EC.kits j h1, decide_eq_false (by omega)]
    refine ⟨_, rfl, .ref (c 9), .ref (c 9), false, fs, rfl, hd, .own _, z 9 (by decide) (by decide), _, rfl, iteF ?_⟩
    refine ⟨_, rfl, .ref (c 8), .ref (c 8), false, fs, rfl, hd, .own _, z 8 (by decide) (by decide), _, rfl, iteF ?_⟩
    refine ⟨_, rfl, .ref (c 10), .ref (c 10), false, fs, rfl, hd, .own _, z 10 (by decide) (by decide), _, rfl, iteF ?_⟩
    exact ⟨_, rfl, fs, v, rfl, hd, EC.no, hv, k⟩
end
end My
namespace My
open PySem PySem.Spec PyProof.Rows L2 PySem.GX L2H LamX
/-- what the law's catcher makes of a call -/
def TTerr (K : PySem.W.Frag) (c : Nat → Addr) (bR bK bP : Addr) : (XK → Hp → VK → Prop) → Hp → VK → Prop := fun tl H Q =>
  tl (fun cls dd H' => ∃ (C d : Addr) (i : Nat) (fs : List (Str × V)) (v : V), cls = .ref C ∧ dd = some d ∧ ErrC K c bR bK bP C i ∧ H' d = some (exd d fs) ∧ fs.lookup ("given" : Str) = some v ∧ ∀ l H'', Same H' H'' → H'' l = some (.lst [.str (wd.getD i Str.empty), v]) → Q (.ref l) H'') H
    (fun v H' => ∀ l, H' l = none → Q (.ref l) (upd H' l (.lst [.str "told", v])))
abbrev nError : List Str := ["_law_act", "_law_told", "_law_e", "_law_bases", "_law_plain"]
theorem scError : FnScope nError ["_law_act"] (defScope sError) := ⟨rfl, rfl, rfl, by decide +kernel, rfl, by decide +kernel, by decide +kernel⟩
/-- what the suite is asked -/
def tsErr (K : PySem.W.Frag) (c : Nat → Addr) (bR bK bP : Addr) (a : Addr) (cls : Value) (dd : Option Addr) : TS := fun D σ H => ∃ (σ0 : L2.St) (C d : Addr) (i : Nat) (fs : List (Str × V)) (v : V), σ = σ0.set 2 (some (.ref a)) ∧ cls = .ref C ∧ dd = some d ∧ ErrC K c bR bK bP C i ∧ H d = some (exd d fs) ∧ fs.lookup ("given" : Str) = some v ∧
  ∀ l H'', Same H H'' → H'' l = some (.lst [.str (wd.getD i Str.empty), v]) → D.rt (.ref l) H''
theorem eqv_bools : PyData.eqv (.list [.bool true, .bool false, .bool false]) (.list [.bool true, .bool false, .bool false]) = true := by decide
theorem PE_up {X : Cx} {e : Expr} {t : TE} (h : PE X e t) : PE X e (fun σ H Q => ∃ Qc : VK, t σ H Qc ∧ ∀ v H', Qc v H' → Q v H') :=
  ⟨fun pl s σ H Q I ⟨Qc, q, m⟩ => wpAny_mono (h.run pl s σ H Qc I q) (fun _ _ ⟨v, H1, I1, r, z⟩ => ⟨v, H1, I1, r, m v H1 z⟩) fun _ _ z => z⟩
theorem pss_by {X : Cx} {b : List Stmt} {ts : TS} (h : ∀ (D : Ends) (σ : L2.St) (H : Hp), σ.length = X.N.length → ts D σ H → ∃ t, PSs X b t ∧ t D σ H) : PSs X b ts :=
  ⟨fun pl s σ H D I want => let ⟨_, ht, q⟩ := h D σ H I.len want; ht.run pl s σ H D I q⟩
theorem gives_err {X : Cx} {k : Nat} {g fC fF : Addr} {cdg : Value} {fdC fdF : FuncData} {c : Nat → Addr} {bR bK bP : Addr} {q : Str} (FC : Fun X.K "_law_class" "_law_class" sClass fC fdC) (bC : Binds X.K fdC ["_law_e"] []) (gC : X.mg "_law_class" = some (.ref fC))
    (FF : Fun X.K "_law_field" "_law_field" sField fF fdF) (bF : Binds X.K fdF ["_law_e"] []) (gF : X.mg "_law_field" = some (.ref fF)) (gc : ∀ j, j < 11 → X.mg (cn.getD j Str.empty) = some (.ref (c j))) (g1 : X.mg "NotRight" = some (.ref bR)) (g2 : X.mg "NotKnown" = some (.ref bK)) (g3 : X.mg "NotPossible" = some (.ref bP))
    (hIs : X.mg "isinstance" = none) (hL : X.mg "len" = none) (hVE : X.mg "ValueError" = none) (hLE : X.mg "LookupError" = none) (hAE : X.mg "ArithmeticError" = none) :
    GivesN X (k + 1) nError "_law_error" (defScope sError) g cdg (defBody sError) "_law_act" q (TTerr X.K c bR bK bP) := by
  intro f c' s H Q tl hr act hc want
  refine ⟨_, pss_cons (ps_try3 (X := (cxOf CX0 X.prog X.w X.K X.mg X.base nError "_law_error" (defScope sError) g cdg X.A X.stack s H E0).nox) (i := 2) (c1 := .ref bR) (c2 := .ref bK) (c3 := .ref bP) (ts := tsErr X.K c bR bK bP)
      (tb := fun W D σ H => ∃ Ech : XK, (∀ cls d σ' H', Ech cls d H' → W cls d σ' H') ∧ σ[0]? = some (some (.ref f)) ∧ H c' = some (CodeO c' q) ∧ ∃ Qc : VK, tl Ech H Qc ∧ ∀ v H', Qc v H' → D.nx (σ.set 1 (some v)) H')
      rfl rfl scError.nd rfl rfl ⟨rfl, by decide, .inl g1⟩ ⟨rfl, by decide, .inl g2⟩ ⟨rfl, by decide, .inl g3⟩ (fun W pn xe tk _ => ?_) (fun a oe cls d pn hz hf => ?_)) (pss_one (ps_ret (pe_lst (pa_cons pe_str (pa_cons (pv 1) pa_nil))))), ?_⟩
  · refine ⟨fun pl s' σ H' D I ⟨Ech, hW, h1, h2, Qc, h3, h4⟩ => ?_⟩
    exact (pss_one (ps_set (i := 1) scError.nd rfl (Or.inl rfl) (PE_up (act W pn xe Ech _ _ tk hW)))).run pl s' σ H' D I ⟨Qc, ⟨h1, h2, h3⟩, h4⟩
  · refine pss_by fun D σ6 H6 len ⟨σ0, C, dd, i, fs, v, eσ, e1, e2, EC, hd, hv, kk⟩ => ?_
    subst eσ e1 e2
    have hp : PIs (a, oe) C dd := ⟨hz.1, hz.2.1⟩
    obtain ⟨vs, dv⟩ := hf
    have hot : Hot1 ((cxOf CX0 X.prog X.w X.K X.mg X.base nError "_law_error" (defScope sError) g cdg X.A X.stack s H E0).nox.suite a ((a, oe) :: pn)).A (a, oe) := ⟨rfl, vs, dv, hz.2.2 vs dv⟩
    have hb : Hb ((cxOf CX0 X.prog X.w X.K X.mg X.base nError "_law_error" (defScope sError) g cdg X.A X.stack s H E0).nox.suite a ((a, oe) :: pn)) (a, oe) := Hb.of_pn hot.1 hot.2 (List.mem_cons_self ..)
    have hrH : RoomH 1 ((cxOf CX0 X.prog X.w X.K X.mg X.base nError "_law_error" (defScope sError) g cdg X.A X.stack s H E0).nox.suite a ((a, oe) :: pn)).A := by
      have z : RoomH 1 (X.A.deeper (envOfC "_law_error" (defScope sError) s.heap.objs.size g cdg)) := (roomH_of hr).mono (by omega)
      exact ⟨z.dp, z.un⟩
    have eC := ok_class (P := X.prog) (w := X.w) (base := X.base) FC hp EC.T (Nat.lt_trans EC.hi (by decide)) gc EC.kits hIs hL
    have eF := ok_field (P := X.prog) (w := X.w) (base := X.base) FF hp EC gc hIs
    have hu : ((cxOf CX0 X.prog X.w X.K X.mg X.base nError "_law_error" (defScope sError) g cdg X.A X.stack s H E0).nox.suite a ((a, oe) :: pn)).A.units + 64 < cLine := hr.units
    rw [List.length_set] at len
    obtain ⟨s0, s1, s2, s3, s4, rfl⟩ : ∃ s0 s1 s2 s3 s4, σ0 = [s0, s1, s2, s3, s4] := by
      match σ0, len with
      | [s0, s1, s2, s3, s4], _ => exact ⟨s0, s1, s2, s3, s4, rfl⟩
    refine ⟨_, pss_cons (ps_set (i := 3) scError.nd rfl (Or.inl rfl) (pe_lst (pa_cons (pe_callB (call_isP hb hp EC.T) (by rfl) hIs (by decide +kernel) (pa_cons (pv 2) (pa_cons (pe_glob (v := .ref bR) rfl g1 rfl) pa_nil)))
          (pa_cons (pe_callB (call_isP hb hp EC.T) (by rfl) hIs (by decide +kernel) (pa_cons (pv 2) (pa_cons (pe_glob (v := .ref bK) rfl g2 rfl) pa_nil))) (pa_cons (pe_callB (call_isP hb hp EC.T) (by rfl) hIs (by decide +kernel) (pa_cons (pv 2) (pa_cons (pe_glob (v := .ref bP) rfl g3 rfl) pa_nil))) pa_nil)))))
      (pss_cons (ps_set (i := 4) scError.nd rfl (Or.inl rfl) (pe_lst (pa_cons (pe_callB (call_isP hb hp EC.T) (by rfl) hIs (by decide +kernel) (pa_cons (pv 2) (pa_cons (pe_bltn (v := .ty "ValueError") (by rfl) hVE (by decide +kernel) rfl) pa_nil)))
          (pa_cons (pe_callB (call_isP hb hp EC.T) (by rfl) hIs (by decide +kernel) (pa_cons (pv 2) (pa_cons (pe_bltn (v := .ty "LookupError") (by rfl) hLE (by decide +kernel) rfl) pa_nil))) (pa_cons (pe_callB (call_isP hb hp EC.T) (by rfl) hIs (by decide +kernel) (pa_cons (pv 2) (pa_cons (pe_bltn (v := .ty "ArithmeticError") (by rfl) hAE (by decide +kernel) rfl) pa_nil))) pa_nil)))))
      (pss_one (ps_ret (pe_lst (pa_cons (pe_ifExp (PW.pt (pw_and (pt_cmpR (op_eqD hu) (pv 3) (pv 4) (nomark _)) (pw_and1 (pt_cmpR op_eq (pe_bm PySem.F.plainAttrs_list PySem.F.slot_list_count PySem.F.type_list_count mt_bcount (pv 3) (pa_cons pe_bl pa_nil)) pe_int (nomark _)))))
          (pe_callE eC hrH hot (List.mem_cons_self ..) rfl gC FC.kp bC (pa_cons (pv 2) pa_nil)) pe_str) (pa_cons (pe_callE eF hrH hot (List.mem_cons_self ..) rfl gF FF.kp bF (pa_cons (pv 2) pa_nil)) pa_nil)))))), ?_⟩
    refine ⟨_, rfl, .ref bR, .ref bR, true, fs, rfl, hd, .own _, EC.k1, ?_⟩
    refine ⟨_, rfl, .ref bK, .ref bK, false, fs, rfl, hd, .own _, EC.k2, ?_⟩
    refine ⟨_, rfl, .ref bP, .ref bP, false, fs, rfl, hd, .own _, EC.k3, (by show 3 ≤ sizeLine; decide), fun q1 h1 => ?_⟩
    refine ⟨_, rfl, .ty "ValueError", .type "ValueError", true, fs, rfl, keep1 hd h1, .ty _, EC.v1, ?_⟩
    refine ⟨_, rfl, .ty "LookupError", .type "LookupError", false, fs, rfl, keep1 hd h1, .ty _, EC.v2, ?_⟩
    refine ⟨_, rfl, .ty "ArithmeticError", .type "ArithmeticError", false, fs, rfl, keep1 hd h1, .ty _, EC.v3, (by show 3 ≤ sizeLine; decide), fun q2 h2 => ?_⟩
    refine ⟨_, rfl, _, rfl, _, _, .lst (SqL.of (keep1 upd_same h2)) (.cons (.bl true) (.cons (.bl false) (.cons (.bl false) .nil))), .lst (SqL.of upd_same) (.cons (.bl true) (.cons (.bl false) (.cons (.bl false) .nil))), (by decide +kernel), (by decide +kernel), _, rfl, ?_⟩
    rw [eqv_bools]
    refine iteT ⟨_, rfl, .inl ⟨rfl, _, SqL.of (keep1 upd_same h2)⟩, q1, [true, false, false], rfl, rfl, SqL.of (keep1 upd_same h2), rfl, _, rfl, ite2 (fun _ => ?_) (fun z => absurd (decide_eq_true rfl) z)⟩
    refine ⟨_, rfl, fs, rfl, keep1 (keep1 hd h1) h2, fun H7 s7 => ?_⟩
    refine ⟨_, rfl, fs, v, rfl, s7 _ _ (keep1 (keep1 hd h1) h2), hv, (by show 2 ≤ sizeLine; decide), fun l hl => ?_⟩
    exact kk l _ ((((same_new h1).trans (same_new h2)).trans s7).trans (same_new hl)) upd_same
  · refine ⟨_, fun cls dd σ' H' hE => ?_, rfl, hc, _, want, fun v H' z => ?_⟩
    · obtain ⟨C, d, i, fs, v, rfl, rfl, EC, hd, hv, kk⟩ := hE
      exact ⟨EC.ex, fun a _ => ⟨σ', C, d, i, fs, v, rfl, rfl, rfl, EC, hd, hv, kk⟩⟩
    · exact ⟨_, rfl, (by show 2 ≤ sizeLine; decide), fun l hl => z l hl⟩
end My
namespace My
open PySem PySem.Spec PyProof.Rows L2 PySem.GX L2H LamX
/-- a list beside an empty one -/
def rEqNil (K : PySem.W.Frag) (neg : Bool) : R2 := fun x y H Q => ∃ (a b : Addr) (xs : List V), x = .ref a ∧ y = .ref b ∧ SqL K H a xs ∧ SqL K H b [] ∧ Q (.bl (if neg then !xs.isEmpty else xs.isEmpty)) H
theorem op_eqNil {X : Cx} (hu : X.A.units < cLine) : OpR X (compareOp .Eq) (rEqNil X.K false) := by
  intro pins s σ H x y v u Q I rx ry ⟨a, b, xs, ex, ey, ha, hb, q⟩
  subst ex ey
  cases rx
  cases ry
  obtain ⟨its, rv, ⟨o, n, ho, hc, _, hd⟩, _⟩ := I.list ha
  obtain ⟨its2, rv2, ⟨o2, n2, ho2, hc2, _, hd2⟩, _⟩ := I.list hb
  cases rv2
  cases rv with
  | nil => exact SeqAt.RcAt.lists (e := fun _ => true) ⟨o, ho, hc, n, hd⟩ ⟨o2, ho2, hc2, n2, hd2⟩ rfl hu (fun j h1 _ => absurd h1 (Nat.not_lt_zero j)) _ _ _ _ ⟨.bl _, H, I, rfl, q⟩
  | cons r1 r2 => exact SeqAt.RcAt.lists_lengths ⟨o, ho, hc, n, hd⟩ ⟨o2, ho2, hc2, n2, hd2⟩ (by simp) hu _ _ _ _ ⟨.bl _, H, I, rfl, q⟩
theorem op_neNil {X : Cx} (hu : X.A.units < cLine) : OpR X (compareOp .NotEq) (rEqNil X.K true) := by
  intro pins s σ H x y v u Q I rx ry ⟨a, b, xs, ex, ey, ha, hb, q⟩
  subst ex ey
  cases rx
  cases ry
  obtain ⟨its, rv, ⟨o, n, ho, hc, _, hd⟩, _⟩ := I.list ha
  obtain ⟨its2, rv2, ⟨o2, n2, ho2, hc2, _, hd2⟩, _⟩ := I.list hb
  cases rv2
  cases rv with
  | nil => exact SeqAt.RcNeAt.lists (e := fun _ => true) ⟨o, ho, hc, n, hd⟩ ⟨o2, ho2, hc2, n2, hd2⟩ rfl hu (fun j h1 _ => absurd h1 (Nat.not_lt_zero j)) _ _ _ _ ⟨.bl _, H, I, rfl, q⟩
  | cons r1 r2 => exact SeqAt.RcNeAt.lists_lengths ⟨o, ho, hc, n, hd⟩ ⟨o2, ho2, hc2, n2, hd2⟩ (by simp) hu _ _ _ _ ⟨.bl _, H, I, rfl, q⟩
/-- f(k = e, ..), keywords alone -/
def tCallKw (sp : Sp) (gV : List V → List V → List V) (n : Nat) (E : XK) (tk : TA) : TE := fun σ H Q => tk σ H fun zs H2 => zs.length = n ∧ sp (gV [] zs) H2 Q E
theorem pe_callKw {X : Cx} {CX : CXT} {k : Nat} {f : Addr} {fd : FuncData} {x : Str} {ps ks : List Str} {sp : Sp} {p pos : Pos} {kws : List Keyword} {tk : TA} {E : XK} {g : List Value → List Value → List Value} {gV : List V → List V → List V}
    (F : FnOk X.prog X.w X.K X.mg X.base CX k f fd ps sp) (hr : Room k X.A) (hg : Gl X x) (hm : X.mg x = some (.ref f)) (hk : PySem.W.keepIn X.K (.ref f) = true) (hb : KBn X.K fd ps 0 ks g gV) (hx : Passes CX X E) (hkw : PK X kws tk)
    (hdb : (x == ("__debug__" : Str)) = false := by decide) (hall : (backToKw pos (keywordEach kws X.env)).all (·.1.isSome) = true := by rfl) (hks : (backToKw pos (keywordEach kws X.env)).filterMap (·.1) = ks := by rfl)
    (hpl : ((backTo pos (starEach [] X.env)).any (·.1) || (backToKw pos (keywordEach kws X.env)).any (·.1.isNone)) = false := by rfl) :
    PE X (.Call (.Name x p) [] kws pos) (tCallKw sp gV ks.length E tk) := by
  refine ⟨fun pins s σ H Q I want => wpAny_Call_Name_kw (ld_glob I hg hm ?_ hdb)⟩
  refine PySem.W.callWith_KW0 (first := []) (h₀ := X.base) I.ok.mod.kin hk hall (thn (hkw.run pos pins s σ H _ I want) fun ws s2 ⟨zs, H2, I2, rz, lz, q2⟩ => ⟨I2.kIn, ?_⟩) hpl
  rw [hks]
  exact run_fnN (us := []) (vs := []) (n := 0) (ks := ks) F hr hb hx I2 .nil rz rfl lz q2
/-- data that can be shown -/
structure Nc (d : PyData) : Prop where
  sh : d.showable = true
  ln : d.shown.length ≤ 12000
  dp : d.depth ≤ 40
  st : ∀ z, d = .str z → Low z ∧ z.length ≤ 40
theorem menu_nc : ∀ d ∈ menu, Nc d := by
  have h : ∀ d ∈ menu, d.showable = true ∧ d.shown.length ≤ 12000 ∧ d.depth ≤ 40 ∧ (match d with | .str z => z.cps.toList.all (fun c => decide (c < 256)) && decide (z.length ≤ 40) | _ => true) = true := by decide +kernel
  intro d hd
  obtain ⟨a, b, c, e⟩ := h d hd
  refine ⟨a, b, c, fun z ez => ?_⟩
  subst ez
  have e' : (z.cps.toList.all (fun c => decide (c < 256)) && decide (z.length ≤ 40)) = true := e
  rw [Bool.and_eq_true_iff] at e'
  exact ⟨fun c hc => of_decide_eq_true (List.all_eq_true.mp e'.1 c hc), of_decide_eq_true e'.2⟩
theorem nc_str {r : Str} (h : Low r) (hl : r.length ≤ 40) : Nc (.str r) := by
  have := repr_short h
  refine ⟨by simp only [PyData.showable], by simp only [PyData.shown]; omega, by simp only [PyData.depth]; omega, fun z e => by cases e; exact ⟨h, hl⟩⟩
theorem nc_int : ∀ n : Nat, n ≤ 1001 → Nc (.int (n : Int)) := by
  have h : ∀ n : Nat, n < 1002 → (PyData.int (n : Int)).showable = true ∧ (PyData.int (n : Int)).shown.length ≤ 12000 ∧ (PyData.int (n : Int)).depth ≤ 40 := by decide +kernel
  intro n hn
  obtain ⟨a, b, c⟩ := h n (by omega)
  exact ⟨a, b, c, fun z e => by cases e⟩
/-- what repr of a pair in a list is asked -/
theorem pair_shown {w : Str} {d : PyData} (hw : w ∈ wd ∨ w = "told") (h : Nc d) : PyData.showableAll [.str w, d] = true ∧ (PyData.list [.str w, d]).shown.length ≤ sizeLine ∧ (PyData.list [.str w, d]).depth ≤ 60 := by
  refine ⟨?_, ?_, ?_⟩
  · simp only [PyData.showableAll, PyData.showable, h.sh, Bool.and_self]
  · have e : (PyData.list [.str w, d]).shown = (("[" : Str) ++ ("" : Str) ++ reprText w) ++ (", " : Str) ++ d.shown ++ "]" := by
      simp only [PyData.shown, PyData.shownAll]
      rfl
    rw [e, len_app, len_app, len_app, len_app, len_app]
    have l1 : (reprText w).length ≤ 100 := by
      have : ∀ w ∈ ("told" : Str) :: wd, (reprText w).length ≤ 100 := by decide +kernel
      rcases hw with m | rfl
      · exact this w (List.mem_cons_of_mem _ m)
      · exact this _ (List.mem_cons_self ..)
    have := h.ln
    have a : ("[" : Str).length = 1 := rfl
    have b : ("" : Str).length = 0 := rfl
    have c : (", " : Str).length = 2 := rfl
    have e : ("]" : Str).length = 1 := rfl
    rw [a, b, c, e, sizeLine_eq]
    omega
  · have := h.dp
    simp only [PyData.depth, PyData.depthAll]
    omega
/-- pairs of a word and a value, in lists -/
inductive Du (H : Hp) : List Addr → List (Str × V) → Prop
  | nil : Du H [] []
  | cons {a : Addr} {e : Str × V} {as : List Addr} {es : List (Str × V)} : H a = some (.lst [.str e.1, e.2]) → Du H as es → Du H (a :: as) (e :: es)
theorem Du.same {H H' : Hp} (s : Same H H') : ∀ {as : List Addr} {es : List (Str × V)}, Du H as es → Du H' as es
  | _, _, .nil => .nil
  | _, _, .cons e t => .cons (s _ _ e) (Du.same s t)
theorem Du.app {H : Hp} : ∀ {as bs : List Addr} {es fs : List (Str × V)}, Du H as es → Du H bs fs → Du H (as ++ bs) (es ++ fs)
  | _, _, _, _, .nil, t => t
  | _, _, _, _, .cons e r, t => .cons e (Du.app r t)
/-- the list at l holds these pairs -/
def DuAt (H : Hp) (l : Addr) (es : List (Str × V)) : Prop := ∃ as : List Addr, H l = some (.lst (as.map V.ref)) ∧ Du H as es
theorem DuAt.same {H H' : Hp} {l : Addr} {es : List (Str × V)} (h : DuAt H l es) (s : Same H H') : DuAt H' l es := by
  obtain ⟨as, e, d⟩ := h
  exact ⟨as, s _ _ e, d.same s⟩
/-- one pair, or none -/
def one (b : Bool) (w : Str) (y : V) : List (Str × V) := if b = true then [(w, y)] else []
/-- [[w, y] for .. in range(1) if b] -/
theorem lc_one {g : TG} {tt : TT} {te : TE} {vs : List Nat} {σ : L2.St} {H : Hp} {D : Addr} {Qd : Hp → Prop} (b : Bool) (w : Str) (y : V) (hD : H D = none)
    (turn : ∀ (H' : Hp) (k : Option V → Hp → Prop), Same H H' → (∀ H4, Same H' H4 → b = false → k none H4) → (∀ l H4, Same H' H4 → H4 l = some (.lst [.str w, y]) → b = true → k (some (.ref l)) H4) →
      g (.int (0 + ((0 : Nat) : Int))) (wipe σ vs) H' fun σ2 H2 => wipe σ2 vs = wipe σ vs ∧ tt σ2 H2 fun c H3 => if c = true then te σ2 H3 fun z H4 => k (some z) H4 else k none H3)
    (hd : ∀ H', Same H H' → DuAt H' D (one b w y) → Qd H') :
    ∃ W : Nat → Nat → Hp → Prop, (∃ m, W 0 m (upd H D (.lst []))) ∧ ∀ i m H, W i m H →
      ((Itr 0 1).stop i H ∧ Qd H) ∨ ((Itr 0 1).go i H ∧ ∃ Nx : Hp → Prop, (∀ H', Nx H' → ∃ m', m' < m ∧ W (i + 1) m' H') ∧ ∀ x H', (Itr 0 1).yld i H x H' → g x (wipe σ vs) H' fun σ2 H2 => wipe σ2 vs = wipe σ vs ∧ tt σ2 H2 fun c H3 =>
        if c = true then te σ2 H3 fun z H4 => ∃ acc, H4 D = some (.lst acc) ∧ acc.length < sizeLine ∧ Nx (upd H4 D (.lst (acc ++ [z]))) else Nx H3) := by
  refine lc_range (lo := 0) (n := 1) (fun j H' => Same H H' ∧ ((j = 0 ∧ H' D = some (.lst [])) ∨ (j = 1 ∧ DuAt H' D (one b w y)))) ⟨same_new hD, .inl ⟨rfl, upd_same⟩⟩ (fun i H' hi h => ?_) (fun H' h => ?_)
  · obtain ⟨s1, h⟩ := h
    have i0 : i = 0 := by omega
    subst i0
    rcases h with ⟨_, eD⟩ | ⟨z, _⟩
    · refine turn H' (fun z H4 => match z with
        | some z => ∃ acc, H4 D = some (.lst acc) ∧ acc.length < sizeLine ∧ (Same H (upd H4 D (.lst (acc ++ [z]))) ∧ ((0 + 1 = 0 ∧ upd H4 D (.lst (acc ++ [z])) D = some (.lst [])) ∨ (0 + 1 = 1 ∧ DuAt (upd H4 D (.lst (acc ++ [z]))) D (one b w y))))
        | none => Same H H4 ∧ ((0 + 1 = 0 ∧ H4 D = some (.lst [])) ∨ (0 + 1 = 1 ∧ DuAt H4 D (one b w y)))) s1 (fun H4 s4 hb => ?_) (fun l H4 s4 el hb => ?_)
      · refine ⟨s1.trans s4, .inr ⟨rfl, [], s4 _ _ eD, ?_⟩⟩
        unfold one
        rw [hb]
        exact .nil
      · have nl : l ≠ D := ne_of el (s4 _ _ eD) (by intro z; cases z)
        refine ⟨[], s4 _ _ eD, by show 0 < sizeLine; decide, fun b' o e => ?_, .inr ⟨rfl, [l], upd_same, ?_⟩⟩
        · rw [upd_ne (ne_of_none e hD)]
          exact s4 _ _ (s1 _ _ e)
        · unfold one
          rw [hb]
          exact .cons (by rw [upd_ne nl]; exact el) .nil
    · omega
  · obtain ⟨s1, h⟩ := h
    rcases h with ⟨z, _⟩ | ⟨_, h⟩
    · omega
    · exact hd H' s1 h
end My
namespace My
open PySem PySem.Spec PyProof.Rows L2 PySem.GX L2H LamX
theorem fold_mem : ∀ (xs acc : List Str) (x : Str), x ∈ xs.foldl ins acc → x ∈ acc ∨ x ∈ xs
  | [], _, _, h => .inl h
  | y :: ys, acc, x, h => by
    rcases fold_mem ys (ins acc y) x h with m | m
    · unfold ins at m
      split at m
      · exact .inl m
      · rcases List.mem_cons.mp m with rfl | m
        · exact .inr (List.mem_cons_self ..)
        · exact .inl m
    · exact .inr (List.mem_cons_of_mem _ m)
theorem set_mem {xs : List Str} {x : Str} (h : x ∈ setFold xs) : x ∈ xs := by
  rcases fold_mem xs [] x h with m | m
  · cases m
  · exact m
theorem cut_len (z : Str) (lo hi : Option Int) : (cutS z lo hi).length ≤ z.length := by
  unfold cutS
  show (List.toArray _).size ≤ z.length
  rw [List.size_toArray, List.length_take, List.length_drop, Array.length_toList]
  show _ ≤ z.cps.size
  omega
theorem low_cut {z : Str} (h : Low z) (lo hi : Option Int) : Low (cutS z lo hi) := fun c hc => h c (cut_sub z lo hi c hc)
theorem low_mark {r : Str} (h : Low r) : Low (mark r) := Low.app (Low.app (by unfold Low; decide +kernel) h) (by unfold Low; decide +kernel)
/-- short texts of low signs -/
def Few (M : Nat) (w : Str) : Prop := Low w ∧ w.length ≤ M
theorem PcsD.few {m : Str} {n : Nat} {zs : List Str} (h : PcsD m n zs) (hm : Few 50 m) : zs.length ≤ 51 ∧ ∀ z ∈ zs, Few 50 z := by
  rcases h with ⟨_, rfl⟩ | ⟨_, p, _⟩
  · exact ⟨by show 1 ≤ 51; decide, fun z hz => by rw [List.mem_singleton.mp hz]; exact hm⟩
  · refine ⟨?_, fun z hz => ?_⟩
    · rw [p.length_eq]
      have := setFold_len _ (pcs m n) rfl
      rw [pcs_len] at this
      have := hm.2
      omega
    · have m1 := set_mem (p.mem_iff.mp hz)
      unfold pcs at m1
      obtain ⟨i, _, rfl⟩ := List.mem_map.mp m1
      exact ⟨low_cut hm.1 _ _, Nat.le_trans (cut_len _ _ _) hm.2⟩
theorem sum_len {M : Nat} : ∀ {l : List Str}, (∀ y ∈ l, y.length ≤ M) → (l.map (·.length)).sum ≤ l.length * M
  | [], _ => Nat.zero_le _
  | y :: t, h => by
    have h1 := h y (List.mem_cons_self ..)
    have h2 := sum_len (l := t) fun z hz => h z (List.mem_cons_of_mem _ hz)
    rw [List.map_cons, List.sum_cons, List.length_cons, Nat.succ_mul]
    omega
theorem shown_strs : ∀ ws : List Str, PyData.shownAll (ws.map .str) = ws.map reprText
  | [] => by simp only [List.map_nil, PyData.shownAll]
  | w :: t => by simp only [List.map_cons, PyData.shownAll, PyData.shown, shown_strs t]
theorem showable_strs : ∀ ws : List Str, PyData.showableAll (ws.map .str) = true
  | [] => by simp only [List.map_nil, PyData.showableAll]
  | w :: t => by simp only [List.map_cons, PyData.showableAll, PyData.showable, showable_strs t, Bool.and_self]
theorem strs_fit {ws : List Str} (hl : ws.length ≤ 51) (h : ∀ z ∈ ws, Few 50 z) : PyData.showableAll (ws.map .str) = true ∧ (PyData.tuple (ws.map .str)).shown.length ≤ sizeLine ∧ (PyData.tuple (ws.map .str)).depth ≤ 60 ∧ SeqAt.shaped (.tuple (ws.map .str)) = true := by
  have ls := lay_strs (a := ws) fun x hx => ok_low (h x hx).1
  refine ⟨showable_strs ws, ?_, ?_, ?_⟩
  · simp only [PyData.shown]
    rw [shown_strs]
    have a := tupleText_len_le (ws.map reprText)
    have b : ((ws.map reprText).map (·.length)).sum ≤ (ws.map reprText).length * 502 := sum_len fun y hy => by
      obtain ⟨w, hw, rfl⟩ := List.mem_map.mp hy
      have := repr_short (h w hw).1
      have := (h w hw).2
      omega
    rw [List.length_map] at a b
    have : ws.length * 502 ≤ 51 * 502 := Nat.mul_le_mul_right _ hl
    rw [sizeLine_eq]
    omega
  · simp only [PyData.depth]
    rw [ls.2]
    omega
  · have d1 : (PyData.tuple (ws.map .str)).canLay0 = true := ls.1
    have d2 : (PyData.tuple (ws.map .str)).depth = 1 := by
      show PyData.depthAll _ + 1 = 1
      rw [ls.2]
    unfold SeqAt.shaped
    rw [d1, d2]
    rfl
theorem sb_fit {x : Str} {b : Bool} (h : Few 50 x) : PyData.showableAll [.str x, .bool b] = true ∧ (PyData.tuple [.str x, .bool b]).shown.length ≤ sizeLine ∧ (PyData.tuple [.str x, .bool b]).depth ≤ 60 ∧ SeqAt.shaped (.tuple [.str x, .bool b]) = true := by
  have o := ok_low h.1
  refine ⟨by simp only [PyData.showableAll, PyData.showable, Bool.and_self], ?_, by simp only [PyData.depth, PyData.depthAll]; decide, ?_⟩
  · simp only [PyData.shown, PyData.shownAll]
    have a := tupleText_len_le [reprText x, if b = true then ("True" : Str) else "False"]
    have c : (if b = true then ("True" : Str) else "False").length ≤ 5 := by cases b <;> decide +kernel
    have := repr_short h.1
    have := h.2
    simp only [List.map_cons, List.map_nil, List.sum_cons, List.sum_nil, List.length_cons, List.length_nil] at a
    rw [sizeLine_eq]
    omega
  · unfold SeqAt.shaped
    simp only [PyData.canLay0, PyData.canLayAll0, PyData.depth, PyData.depthAll, o]
    rfl
theorem ssb_fit {x y : Str} {b : Bool} (h : Few 50 x) (h' : Few 50 y) : PyData.showableAll [.tuple [.str x, .str y], .bool b] = true ∧ (PyData.tuple [.tuple [.str x, .str y], .bool b]).shown.length ≤ sizeLine ∧ (PyData.tuple [.tuple [.str x, .str y], .bool b]).depth ≤ 60 ∧ SeqAt.shaped (.tuple [.tuple [.str x, .str y], .bool b]) = true := by
  have o := ok_low h.1
  have o' := ok_low h'.1
  refine ⟨by simp only [PyData.showableAll, PyData.showable, Bool.and_self], ?_, by simp only [PyData.depth, PyData.depthAll]; decide, ?_⟩
  · simp only [PyData.shown, PyData.shownAll]
    have a := tupleText_len_le [tupleText [reprText x, reprText y], if b = true then ("True" : Str) else "False"]
    have a2 := tupleText_len_le [reprText x, reprText y]
    have c : (if b = true then ("True" : Str) else "False").length ≤ 5 := by cases b <;> decide +kernel
    have := repr_short h.1
    have := h.2
    have := repr_short h'.1
    have := h'.2
    simp only [List.map_cons, List.map_nil, List.sum_cons, List.sum_nil, List.length_cons, List.length_nil] at a a2
    rw [sizeLine_eq]
    omega
  · unfold SeqAt.shaped
    simp only [PyData.canLay0, PyData.canLayAll0, PyData.depth, PyData.depthAll, o, o']
    rfl
/-- what a look is asked where it is shown or compared -/
theorem LookD.fit {k : Str} {n : Nat} {r : Str} {d : PyData} (h : LookD k n r d) (hr : Low r) (lr : r.length ≤ 40) : ∃ ds, d = .tuple ds ∧ PyData.showableAll ds = true ∧ (PyData.tuple ds).shown.length ≤ sizeLine ∧ (PyData.tuple ds).depth ≤ 60 ∧ SeqAt.shaped d = true := by
  have fr : Few 50 r := ⟨hr, by omega⟩
  rcases h with ⟨_, rfl⟩ | ⟨_, _, rfl⟩ | ⟨_, _, zs, rfl, hz⟩
  · unfold lastD
    split
    · obtain ⟨a, b, c, e⟩ := sb_fit (b := true) fr
      exact ⟨_, rfl, a, b, c, e⟩
    · obtain ⟨a, b, c, e⟩ := sb_fit (b := false) (x := lastS n r) ⟨low_cut hr _ _, Nat.le_trans (cut_len _ _ _) fr.2⟩
      exact ⟨_, rfl, a, b, c, e⟩
  · unfold endsD
    split
    · obtain ⟨a, b, c, e⟩ := sb_fit (b := true) fr
      exact ⟨_, rfl, a, b, c, e⟩
    · obtain ⟨a, b, c, e⟩ := ssb_fit (b := false) (x := firstS n r) (y := lastS n r) ⟨low_cut hr _ _, Nat.le_trans (cut_len _ _ _) fr.2⟩ ⟨low_cut hr _ _, Nat.le_trans (cut_len _ _ _) fr.2⟩
      exact ⟨_, rfl, a, b, c, e⟩
  · obtain ⟨l1, l2⟩ := hz.few ⟨low_mark hr, by rw [mark_len]; omega⟩
    obtain ⟨a, b, c, e⟩ := strs_fit l1 l2
    exact ⟨_, rfl, a, b, c, e⟩
theorem dp_tup {K : PySem.W.Frag} {H : Hp} {v : V} {ds : List PyData} (h : Dp K H v (.tuple ds)) : ∃ a, v = .ref a := by
  cases h
  exact ⟨_, rfl⟩
end My
namespace My
open PySem PySem.Spec PyProof.Rows L2 PySem.GX
def spPickS : Sp := fun vs H Q _ => ∃ (p : Addr) (x : Str), vs = [.ref p, .str x] ∧ Wl H p ∧ 0 < x.length ∧ x.length ≤ 1000 ∧ ∀ (c : Nat) (o : HO), c ∈ x.cps.toList → Wl (upd H p o) p → Q (.str (sg c)) (upd H p o)
def spLine : Sp := fun vs H Q _ => ∃ (p : Addr) (x : Str) (n : Nat), vs = [.ref p, .str x, .int (n : Int)] ∧ Wl H p ∧ 0 < x.length ∧ x.length ≤ 1000 ∧ n ≤ 1000 ∧ ∀ (r : Str) (H' : Hp), r.length ≤ n → (∀ c ∈ r.cps.toList, c ∈ x.cps.toList) → Sb p H H' → Wl H' p → Q (.str r) H'
section
variable {P : Program} {w : World} {K : PySem.W.Frag} {mg : Str → Option Value} {base : Heap}
theorem ok_pickS {f : Addr} {fd : FuncData} (F : Fun K "_law_pick" "_law_pick" sPick f fd) (hD : Hv P w K mg base 1 "_law_dip" ["_law_well_here", "_law_size"] spDip) (hL : mg "len" = none) : FnOk P w K mg base CX0 2 f fd ["_law_well_here", "_law_menu"] spPickS := by
  refine F.ok scPick (fun vs H Q E h => ?_) (fun cdv A outer s H vs Q E hr h => ?_)
  · obtain ⟨p, x, rfl, _⟩ := h
    rfl
  · obtain ⟨p, x, rfl, hW, z0, z1, k⟩ := h
    refine ⟨_, pss_one (ps_ret (pe_ix ix_str (pv 1) (pe_cl hD hr rfl pass0 (pa_cons (pv 0) (pa_cons (pe_callB call_len_str (by rfl) hL PySem.boot_len (pa_cons (pv 1) pa_nil)) pa_nil))) (fun _ _ => rfl))), ?_⟩
    have zs : x.length ≤ sizeLine := by rw [sizeLine_eq]; omega
    refine ⟨_, rfl, _, rfl, _, rfl, x, rfl, zs, p, _, rfl, hW, (by omega), (by omega), fun d o d0 d1 hW' => ?_⟩
    obtain ⟨j, rfl⟩ := Int.eq_ofNat_of_zero_le d0
    have hj : j < x.cps.toList.length := by
      rw [Array.length_toList]
      show j < x.length
      omega
    have ei : x.cps.toList[j]? = some x.cps.toList[j] := List.getElem?_eq_getElem hj
    exact ⟨x, _, x.cps.toList[j], rfl, rfl, zs, atI_nat ei, k _ o (List.getElem_mem hj) hW'⟩
abbrev nLine : List Str := ["_law_well_here", "_law_letters", "_law_size", "_law_turn"]
theorem scLine : FnScope nLine ["_law_well_here", "_law_letters", "_law_size"] (defScope sLine) := ⟨rfl, rfl, rfl, by decide +kernel, rfl, by decide +kernel, by decide +kernel⟩
/-- a list of picked signs: the comprehension's walk -/
theorem join_sgs (cs : List Nat) : Txt.join Str.empty (cs.map sg) = ⟨cs.toArray⟩ := str_ext (by rw [TL.join_eq, join_signs])
theorem ok_line {f : Addr} {fd : FuncData} (F : Fun K "_law_line" "_law_line" sLine f fd) (hD : Hv P w K mg base 1 "_law_dip" ["_law_well_here", "_law_size"] spDip) (hP : Hv P w K mg base 2 "_law_pick" ["_law_well_here", "_law_menu"] spPickS) (hR : mg "range" = none) : FnOk P w K mg base CX0 3 f fd ["_law_well_here", "_law_letters", "_law_size"] spLine := by
  refine F.ok scLine (fun vs H Q E h => ?_) (fun cdv A outer s H vs Q E hr h => ?_)
  · obtain ⟨p, x, n, rfl, _⟩ := h
    rfl
  · obtain ⟨p, x, n, rfl, hW, z0, z1, zn, k⟩ := h
    refine ⟨_, pss_one (ps_ret (pe_join pe_str (pe_lc (own := [("_law_turn", 3)]) (g := gName 3) (tt := tYes) rfl scLine.nd (pi_range1 rfl hR (pa_cons (pe_cl hD (hr.mono (by decide)) rfl pass0 (pa_cons (pv 0) (pa_cons (pe_op op_add (pv 2) pe_int) pa_nil))) pa_nil)) (blkOk_by (N := nLine) (sc := defScope sLine) (by decide +kernel))
      (fun _ _ _ _ _ => pg_name (i := 3) scLine.nd rfl (Or.inl rfl)) (fun _ _ _ _ _ => pts_nil) (fun _ _ _ _ _ => pe_cl hP hr rfl pass0 (pa_cons (pv 0) (pa_cons (pv 1) pa_nil)))))), ?_⟩
    refine ⟨⟨_, rfl⟩, _, rfl, _, rfl, _, _, rfl, rfl, p, _, rfl, hW, by omega, by omega, fun d o d0 d1 hW1 => ?_⟩
    obtain ⟨m, rfl⟩ := Int.eq_ofNat_of_zero_le d0
    have hm : m ≤ n := by omega
    have s1 : Sb p H (upd H p o) := Sb.upd_
    generalize upd H p o = H1 at hW1 s1 ⊢
    refine ⟨m, rfl, by omega, by omega, fun D hD' => ?_⟩
    have nD : D ≠ p := hW1.new hD'
    refine lc_range (lo := 0) (n := m) (fun i H' => Wl H' p ∧ (∀ b o, b ≠ p → b ≠ D → H1 b = some o → H' b = some o) ∧ ∃ cs : List Nat, cs.length = i ∧ (∀ c ∈ cs, c ∈ x.cps.toList) ∧ H' D = some (.lst ((cs.map sg).map V.str)))
      ⟨hW1.upd_ nD, fun b o n1 n2 e => by rw [upd_ne n2]; exact e, [], rfl, (fun c hc => by cases hc), upd_same⟩ (fun i H' hi h => ?_) (fun H' h => ?_)
    · obtain ⟨hW2, st, cs, lc, inc, eD⟩ := h
      refine ⟨rfl, _, rfl, _, rfl, p, x, rfl, hW2, z0, z1, fun c o hc hW3 => ?_⟩
      refine ⟨_, by rw [upd_ne nD]; exact eD, ?_, hW3.upd_ nD, fun b o' n1 n2 e => ?_, cs ++ [c], by rw [List.length_append, lc]; rfl, fun d hd => ?_, ?_⟩
      · rw [List.length_map, List.length_map, lc, sizeLine_eq]
        omega
      · rw [upd_ne n2, upd_ne n1]
        exact st b o' n1 n2 e
      · rcases List.mem_append.mp hd with m | m
        · exact inc d m
        · have : d = c := by simpa using m
          rw [this]; exact hc
      · rw [upd_same, List.map_append, List.map_append]
        rfl
    · obtain ⟨hW2, st, cs, lc, inc, eD⟩ := h
      refine ⟨_, D, cs.map sg, rfl, rfl, .inl (SqL.of eD), ?_, ?_⟩
      · have : ((cs.map sg).map (·.length)).sum = cs.length := by
          clear eD lc inc
          induction cs with
          | nil => rfl
          | cons a t ih => rw [List.map_cons, List.map_cons, List.sum_cons, ih, List.length_cons]; show 1 + _ = _; omega
        rw [this, List.length_map]
        have e0 : (Str.ofString "").length = 0 := rfl
        rw [e0]
        omega
      · have e0 : (Str.ofString "") = Str.empty := rfl
        rw [e0, join_sgs]
        refine k _ _ ?_ (fun c hc => inc c (by simpa using hc)) (fun b o' n1 e => ?_) hW2
        · show cs.toArray.size ≤ n
          simp
          omega
        · have e1 := s1 b o' n1 e
          exact st b o' n1 (ne_of_none e1 hD') e1
end
end My
namespace My
open PySem PySem.Spec PyProof.Rows L2 PySem.GX L2H LamX
theorem if_false_of {c : Bool} {A B : Prop} (hc : c = false) (h : B) : if c = true then A else B := by
  rw [hc, if_neg Bool.false_ne_true]
  exact h
theorem PT_imp {X : Cx} {e : Expr} {t t' : L2.St → Hp → (Bool → Hp → Prop) → Prop} (h : PT X e t) (m : ∀ σ H Q, t' σ H Q → t σ H Q) : PT X e t' := ⟨fun pins s σ H Q I q => h.run pins s σ H Q I (m σ H Q q)⟩
theorem Dp.ext {K : PySem.W.Frag} {H H' : Hp} (s : Same H H') {v : V} {d : PyData} (h : Dp K H v d) : Dp K H' v d := by
  have sl : ∀ {a : Addr} {xs : List V}, SqL K H a xs → SqL K H' a xs := fun h => by
    rcases h with (h | ⟨o, h⟩) | h
    · exact .inl (.inl (s _ _ h))
    · exact .inl (.inr ⟨o, s _ _ h⟩)
    · exact .inr h
  have st : ∀ {a : Addr} {xs : List V}, SqT K H a xs → SqT K H' a xs := fun h => by
    rcases h with (h | ⟨o, h⟩) | h
    · exact .inl (.inl (s _ _ h))
    · exact .inl (.inr ⟨o, s _ _ h⟩)
    · exact .inr h
  exact Dp.rec (motive_1 := fun v d _ => Dp K H' v d) (motive_2 := fun vs ds _ => DpAll K H' vs ds) .non .bl .int .str (fun h _ i => .lst (sl h) i) (fun h _ i => .tup (st h) i) .nil (fun _ _ i j => .cons i j) h
theorem pick_strs {ws : List Str} {j : Nat} {y : V} (h : (ws.map V.str)[j]? = some y) : ∃ z ∈ ws, y = .str z := by
  rw [List.getElem?_map] at h
  cases e : ws[j]? with
  | none => rw [e] at h; cases h
  | some z => rw [e] at h; cases h; exact ⟨z, List.mem_of_getElem? e, rfl⟩
theorem op_notInTxK {X : Cx} {K : PySem.W.Frag} (h : X.K = K) (hu : X.A.units + 1 < cLine) : OpR X (compareOp .NotIn) (rNotInTx K) := by subst h; exact op_notInTx hu
def tFin (K : PySem.W.Frag) : L2.St → Hp → (Bool → Hp → Prop) → Prop := fun σ H Q => ∃ (ld la : Addr) (w : Str) (v : V) (es : List (Str × V)), σ[6]? = some (some (.ref ld)) ∧ σ[9]? = some (some (.ref la)) ∧ DuAt H ld es ∧ H la = some (.lst [.str w, v]) ∧
  ((es = [] ∧ w = "told") ∨ ∃ d t, es = (w, v) :: t ∧ w ∈ wd ∧ Sh K H v d ∧ Nc d) ∧ ∀ H', Same H H' → Q false H'
theorem Du.len {H : Hp} : ∀ {as : List Addr} {es : List (Str × V)}, Du H as es → as.length = es.length
  | _, _, .nil => rfl
  | _, _, .cons _ t => by simp [Du.len t]
theorem Du.ext {H H' : Hp} (s : ExtN H H') : ∀ {as : List Addr} {es : List (Str × V)}, Du H as es → Du H' as es
  | _, _, .nil => .nil
  | _, _, .cons e t => .cons (s _ _ e fun _ z => by cases z) (Du.ext s t)
theorem DuAt.ext {H H' : Hp} {l : Addr} {es : List (Str × V)} (h : DuAt H l es) (s : ExtN H H') : DuAt H' l es := by
  obtain ⟨as, e, d⟩ := h
  exact ⟨as, s _ _ e (fun _ z => by cases z), d.ext s⟩
theorem others_nil {x z : Str} : (z.cps.toList.filter fun c => !decide (c ∈ x.cps.toList)) = [] ↔ ∀ c ∈ z.cps.toList, c ∈ x.cps.toList := by
  rw [List.filter_eq_nil_iff]
  exact ⟨fun h c hc => by simpa using h c hc, fun h c hc => by simpa using h c hc⟩
theorem fm_sg (p : Nat → Bool) : ∀ cs : List Nat, (cs.filterMap fun c => if p c = true then some (V.str (sg c)) else none) = ((cs.filter p).map sg).map V.str
  | [] => rfl
  | c :: t => by
    by_cases h : p c = true
    · rw [List.filterMap_cons, if_pos h, List.filter_cons_of_pos h, fm_sg p t]
      rfl
    · rw [List.filterMap_cons, if_neg h, List.filter_cons_of_neg h, fm_sg p t]
end My
namespace My
open PySem PySem.Spec PyProof.Rows L2 PySem.GX L2H LamX
mutual
/-- no list of three in it -/
def no3 : PyData → Bool
  | .list xs => decide (xs.length ≠ 3) && no3All xs
  | .tuple xs => no3All xs
  | _ => true
def no3All : List PyData → Bool
  | [] => true
  | x :: xs => no3 x && no3All xs
end
theorem shAll_len {K : PySem.W.Frag} {H : Hp} : ∀ {xs : List V} {ds : List PyData}, ShAll K H xs ds → xs.length = ds.length
  | _, _, .nil => rfl
  | _, _, .cons _ t => by simp [shAll_len t]
mutual
theorem Sh.off {K : PySem.W.Frag} {H : Hp} {l : Addr} {a b c : V} {o : HO} (e : H l = some (.lst [a, b, c])) : ∀ {v : V} {d : PyData}, Sh K H v d → no3 d = true → Sh K (upd H l o) v d
  | _, _, .fl f, _ => .fl f
  | _, _, .lst (ds := ds) h t, n => by
    unfold no3 at n
    rw [Bool.and_eq_true_iff] at n
    have l3 := of_decide_eq_true n.1
    refine .lst ?_ (ShAll.off e t n.2)
    rcases h with (h | ⟨o', h⟩) | h
    · refine .inl (.inl ?_)
      rw [upd_ne fun z => ?_]
      · exact h
      · subst z
        rw [h] at e
        cases e
        exact l3 (shAll_len t).symm
    · exact .inl (.inr ⟨o', by rw [upd_ne (ne_of h e (by intro z; cases z))]; exact h⟩)
    · exact .inr h
  | _, _, .tup h t, n => by
    unfold no3 at n
    refine .tup ?_ (ShAll.off e t n)
    rcases h with (h | ⟨o', h⟩) | h
    · exact .inl (.inl (by rw [upd_ne (ne_of h e (by intro z; cases z))]; exact h))
    · exact .inl (.inr ⟨o', by rw [upd_ne (ne_of h e (by intro z; cases z))]; exact h⟩)
    · exact .inr h
  | _, _, .dic h p q, _ => .dic (by rw [upd_ne (ne_of h e (by intro z; cases z))]; exact h) p q
theorem ShAll.off {K : PySem.W.Frag} {H : Hp} {l : Addr} {a b c : V} {o : HO} (e : H l = some (.lst [a, b, c])) : ∀ {vs : List V} {ds : List PyData}, ShAll K H vs ds → no3All ds = true → ShAll K (upd H l o) vs ds
  | _, _, .nil, _ => .nil
  | _, _, .cons h t, n => by
    unfold no3All at n
    rw [Bool.and_eq_true_iff] at n
    exact .cons (Sh.off e h n.1) (ShAll.off e t n.2)
end
theorem menu_no3 : ∀ d ∈ menu, no3 d = true := by decide +kernel
/-- a value that is drawn -/
def Dr (K : PySem.W.Frag) (H : Hp) (y : V) (d : PyData) : Prop := Sh K H y d ∧ Nc d ∧ no3 d = true
theorem Dr.ext {K : PySem.W.Frag} {H H' : Hp} {y : V} {d : PyData} (h : Dr K H y d) (s : ExtN H H') : Dr K H' y d := ⟨Sh.ext s h.1, h.2.1, h.2.2⟩
theorem dr_str {K : PySem.W.Frag} {H : Hp} {z : Str} (h : Low z) (l : z.length ≤ 40) : Dr K H (.str z) (.str z) := ⟨.fl (.str z), nc_str h l, rfl⟩
theorem dr_int {K : PySem.W.Frag} {H : Hp} {n : Nat} (l : n ≤ 1001) : Dr K H (.int (n : Int)) (.int (n : Int)) := ⟨.fl (.int _), nc_int n l, rfl⟩
theorem dr_menu {K : PySem.W.Frag} {H : Hp} {v : V} {d : PyData} (h : Sh K H v d) (m : d ∈ menu) : Dr K H v d := ⟨h, menu_nc d m, menu_no3 d m⟩
/-- the law's own: is the number right -/
def gdL (d0 d1 : PyData) : Bool := match d1 with
  | .int i => (decide ((0 : Int) ≤ i) && decide (i ≤ 1000)) && (decide (0 < i) || isTx "last" d0)
  | _ => false
def ftL (d : PyData) : Bool := match d with
  | .str z => z.cps.toList.all fun c => decide (c ∈ abc.cps.toList)
  | _ => false
theorem gd_is {k : Str} {d1 : PyData} : gdL (.str k) d1 = inb d1 (leastN k) 1000 := by
  match d1 with
  | .int i =>
    show ((decide ((0 : Int) ≤ i) && decide (i ≤ 1000)) && (decide (0 < i) || decide (k = "last"))) = (decide (leastN k ≤ i) && decide (i ≤ 1000))
    unfold leastN
    by_cases h : k = "last"
    · rw [if_pos h, decide_eq_true h, Bool.or_true, Bool.and_true]
    · rw [if_neg h, decide_eq_false h, Bool.or_false]
      rw [Bool.eq_iff_iff]
      simp
      omega
  | .none => rfl
  | .bool _ => rfl
  | .str _ => rfl
  | .list _ => rfl
  | .tuple _ => rfl
  | .dict _ => rfl
theorem ft_is {d : PyData} (h : Nc d) : ftL d = rowOk abc d := by
  match d, h with
  | .str z, h =>
    show _ = isRowL abc z
    unfold isRowL
    rw [decide_eq_true (Nat.le_trans (h.st z rfl).2 (by decide)), Bool.true_and]
    rfl
  | .none, _ => rfl
  | .int _, _ => rfl
  | .bool _, _ => rfl
  | .list _, _ => rfl
  | .tuple _, _ => rfl
  | .dict _, _ => rfl
def spLook0 (K : PySem.W.Frag) : Sp := fun vs H Q _ => ∃ (k : Str) (n : Nat) (r : Str), vs = [.str k, .int (n : Int), .str r] ∧ k ∈ kinds ∧ inb (.int (n : Int)) (leastN k) 1000 = true ∧ isRowL abc r = true ∧ ∀ v H' d, LookD k n r d → Same H H' → Dp K H' v d → Q v H'
theorem isK_of {k : Str} (h : k ∈ kinds) : isK (.str k) = true := by
  unfold isK
  rw [List.any_eq_true]
  exact ⟨k, h, decide_eq_true rfl⟩
/-- where nothing is raised -/
theorem look0 {P : Program} {w : World} {K : PySem.W.Frag} {mg : Str → Option Value} {base : Heap} {f C1 C2 C3 : Addr} {fd : FuncData} {ps : List Str} {k : Nat} (F : FnOk P w K mg base (L2N.CX P w) k f fd ps (spLook K C1 C2 C3)) : FnOk P w K mg base CX0 k f fd ps (spLook0 K) := by
  refine FnOk.calm_ F fun vs H Q E ⟨k, n, r, e, hk, hn, hr, q⟩ => ?_
  have tk := isK_of hk
  have lr : r.length ≤ 1000 := by
    unfold isRowL at hr
    exact of_decide_eq_true (Bool.and_eq_true_iff.mp hr).1
  refine ⟨_, _, _, _, _, _, e, .fl (.str k), .fl (.int _), .fl (.str r), fun z ez => by cases ez; omega, fun h => ?_, fun k' ek _ h => ?_, fun k' ek _ _ h => ?_, fun k' n' r' ek en er _ _ _ => ?_⟩
  · rw [tk] at h; cases h
  · cases ek; rw [hn] at h; cases h
  · have h' : isRowL abc r = false := h
    rw [hr] at h'; cases h'
  · cases ek
    cases er
    have : n' = n := by
      have : (n : Int) = (n' : Int) := by injection en
      omega
    subst this
    exact q
abbrev qR : Str := ("_law_right" : Str) ++ ".<locals>." ++ "<lambda>"
abbrev qW : Str := ("law" : Str) ++ ".<locals>." ++ "<lambda>"
/-- what stands around -/
structure Rt (P : Program) (w : World) (K : PySem.W.Frag) (mg : Str → Option Value) (base : Heap) (C1 C2 C3 : Addr) (c : Nat → Addr) (bR bK bP : Addr) : Prop where
  lk : ∃ (f : Addr) (fd : FuncData), FnOk P w K mg base (L2N.CX P w) 4 f fd ["kind", "number", "row"] (spLook K C1 C2 C3) ∧ Binds K fd ["kind", "number", "row"] [] ∧ KBn K fd ["kind", "number", "row"] 0 ["row", "number", "kind"] (fun _ ws => ws.reverse) (fun _ zs => zs.reverse) ∧ mg "look" = some (.ref f) ∧ PySem.W.keepIn K (.ref f) = true
  ll : Hv P w K mg base 2 "_law_look" ["_law_sort", "_law_measure", "_law_line_here"] (spLookL K)
  ln : Hv P w K mg base 3 "_law_line" ["_law_well_here", "_law_letters", "_law_size"] spLine
  dip : Hv P w K mg base 1 "_law_dip" ["_law_well_here", "_law_size"] spDip
  odd : Hv P w K mg base 2 "_law_odd" ["_law_well_here"] (spOdd K)
  pkL : Hv P w K mg base 2 "_law_pick" ["_law_well_here", "_law_menu"] spPickL
  E1 : ErrC K c bR bK bP C1 1
  E2 : ErrC K c bR bK bP C2 2
  E3 : ErrC K c bR bK bP C3 3
  hC : ∃ (f : Addr) (fd : FuncData), Fun K "_law_class" "_law_class" sClass f fd ∧ Binds K fd ["_law_e"] [] ∧ mg "_law_class" = some (.ref f)
  hF : ∃ (f : Addr) (fd : FuncData), Fun K "_law_field" "_law_field" sField f fd ∧ Binds K fd ["_law_e"] [] ∧ mg "_law_field" = some (.ref f)
  gc : ∀ j, j < 11 → mg (cn.getD j Str.empty) = some (.ref (c j))
  g1 : mg "NotRight" = some (.ref bR)
  g2 : mg "NotKnown" = some (.ref bK)
  g3 : mg "NotPossible" = some (.ref bP)
  hIs : mg "isinstance" = none
  hL : mg "len" = none
  hVE : mg "ValueError" = none
  hLE : mg "LookupError" = none
  hAE : mg "ArithmeticError" = none
  hSt : mg "str" = none
  hI : mg "int" = none
  hB : mg "bool" = none
  hRe : mg "repr" = none
  hRa : mg "range" = none
  er : ∃ (g : Addr) (oc : Value) (od : Option Addr) (kV doc pm : Value) (an : Option Addr) (cdv ct : Value) (osl : Array (Option Value)), mg "_law_error" = some (.ref g) ∧ PySem.W.keepIn K (.ref g) = true ∧
    K.lookup g = some ⟨oc, od, .func (PySem.W.fnOf "_law_error" "_law_error" (defArgs sError) (defBody sError) (defScope sError) .none kV doc pm an cdv ct), osl⟩ ∧ PySem.W.codeIn K cdv "_law_error" = true ∧
    L2.Binds K (PySem.W.fnOf "_law_error" "_law_error" (defArgs sError) (defBody sError) (defScope sError) .none kV doc pm an cdv ct) ["_law_act"] []
abbrev nRight : List Str := ["_law_well_here", "_law_turn", "_law_kind_here", "_law_size", "_law_line_here", "_law_odds", "_law_due", "_law_good", "_law_fits", "_law_told", "_law_k", "_law_glyph"]
theorem scRight : FnScope nRight ["_law_well_here"] (defScope sRight) := ⟨rfl, rfl, rfl, by decide +kernel, rfl, by decide +kernel, by decide +kernel⟩
def spRight (T : List (Addr × Str)) : Sp := fun vs H Q _ => ∃ p : Addr, vs = [.ref p] ∧ Wl H p ∧ Tabs T H ∧ ∀ H' : Hp, Kp p H H' → Tabs T H' → Q (.bl true) H'
end My
namespace My
open PySem PySem.Spec PyProof.Rows L2 PySem.GX L2H LamX
def tSize : TE := fun σ H Q => ∃ (p : Addr) (kd : Str), σ[0]? = some (some (.ref p)) ∧ σ[2]? = some (some (.str kd)) ∧ Wl H p ∧ ∀ (n : Nat) (o : HO), (kd ≠ "last" → 1 ≤ n) → n ≤ 7 → Wl (upd H p o) p → Q (.int (n : Int)) (upd H p o)
def tSize2 : TE := fun σ H Q => ∃ (p : Addr) (n : Nat), σ[0]? = some (some (.ref p)) ∧ σ[3]? = some (some (.int (n : Int))) ∧ Wl H p ∧ ∀ (n' : Nat) (o : HO), (n' = n ∨ n' = 1000) → Wl (upd H p o) p → Q (.int (n' : Int)) (upd H p o)
def tGood (K : PySem.W.Frag) : TE := fun σ H Q => ∃ (l5 : Addr) (y0 y1 y2 : V) (d1 : PyData), σ[5]? = some (some (.ref l5)) ∧ H l5 = some (.lst [y0, y1, y2]) ∧ Sh K H y1 d1 ∧ Q (.bl (inb d1 0 1000)) H
def tGood2 (K : PySem.W.Frag) : TE := fun σ H Q => ∃ (l5 : Addr) (y0 y1 y2 : V) (d0 d1 : PyData), σ[5]? = some (some (.ref l5)) ∧ σ[7]? = some (some (.bl (inb d1 0 1000))) ∧ H l5 = some (.lst [y0, y1, y2]) ∧ Sh K H y0 d0 ∧ Sh K H y1 d1 ∧ Q (.bl (gdL d0 d1)) H
def tFits (K : PySem.W.Frag) : TE := fun σ H Q => ∃ (l5 : Addr) (y0 y1 y2 : V) (d2 : PyData) (v0 v1 v2 v3 v4 v6 v7 v8 v9 : Option V), σ = [v0, v1, v2, v3, v4, some (.ref l5), v6, v7, v8, v9, none, none] ∧ H l5 = some (.lst [y0, y1, y2]) ∧ Sh K H y2 d2 ∧ Nc d2 ∧ ∀ H', Same H H' → Q (.bl (ftL d2)) H'
section
variable {P : Program} {w : World} {K : PySem.W.Frag} {mg : Str → Option Value} {base : Heap} {C1 C2 C3 : Addr} {c : Nat → Addr} {bR bK bP : Addr}
theorem ok_right {f cR PR : Addr} {T : List (Addr × Str)} {kV doc pm ct oc : Value} {an od : Option Addr} {osl : Array (Option Value)} (lk : K.lookup f = some ⟨oc, od, .func (PySem.W.fnOf "_law_right" "_law_right" (defArgs sRight) (defBody sRight) (defScope sRight) .none kV doc pm an (.ref cR) ct), osl⟩)
    (hcd : PySem.W.codeIn K (.ref cR) "_law_right" = true) (TB : TabB base mg cR PR) (hTm : (PR, qR) ∈ T) (hTu : ∀ q ∈ T, q.1 = PR → q.2 = qR) (R : Rt P w K mg base C1 C2 C3 c bR bK bP) :
    FnG P w K mg base CX0 7 f (PySem.W.fnOf "_law_right" "_law_right" (defArgs sRight) (defBody sRight) (defScope sRight) .none kV doc pm an (.ref cR) ct) ["_law_well_here"] (spRight T) := by
  obtain ⟨fK, fdK, GK, bKk, kbK, gK, kpK⟩ := R.lk
  have hX : HvX P w K mg base 4 "look" ["kind", "number", "row"] (spLook K C1 C2 C3) := ⟨fK, fdK, GK, bKk, gK, kpK⟩
  have h0 : Hv P w K mg base 4 "look" ["kind", "number", "row"] (spLook0 K) := ⟨fK, fdK, look0 GK, bKk, gK, kpK⟩
  obtain ⟨fC, fdC, FC, bC, gC⟩ := R.hC
  obtain ⟨fF, fdF, FF, bF, gF⟩ := R.hF
  obtain ⟨gE, ocE, odE, kVE, docE, pmE, anE, cdE, ctE, oslE, mE, kE, lE, cE, bE⟩ := R.er
  refine fnG_of lk hcd scRight (fun vs H Q E h => ?_) (fun A outer s H vs Q E hgd hr h => ?_)
  · obtain ⟨p, rfl, _⟩ := h
    rfl
  · obtain ⟨p, rfl, hW, hT, k⟩ := h
    suffices hh : ∃ t, PSs (cxOf CX0 P w K mg base nRight "_law_right" (defScope sRight) f (.ref cR) A outer s H E).nox (defBody sRight) t ∧ t { nx := fun _ H' => Q .non H', rt := Q } (L2.start nRight [.ref p]) H from by
      obtain ⟨t, h1, h2⟩ := hh
      exact ⟨t, h1.nox, h2⟩
    have hr1 : Room 1 (A.deeper (envOfC "_law_right" (defScope sRight) s.heap.objs.size f (.ref cR))) := hr.mono (by decide)
    have hr2 : Room 2 (A.deeper (envOfC "_law_right" (defScope sRight) s.heap.objs.size f (.ref cR))) := hr.mono (by decide)
    have hr3 : Room 3 (A.deeper (envOfC "_law_right" (defScope sRight) s.heap.objs.size f (.ref cR))) := hr.mono (by decide)
    have hr4 : Room 4 (A.deeper (envOfC "_law_right" (defScope sRight) s.heap.objs.size f (.ref cR))) := hr.mono (by decide)
    have hu := hr.units
    have hu1 : (A.deeper (envOfC "_law_right" (defScope sRight) s.heap.objs.size f (.ref cR))).units + 1 < cLine := by omega
    have hu0 : (A.deeper (envOfC "_law_right" (defScope sRight) s.heap.objs.size f (.ref cR))).units < cLine := by omega
    refine ⟨_, pss_cons (ps_for PassesOwn.never rfl (pi_range1 rfl R.hRa (pa_cons pe_int pa_nil)) (pg_name (i := 1) scRight.nd rfl (Or.inl rfl))
        (pss_cons (ps_set (i := 2) scRight.nd rfl (Or.inl rfl) (pe_cl R.pkL hr2 rfl pass0 (pa_cons (pv 0) (pa_cons (pe_lst (pa_cons pe_str (pa_cons pe_str (pa_cons pe_str (pa_cons pe_str pa_nil))))) pa_nil))))
        (pss_cons (ps_set (i := 3) scRight.nd rfl (Or.inl rfl) (PE_imp (t' := tSize) (pe_ifExp (pt_cmpR op_eq (pv 2) pe_str (nomark _)) (pe_cl R.dip hr1 rfl pass0 (pa_cons (pv 0) (pa_cons pe_int pa_nil))) (pe_op op_add pe_int (pe_cl R.dip hr1 rfl pass0 (pa_cons (pv 0) (pa_cons pe_int pa_nil))))) ?iSize))
        (pss_cons (ps_set (i := 3) scRight.nd rfl (Or.inl rfl) (PE_imp (t' := tSize2) (pe_ifExp (pt_cmpR op_eq (pe_cl R.dip hr1 rfl pass0 (pa_cons (pv 0) (pa_cons pe_int pa_nil))) pe_int (nomark _)) pe_int (pv 3)) ?iSize2))
        (pss_cons (ps_set (i := 4) scRight.nd rfl (Or.inl rfl) (pe_cl R.ln hr3 rfl pass0 (pa_cons (pv 0) (pa_cons (pe_cl R.pkL hr2 rfl pass0 (pa_cons (pv 0) (pa_cons (pe_lst (pa_cons pe_str (pa_cons pe_str (pa_cons pe_str (pa_cons pe_str pa_nil))))) pa_nil)))
            (pa_cons (pe_cl R.pkL hr2 rfl pass0 (pa_cons (pv 0) (pa_cons (pe_lst (pa_cons pe_int (pa_cons pe_int (pa_cons pe_int pa_nil)))) pa_nil))) pa_nil)))))
        (pss_cons (ps_if (pt_cmpR op_ne (pe_callB (call_reprT (K := K) rfl hgd hu) (by rfl) R.hRe (by decide +kernel) (pa_cons (pe_cl h0 hr4 rfl pass0 (pa_cons (pv 2) (pa_cons (pv 3) (pa_cons (pv 4) pa_nil)))) pa_nil))
            (pe_callB (call_reprT (K := K) rfl hgd hu) (by rfl) R.hRe (by decide +kernel) (pa_cons (pe_cl R.ll hr2 rfl pass0 (pa_cons (pv 2) (pa_cons (pv 3) (pa_cons (pv 4) pa_nil)))) pa_nil)) (nomark _)) (pss_one (ps_ret pe_bl)) pss_nil)
        (pss_cons (ps_if (pt_cmpR (op_neD hu) (pe_callKw (look0 GK) hr4 rfl gK kpK kbK pass0 (pk_cons (pv 4) (pk_cons (pv 3) (pk_cons (pv 2) pk_nil)))) (pe_cl R.ll hr2 rfl pass0 (pa_cons (pv 2) (pa_cons (pv 3) (pa_cons (pv 4) pa_nil)))) (nomark _)) (pss_one (ps_ret pe_bl)) pss_nil)
        (pss_cons (ps_set (i := 5) scRight.nd rfl (Or.inr rfl) (pe_lst (pa_cons (pe_cl R.pkL hr2 rfl pass0 (pa_cons (pv 0) (pa_cons (pe_lst (pa_cons (pe_cl R.odd hr2 rfl pass0 (pa_cons (pv 0) pa_nil)) (pa_cons pe_str (pa_cons (pv 2) pa_nil)))) pa_nil)))
            (pa_cons (pe_cl R.pkL hr2 rfl pass0 (pa_cons (pv 0) (pa_cons (pe_lst (pa_cons (pe_cl R.odd hr2 rfl pass0 (pa_cons (pv 0) pa_nil)) (pa_cons pe_int (pa_cons (pv 3) (pa_cons pe_int pa_nil))))) pa_nil))) (pa_cons (pv 4) pa_nil)))))
        (pss_cons (ps_asg (pe_cl R.pkL hr2 rfl pass0 (pa_cons (pv 0) (pa_cons (pe_lst (pa_cons (pe_cl R.odd hr2 rfl pass0 (pa_cons (pv 0) pa_nil)) (pa_cons (pe_op op_add_str (pv 4) pe_str) (pa_cons (pe_op op_add_str pe_str (pv 4)) (pa_cons (pv 4) pa_nil))))) pa_nil))) (pg_sub (pv 5) pe_int set_list))
        (pss_cons (ps_setLc (i := 6) (own := [("_law_k", 10)]) (g := gName 10) (by rfl) scRight.nd rfl rfl (sw_true rfl rfl rfl (by decide +kernel)) (pi_range1 rfl R.hRa (pa_cons pe_int pa_nil)) (blkOk_by (N := nRight) (sc := defScope sRight) (by decide +kernel)) (fun _ _ _ _ _ => pg_name (i := 10) scRight.nd rfl (Or.inl rfl))
            (fun _ _ _ _ _ => pts_one (pt_cmpR (op_notInTxK (K := K) rfl hu1) (pe_ix (ix_listK (K := K) rfl) (pv 5) pe_int (fun _ _ => rfl)) (pe_lst (pa_cons pe_str (pa_cons pe_str (pa_cons pe_str (pa_cons pe_str pa_nil))))) (by rfl)))
            (fun _ _ _ _ _ => pe_lst (pa_cons pe_str (pa_cons (pe_ix (ix_listK (K := K) rfl) (pv 5) pe_int (fun _ _ => rfl)) pa_nil))))
        (pss_cons (ps_set (i := 7) scRight.nd rfl (Or.inr rfl) (PE_imp (t' := tGood K) (pe_and (pe_callB call_isi (by rfl) R.hIs (by decide +kernel) (pa_cons (pe_ix ix_list (pv 5) pe_int (fun _ _ => rfl)) (pa_cons (pe_bltn (v := .ty "int") (by rfl) R.hI (by decide +kernel) rfl) pa_nil)))
            (pe_and (pe_not (pe_callB call_isi (by rfl) R.hIs (by decide +kernel) (pa_cons (pe_ix ix_list (pv 5) pe_int (fun _ _ => rfl)) (pa_cons (pe_bltn (v := .ty "bool") (by rfl) R.hB (by decide +kernel) rfl) pa_nil))))
            (pe_one (pe_chain op_le op_le pe_int (pe_ix ix_list (pv 5) pe_int (fun _ _ => rfl)) pe_int)))) ?iGood))
        (pss_cons (ps_set (i := 7) scRight.nd rfl (Or.inr rfl) (PE_imp (t' := tGood2 K) (pe_and (pv 7) (pe_one (pe_or (pe_cmpR op_gt (pe_ix ix_list (pv 5) pe_int (fun _ _ => rfl)) pe_int (nomark _)) (pe_one (pe_cmpR (op_eqTx hu0) (pe_ix ix_list (pv 5) pe_int (fun _ _ => rfl)) pe_str (nomark _)))))) ?iGood2))
        (pss_cons (ps_set (i := 6) scRight.nd rfl (Or.inl rfl) (pe_op op_cat (pv 6) (pe_lc (own := [("_law_k", 10)]) (g := gName 10) rfl scRight.nd (pi_range1 rfl R.hRa (pa_cons pe_int pa_nil)) (blkOk_by (N := nRight) (sc := defScope sRight) (by decide +kernel)) (fun _ _ _ _ _ => pg_name (i := 10) scRight.nd rfl (Or.inl rfl))
            (fun _ _ _ _ _ => pts_one (pt_not (pt_val (pv 7)))) (fun _ _ _ _ _ => pe_lst (pa_cons pe_str (pa_cons (pe_ix (ix_listK (K := K) rfl) (pv 5) pe_int (fun _ _ => rfl)) pa_nil))))))
        (pss_cons (ps_set (i := 8) scRight.nd rfl (Or.inr rfl) (PE_imp (t' := tFits K) (pe_and (pe_callB call_isi (by rfl) R.hIs (by decide +kernel) (pa_cons (pe_ix ix_list (pv 5) pe_int (fun _ _ => rfl)) (pa_cons (pe_bltn (v := .ty "str") (by rfl) R.hSt (by decide +kernel) rfl) pa_nil)))
            (pe_one (pe_cmpR (op_eqD hu) (pe_lc (own := [("_law_glyph", 11)]) (g := gName 11) rfl scRight.nd (pi_str (pe_ix ix_list (pv 5) pe_int (fun _ _ => rfl))) (blkOk_by (N := nRight) (sc := defScope sRight) (by decide +kernel)) (fun _ _ _ _ _ => pg_name (i := 11) scRight.nd rfl (Or.inl rfl))
              (fun _ _ _ _ _ => pts_one (pt_cmpR op_notIn_sign (pv 11) pe_str (by rfl))) (fun _ _ _ _ _ => pv 11)) (pe_lst pa_nil) (nomark _)))) ?iFits))
        (pss_cons (ps_set (i := 6) scRight.nd rfl (Or.inl rfl) (pe_op op_cat (pv 6) (pe_lc (own := [("_law_k", 10)]) (g := gName 10) rfl scRight.nd (pi_range1 rfl R.hRa (pa_cons pe_int pa_nil)) (blkOk_by (N := nRight) (sc := defScope sRight) (by decide +kernel)) (fun _ _ _ _ _ => pg_name (i := 10) scRight.nd rfl (Or.inl rfl))
            (fun _ _ _ _ _ => pts_one (pt_not (pt_val (pv 8)))) (fun _ _ _ _ _ => pe_lst (pa_cons pe_str (pa_cons (pe_ix (ix_listK (K := K) rfl) (pv 5) pe_int (fun _ _ => rfl)) pa_nil))))))
        (pss_cons (ps_set (i := 9) scRight.nd rfl (Or.inl rfl) (pe_lamN (T := T) (TT := TTerr K c bR bK bP) (k := 4) rfl mE kE lE cE bE scError rfl (Or.inl rfl)
            (gives_err FC bC gC FF bF gF R.gc R.g1 R.g2 R.g3 R.hIs R.hL R.hVE R.hLE R.hAE) TB rfl hTm hTu hr (lamS_by (show lamSB (defScope sRight) _ = true by decide +kernel)) rfl (fun _ _ _ _ _ => rfl)
            (fun A outer s H E f c' hr' => pe_clX hX hr' rfl (L2N.passes_call (L2N.takes_of rfl rfl rfl rfl) (fun _ _ _ _ z => z)) (pa_cons (pe_ix (ix_listK (K := K) rfl) (pv 5) pe_int (fun _ _ => rfl)) (pa_cons (pe_ix (ix_listK (K := K) rfl) (pv 5) pe_int (fun _ _ => rfl)) (pa_cons (pe_ix (ix_listK (K := K) rfl) (pv 5) pe_int (fun _ _ => rfl)) pa_nil))))))
        (pss_one (ps_if (PT_imp (t' := tFin K) (PW.pt (pw_or (PW.pt (pw_and (pt_cmpR (op_neNil hu0) (pv 6) (pe_lst pa_nil) (nomark _)) (pw_and1 (pt_cmpR op_ne (pe_callB (call_reprLK (K := K) rfl hgd hu) (by rfl) R.hRe (by decide +kernel) (pa_cons (pv 9) pa_nil))
              (pe_callB (call_reprLK (K := K) rfl hgd hu) (by rfl) R.hRe (by decide +kernel) (pa_cons (pe_ix ix_list (pv 6) pe_int (fun _ _ => rfl)) pa_nil)) (nomark _)))))
            (pw_or1 (PW.pt (pw_and (pt_cmpR (op_eqNil hu0) (pv 6) (pe_lst pa_nil) (nomark _)) (pw_and1 (pt_cmpR op_ne (pe_ix ix_list (pv 9) pe_int (fun _ _ => rfl)) pe_str (nomark _)))))))) ?iFin) (pss_one (ps_ret pe_bl)) pss_nil))))))))))))))))))
      (pss_one (ps_ret pe_bl)), ?_⟩
    case iSize =>
      rintro σ H Q ⟨p, kd, e0, e2, hW, q⟩
      refine ⟨_, e2, rfl, _, rfl, ite2 (fun c => ?_) (fun c => ?_)⟩
      · refine ⟨_, e0, p, 7, rfl, hW, by decide, by decide, fun d o d0 d1 hW' => ?_⟩
        obtain ⟨m, rfl⟩ := Int.eq_ofNat_of_zero_le d0
        have ek : kd = "last" := by
          have z := of_decide_eq_true c
          injection z
        exact q m o (fun z => absurd ek z) (by omega) hW'
      · refine ⟨_, e0, p, 7, rfl, hW, by decide, by decide, fun d o d0 d1 hW' => ⟨_, _, rfl, rfl, ?_⟩⟩
        obtain ⟨m, rfl⟩ := Int.eq_ofNat_of_zero_le d0
        have := q (1 + m) o (fun _ => by omega) (by omega) hW'
        rw [show (((1 + m : Nat)) : Int) = 1 + (m : Int) by omega] at this
        exact this
    case iSize2 =>
      rintro σ H Q ⟨p, n, e0, e3, hW, q⟩
      refine ⟨_, e0, p, 15, rfl, hW, by decide, by decide, fun d o d0 d1 hW' => ⟨rfl, _, rfl, ite2 (fun c => ?_) (fun c => ?_)⟩⟩
      · exact q 1000 o (.inr rfl) hW'
      · exact ⟨_, e3, q n o (.inl rfl) hW'⟩
    case iGood =>
      rintro σ H Q ⟨l5, y0, y1, y2, d1, e5, eH, h1, q⟩
      obtain ⟨ty, hty, k1, k2, _⟩ := sh_kit h1
      refine ⟨_, e5, l5, _, _, _, rfl, rfl, SqL.of eH, atI_nat (j := 1) rfl, y1, .ty "int", ty, .type "int", isI d1, rfl, .ty _, hty, k1, _, rfl, ite2 (fun c1 => ?_) (fun c1 => ?_)⟩
      · refine ⟨_, e5, l5, _, _, _, rfl, rfl, SqL.of eH, atI_nat (j := 1) rfl, y1, .ty "bool", ty, .type "bool", isB d1, rfl, .ty _, hty, k2, _, rfl, _, rfl, ite2 (fun c2 => ?_) (fun c2 => ?_)⟩
        · match d1, h1, c1, c2, q with
          | .int i, h1, _, _, q =>
            obtain rfl := sh_int h1
            refine ⟨_, e5, l5, _, _, _, rfl, rfl, SqL.of eH, atI_nat (j := 1) rfl, _, _, rfl, rfl, _, rfl, ite2 (fun c3 => ⟨_, _, rfl, rfl, ?_⟩) (fun c3 => ?_)⟩
            · have e : inb (.int i) 0 1000 = decide (i ≤ 1000) := by
                show (decide ((0 : Int) ≤ i) && decide (i ≤ 1000)) = _
                rw [c3, Bool.true_and]
              rw [e] at q
              exact q
            · have e : inb (.int i) 0 1000 = false := by
                show (decide ((0 : Int) ≤ i) && decide (i ≤ 1000)) = _
                rw [Bool.eq_false_iff.mpr c3, Bool.false_and]
              rw [e] at q
              exact q
        · have e : inb d1 0 1000 = false := by
            match d1, c2 with
            | .bool b, _ => rfl
            | .int i, c2 => exact absurd rfl c2
            | .none, _ => rfl
            | .str _, _ => rfl
            | .list _, _ => rfl
            | .tuple _, _ => rfl
            | .dict _, _ => rfl
          rw [e] at q
          exact q
      · have e : inb d1 0 1000 = false := by
          match d1, c1 with
          | .int i, c1 => exact absurd rfl c1
          | .bool b, _ => rfl
          | .none, _ => rfl
          | .str _, _ => rfl
          | .list _, _ => rfl
          | .tuple _, _ => rfl
          | .dict _, _ => rfl
        rw [e] at q
        exact q
    case iGood2 =>
      rintro σ H Q ⟨l5, y0, y1, y2, d0, d1, e5, e7, eH, h0', h1, q⟩
      refine ⟨_, e7, _, rfl, ite2 (fun c1 => ?_) (fun c1 => ?_)⟩
      · match d1, h1, c1, q with
        | .int i, h1, c1, q =>
          obtain rfl := sh_int h1
          have eg : gdL d0 (.int i) = (decide (0 < i) || isTx "last" d0) := by
            show ((decide ((0 : Int) ≤ i) && decide (i ≤ 1000)) && (decide (0 < i) || isTx "last" d0)) = _
            have : (decide ((0 : Int) ≤ i) && decide (i ≤ 1000)) = true := c1
            rw [this, Bool.true_and]
          rw [eg] at q
          refine ⟨_, e5, l5, _, _, _, rfl, rfl, SqL.of eH, atI_nat (j := 1) rfl, _, _, rfl, rfl, _, rfl, ite2 (fun c2 => ?_) (fun c2 => ?_)⟩
          · have : decide (0 < i) = true := c2
            rw [this, Bool.true_or] at q
            exact q
          · have : decide (0 < i) = false := Bool.eq_false_iff.mpr c2
            rw [this, Bool.false_or] at q
            exact ⟨_, e5, l5, _, _, _, rfl, rfl, SqL.of eH, atI_nat (j := 0) rfl, d0, _, h0', rfl, q⟩
      · have e : gdL d0 d1 = false := by
          match d1, c1 with
          | .int i, c1 =>
            show ((decide ((0 : Int) ≤ i) && decide (i ≤ 1000)) && (decide (0 < i) || isTx "last" d0)) = _
            have : (decide ((0 : Int) ≤ i) && decide (i ≤ 1000)) = false := Bool.eq_false_iff.mpr c1
            rw [this, Bool.false_and]
          | .bool b, _ => rfl
          | .none, _ => rfl
          | .str _, _ => rfl
          | .list _, _ => rfl
          | .tuple _, _ => rfl
          | .dict _, _ => rfl
        rw [e] at q
        exact q
    case iFits =>
      rintro σ H Q ⟨l5, y0, y1, y2, d2, v0, v1, v2, v3, v4, v6, v7, v8, v9, eσ, eH, h2, nc, q⟩
      subst eσ
      rcases sh_ty h2 with ⟨z, ey, ed⟩ | ⟨ty, hty, hk⟩
      · subst ey ed
        obtain ⟨lz, zz⟩ := nc.st z rfl
        refine ⟨_, rfl, l5, _, _, _, rfl, rfl, SqL.of eH, atI_nat (j := 2) rfl, .str z, .ty "str", _, .type "str", true, rfl, .ty _, .base (.str z), kit_ty (by decide +kernel), _, rfl, iteT ?_⟩
        refine ⟨_, rfl, l5, _, _, _, rfl, rfl, SqL.of eH, atI_nat (j := 2) rfl, z, rfl, fun D hD => ?_⟩
        refine lcG (z.cps.toList) (fun c => if (!decide (c ∈ abc.cps.toList)) = true then some (.str (sg c)) else none) (by rw [Array.length_toList]; exact walk_str) (by rw [Array.length_toList]; show z.length ≤ _; omega) hD (fun i H x H' h => by rw [h.1]; exact Same.refl _) (fun _ _ => trivial) (fun i c y H' H'' k1 hc s1 hy k2 => ?_) (fun H' s' e => ?_)
        · obtain ⟨rfl, c', hc', rfl⟩ := hy
          rw [← Array.getElem?_toList, hc] at hc'
          cases hc'
          have kk := k2 _ (Same.refl _)
          refine ⟨rfl, _, rfl, c, abc, rfl, rfl, _, rfl, ite2 (fun b => ?_) (fun b => ?_)⟩
          · rw [if_pos b] at kk
            exact ⟨_, rfl, kk⟩
          · rw [if_neg b] at kk
            exact kk
        · rw [fm_sg] at e
          refine ⟨by show 0 ≤ sizeLine; decide, fun l hl => ⟨_, _, dp_dTx (keep1 e hl), dp_dTx (ws := []) upd_same, shaped_dTx fun w hw => ?_, shaped_dTx (fun w hw => by cases hw), ?_⟩⟩
          · obtain ⟨c, hc, rfl⟩ := List.mem_map.mp hw
            exact ok_low (sg_low (lz c (List.mem_filter.mp hc).1))
          · rw [eqv_dTx]
            have ef : decide (((z.cps.toList.filter fun c => !decide (c ∈ abc.cps.toList)).map sg) = []) = ftL (.str z) := by
              show _ = z.cps.toList.all fun c => decide (c ∈ abc.cps.toList)
              rw [Bool.eq_iff_iff, decide_eq_true_eq, List.map_eq_nil_iff, others_nil, List.all_eq_true]
              exact ⟨fun h c hc => decide_eq_true (h c hc), fun h c hc => of_decide_eq_true (h c hc)⟩
            rw [ef]
            exact q _ (s'.trans (same_new hl))
      · refine ⟨_, rfl, l5, _, _, _, rfl, rfl, SqL.of eH, atI_nat (j := 2) rfl, y2, .ty "str", ty, .type "str", false, rfl, .ty _, hty, hk, _, rfl, iteF ?_⟩
        have e : ftL d2 = false := by
          obtain ⟨ty', hty', _, _, k3⟩ := sh_kit h2
          match d2, h2 with
          | .str z, h2 =>
            obtain rfl := sh_str h2
            exfalso
            cases hty with
            | base b => cases b; rw [kit_ty (show _ = some true by decide +kernel)] at hk; cases hk
          | .none, _ => rfl
          | .int _, _ => rfl
          | .bool _, _ => rfl
          | .list _, _ => rfl
          | .tuple _, _ => rfl
          | .dict _, _ => rfl
        rw [e] at q
        exact q _ (Same.refl _)
    case iFin =>
      rintro σ H Q ⟨ld, la, w', v, es, e6, e9, ⟨as, eD, du⟩, eA, hes, q⟩
      rcases hes with ⟨rfl, rfl⟩ | ⟨d, t, rfl, hw, hv, nc⟩
      · cases du
        refine ⟨_, e6, by show 0 ≤ sizeLine; decide, fun l hl => ⟨ld, l, [], rfl, rfl, SqL.of (keep1 eD hl), SqL.of upd_same, _, rfl, iteF ?_⟩⟩
        refine iteF ?_
        refine ⟨_, e6, by show 0 ≤ sizeLine; decide, fun l2 hl2 => ⟨ld, l2, [], rfl, rfl, SqL.of (keep1 (keep1 eD hl) hl2), SqL.of upd_same, _, rfl, iteT ?_⟩⟩
        refine ⟨_, e9, la, _, _, _, rfl, rfl, SqL.of (keep1 (keep1 eA hl) hl2), atI_nat (j := 0) rfl, rfl, _, rfl, ?_⟩
        exact q _ ((same_new hl).trans (same_new hl2))
      · cases du with
        | @cons a _ as' _ ea _ =>
          obtain ⟨f1, f2, f3⟩ := pair_shown (.inl hw) nc
          refine ⟨_, e6, by show 0 ≤ sizeLine; decide, fun l hl => ⟨ld, l, _, rfl, rfl, SqL.of (keep1 eD hl), SqL.of upd_same, _, rfl, iteT ?_⟩⟩
          have hv' := Sh.ext (ExtN.of (same_new (o := .lst []) hl)) hv
          refine ⟨_, e9, la, [.str w', d], rfl, .lst (SqL.of (keep1 eA hl)) (.cons (.fl (.str _)) (.cons hv' .nil)), f1, f2, f3, ?_⟩
          refine ⟨_, e6, ld, _, _, _, rfl, rfl, SqL.of (keep1 eD hl), atI_nat (j := 0) rfl, a, [.str w', d], rfl, .lst (SqL.of (keep1 ea hl)) (.cons (.fl (.str _)) (.cons hv' .nil)), f1, f2, f3, rfl, _, rfl, ?_⟩
          refine if_false_of (by simp) ?_
          refine ⟨_, e6, by show 0 ≤ sizeLine; decide, fun l2 hl2 => ⟨ld, l2, _, rfl, rfl, SqL.of (keep1 (keep1 eD hl) hl2), SqL.of upd_same, _, rfl, iteF ?_⟩⟩
          exact q _ ((same_new hl).trans (same_new hl2))
    refine ⟨10, rfl, by decide, by decide, for_range (n := 10) (fun i σ H' => (∃ v1 v2 v3 v4 v5 v6 v7 v8 v9, σ = [some (.ref p), v1, v2, v3, v4, v5, v6, v7, v8, v9, none, none]) ∧ Kp p H H' ∧ Wl H' p ∧ Tabs T H') ⟨⟨_, _, _, _, _, _, _, _, _, rfl⟩, Kp.refl _ _, hW, hT⟩ (fun i σ H1 hi h => ?_) (fun σ H1 h => ?_)⟩
    · obtain ⟨⟨v1, v2, v3, v4, v5, v6, v7, v8, v9, rfl⟩, kp1, hW1, hT1⟩ := h
      clear hT hW k
      refine ⟨_, rfl, by show 4 ≤ sizeLine; decide, fun l1 h1 => ⟨p, l1, _, rfl, hW1.same (same_new h1), hW1.new h1, upd_same, by decide, by decide, fun j y o hj hW2 => ?_⟩⟩
      obtain ⟨kd, mk, rfl⟩ := pick_strs (ws := kinds) hj
      have sb2 : Sb p H1 (upd (upd H1 l1 (.lst [.str "last", .str "ends", .str "windows", .str "sets"])) p o) := (Sb.of (same_new h1)).trans Sb.upd_
      have hT2 := Tabs.sb_ hT1 hW1 sb2
      have kp2 := kp1.trans (Kp.sb sb2)
      generalize upd (upd H1 l1 (.lst [.str "last", .str "ends", .str "windows", .str "sets"])) p o = H2 at hW2 hT2 kp2 ⊢
      clear sb2 h1 hT1 kp1 hW1 hj
      refine ⟨p, kd, rfl, rfl, hW2, fun n o n1 n7 hW3 => ?_⟩
      have hT3 := Tabs.sb_ hT2 hW2 (Sb.upd_ (o := o))
      have kp3 := kp2.trans (Kp.sb (Sb.upd_ (o := o)))
      generalize upd H2 p o = H3 at hW3 hT3 kp3 ⊢
      clear hT2 kp2 hW2
      refine ⟨p, n, rfl, rfl, hW3, fun n' o hn hW4 => ?_⟩
      have hT4 := Tabs.sb_ hT3 hW3 (Sb.upd_ (o := o))
      have kp4 := kp3.trans (Kp.sb (Sb.upd_ (o := o)))
      generalize upd H3 p o = H4 at hW4 hT4 kp4 ⊢
      clear hT3 kp3 hW3
      have ln : n' ≤ 1000 := by omega
      have hin : inb (.int (n' : Int)) (leastN kd) 1000 = true := by
        show (decide (leastN kd ≤ (n' : Int)) && decide ((n' : Int) ≤ 1000)) = true
        rw [decide_eq_true (show (n' : Int) ≤ 1000 by omega), Bool.and_true]
        apply decide_eq_true
        unfold leastN
        split
        · omega
        · rename_i nk
          have := n1 nk
          omega
      clear n1 n7 hn
      refine ⟨_, rfl, _, rfl, by show 4 ≤ sizeLine; decide, fun l1 h1 => ⟨p, l1, _, rfl, hW4.same (same_new h1), hW4.new h1, upd_same, by decide, by decide, fun j y o hj hW5 => ?_⟩⟩
      obtain ⟨x, mx, rfl⟩ := pick_strs (ws := ["ab", "abz", "a", "qx"]) hj
      have sb5 : Sb p H4 (upd (upd H4 l1 (.lst [.str "ab", .str "abz", .str "a", .str "qx"])) p o) := (Sb.of (same_new h1)).trans Sb.upd_
      have hT5 := Tabs.sb_ hT4 hW4 sb5
      have kp5 := kp4.trans (Kp.sb sb5)
      generalize upd (upd H4 l1 (.lst [.str "ab", .str "abz", .str "a", .str "qx"])) p o = H5 at hW5 hT5 kp5 ⊢
      clear sb5 h1 hT4 kp4 hW4 hj
      refine ⟨_, rfl, by show 3 ≤ sizeLine; decide, fun l1 h1 => ⟨p, l1, [.int 3, .int 8, .int 30], rfl, hW5.same (same_new h1), hW5.new h1, upd_same, by show 0 < 3; decide, by show 3 ≤ 1000; decide, fun j y o hj hW6 => ?_⟩⟩
      obtain ⟨m, hm, rfl⟩ : ∃ m : Nat, m ≤ 30 ∧ y = .int (m : Int) := by
        match j, hj with
        | 0, hj => cases hj; exact ⟨3, by decide, rfl⟩
        | 1, hj => cases hj; exact ⟨8, by decide, rfl⟩
        | 2, hj => cases hj; exact ⟨30, by decide, rfl⟩
        | j + 3, hj => simp at hj
      have sb6 : Sb p H5 (upd (upd H5 l1 (.lst [.int 3, .int 8, .int 30])) p o) := (Sb.of (same_new h1)).trans Sb.upd_
      have hT6 := Tabs.sb_ hT5 hW5 sb6
      have kp6 := kp5.trans (Kp.sb sb6)
      generalize upd (upd H5 l1 (.lst [.int 3, .int 8, .int 30])) p o = H6 at hW6 hT6 kp6 ⊢
      clear sb6 h1 hT5 kp5 hW5 hj
      have hx : ∀ x ∈ (["ab", "abz", "a", "qx"] : List Str), 0 < x.length ∧ x.length ≤ 1000 ∧ ∀ c ∈ x.cps.toList, c ∈ abc.cps.toList ∧ c < 256 := by decide +kernel
      obtain ⟨hx0, hx1, hx2⟩ := hx x mx
      refine ⟨p, x, m, rfl, hW6, hx0, hx1, by omega, fun r H7 lr inr sb7 hW7 => ?_⟩
      have lo : Low r := fun c hc => (hx2 c (inr c hc)).2
      have rrow : isRowL abc r = true := row_is (by omega) fun c hc => (hx2 c (inr c hc)).1
      have hT7 := Tabs.sb_ hT6 hW6 sb7
      have kp7 := kp6.trans (Kp.sb sb7)
      have lr' : r.length ≤ 30 := by omega
      clear sb7 hT6 kp6 hW6 hx hx0 hx1 hx2 inr mx lr
      refine ⟨_, rfl, _, rfl, _, rfl, kd, n', r, rfl, mk, hin, rrow, fun u1 HA d1 q1 sA dpA => ?_⟩
      obtain ⟨ds, rfl, f1, f2, f3, f4⟩ := q1.fit lo (by omega)
      obtain ⟨a1, rfl⟩ := dp_tup dpA
      refine ⟨a1, ds, rfl, dpA.sh, f1, f2, f3, ?_⟩
      refine ⟨_, rfl, _, rfl, _, rfl, kd, n', r, rfl, by omega, ln, fun u2 HB d2 q2 sB dpB => ?_⟩
      obtain rfl := q2.uniq q1
      obtain ⟨a2, rfl⟩ := dp_tup dpB
      refine ⟨a2, ds, rfl, dpB.sh, f1, f2, f3, rfl, _, rfl, if_false_of (by simp) ?_⟩
      refine ⟨_, rfl, _, rfl, _, rfl, rfl, kd, n', r, rfl, mk, hin, rrow, fun u3 HC d3 q3 sC dpC => ?_⟩
      obtain rfl := q3.uniq q1
      refine ⟨_, rfl, _, rfl, _, rfl, kd, n', r, rfl, by omega, ln, fun u4 HD d4 q4 sD dpD => ?_⟩
      obtain rfl := q4.uniq q1
      refine ⟨_, _, Dp.ext sD dpC, dpD, f4, f4, _, rfl, ?_⟩
      rw [SeqAt.eqv_refl _ (SeqAt.canLay_of_shaped f4)]
      refine iteF ?_
      have s7 : Same H7 HD := ((sA.trans sB).trans sC).trans sD
      have hW8 := hW7.same s7
      have hT8 := Tabs.ext hT7 s7
      have kp8 := kp7.trans (Kp.of s7)
      clear s7 sA sB sC sD dpA dpB dpC dpD q1 q2 q3 q4 f1 f2 f3 f4 hW7 hT7 kp7
      refine ⟨_, rfl, _, rfl, p, rfl, hW8, fun u d HE hd shd hWE sE => ⟨_, rfl, by show 3 ≤ sizeLine; decide, fun l1 h1 => ⟨p, l1, [u, .str "Last", .str kd], rfl, hWE.same (same_new h1), hWE.new h1, upd_same, by show 0 < 3; decide, by show 3 ≤ 1000; decide, fun j y0 o hj hWF => ?_⟩⟩⟩
      have sEF : Sb p HE (upd (upd HE l1 (.lst [u, .str "Last", .str kd])) p o) := (Sb.of (same_new h1)).trans Sb.upd_
      have lowK : ∀ z ∈ kinds, (∀ c ∈ z.cps.toList, c < 256) ∧ z.length ≤ 40 := by decide +kernel
      obtain ⟨d0, dr0⟩ : ∃ d0, Dr K (del (upd (upd HE l1 (.lst [u, .str "Last", .str kd])) p o) p) y0 d0 := by
        match j, hj with
        | 0, hj => cases hj; exact ⟨d, (dr_menu shd hd).ext (Kp.cut (Kp.sb sEF))⟩
        | 1, hj => cases hj; exact ⟨_, dr_str (by unfold Low; decide +kernel) (by decide +kernel)⟩
        | 2, hj => cases hj; exact ⟨_, dr_str (lowK kd mk).1 (lowK kd mk).2⟩
        | j + 3, hj => simp at hj
      have sb9 := (sb_of_del sE).trans sEF
      generalize upd (upd HE l1 (.lst [u, .str "Last", .str kd])) p o = HF at hWF dr0 sb9 ⊢
      clear sEF h1 hj hWE sE shd hd
      refine ⟨_, rfl, _, rfl, p, rfl, hWF, fun u d HE hd shd hWE sE => ⟨_, rfl, by show 4 ≤ sizeLine; decide, fun l1 h1 => ⟨p, l1, [u, .int 0, .int (n' : Int), .int 1001], rfl, hWE.same (same_new h1), hWE.new h1, upd_same, by show 0 < 4; decide, by show 4 ≤ 1000; decide, fun j y1 o hj hWG => ?_⟩⟩⟩
      have sEF : Sb p HE (upd (upd HE l1 (.lst [u, .int 0, .int (n' : Int), .int 1001])) p o) := (Sb.of (same_new h1)).trans Sb.upd_
      obtain ⟨d1, dr1⟩ : ∃ d1, Dr K (del (upd (upd HE l1 (.lst [u, .int 0, .int (n' : Int), .int 1001])) p o) p) y1 d1 := by
        match j, hj with
        | 0, hj => cases hj; exact ⟨d, (dr_menu shd hd).ext (Kp.cut (Kp.sb sEF))⟩
        | 1, hj => cases hj; exact ⟨_, dr_int (n := 0) (by decide)⟩
        | 2, hj => cases hj; exact ⟨_, dr_int (by omega)⟩
        | 3, hj => cases hj; exact ⟨_, dr_int (n := 1001) (by decide)⟩
        | j + 4, hj => simp at hj
      have sFG := (sb_of_del sE).trans sEF
      have sb10 := sb9.trans sFG
      have dr0 := dr0.ext (Kp.cut (Kp.sb sFG))
      generalize upd (upd HE l1 (.lst [u, .int 0, .int (n' : Int), .int 1001])) p o = HG at hWG dr0 dr1 sb10 ⊢
      clear sEF h1 hj hWE sE shd hd sFG sb9 hWF
      refine ⟨_, rfl, by show 3 ≤ sizeLine; decide, fun l5 h5 => ?_⟩
      have n5 : l5 ≠ p := hWG.new h5
      have fr5 : HD l5 = none := sb10.free n5 h5
      have sGI : Sb p HG (upd HG l5 (.lst [y0, y1, .str r])) := Sb.of (same_new h5)
      have sb11 := sb10.trans sGI
      have hWI := hWG.same (same_new (o := .lst [y0, y1, .str r]) h5)
      have dr0 := dr0.ext (Kp.cut (Kp.sb sGI))
      have dr1 := dr1.ext (Kp.cut (Kp.sb sGI))
      have e5 : upd HG l5 (.lst [y0, y1, .str r]) l5 = some (.lst [y0, y1, .str r]) := upd_same
      generalize upd HG l5 (.lst [y0, y1, .str r]) = HI at hWI dr0 dr1 sb11 e5 ⊢
      clear sGI sb10 hWG h5
      have lA : ("A" : Str).length = 1 := rfl
      have lG : (">" : Str).length = 1 := rfl
      refine ⟨_, rfl, _, rfl, p, rfl, hWI, fun u d HE hd shd hWE sE => ⟨_, rfl, _, _, rfl, rfl, by rw [lA, sizeLine_eq]; omega, _, rfl, _, _, rfl, rfl, by rw [lG, sizeLine_eq]; omega, _, rfl, by show 4 ≤ sizeLine; decide, fun l1 h1 => ⟨p, l1, [u, .str (r ++ ("A" : Str)), .str ((">" : Str) ++ r), .str r], rfl, hWE.same (same_new h1), hWE.new h1, upd_same, by show 0 < 4; decide, by show 4 ≤ 1000; decide, fun j y2 o hj hWJ => ?_⟩⟩⟩
      have sEF : Sb p HE (upd (upd HE l1 (.lst [u, .str (r ++ ("A" : Str)), .str ((">" : Str) ++ r), .str r])) p o) := (Sb.of (same_new h1)).trans Sb.upd_
      obtain ⟨d2, dr2⟩ : ∃ d2, Dr K (del (upd (upd HE l1 (.lst [u, .str (r ++ ("A" : Str)), .str ((">" : Str) ++ r), .str r])) p o) p) y2 d2 := by
        match j, hj with
        | 0, hj => cases hj; exact ⟨d, (dr_menu shd hd).ext (Kp.cut (Kp.sb sEF))⟩
        | 1, hj => cases hj; exact ⟨_, dr_str (lo.app (by unfold Low; decide +kernel)) (by rw [len_app, lA]; omega)⟩
        | 2, hj => cases hj; exact ⟨_, dr_str (Low.app (by unfold Low; decide +kernel) lo) (by rw [len_app, lG]; omega)⟩
        | 3, hj => cases hj; exact ⟨_, dr_str lo (by omega)⟩
        | j + 4, hj => simp at hj
      have sIJ := (sb_of_del sE).trans sEF
      have sb12 := sb11.trans sIJ
      have dr0 := dr0.ext (Kp.cut (Kp.sb sIJ))
      have dr1 := dr1.ext (Kp.cut (Kp.sb sIJ))
      have e5 := sIJ _ _ n5 e5
      generalize upd (upd HE l1 (.lst [u, .str (r ++ ("A" : Str)), .str ((">" : Str) ++ r), .str r])) p o = HJ at hWJ dr0 dr1 dr2 sb12 e5 ⊢
      clear sEF h1 hj hWE sE shd hd sIJ sb11 hWI
      refine ⟨_, rfl, l5, _, _, 2, rfl, rfl, e5, rfl, ?_⟩
      show (fun HM : Hp => _) (upd HJ l5 (.lst [y0, y1, y2]))
      have sh0 : Sh K (upd HJ l5 (.lst [y0, y1, y2])) y0 d0 := Sh.off e5 (Sh.ext ext_of_del dr0.1) dr0.2.2
      have sh1 : Sh K (upd HJ l5 (.lst [y0, y1, y2])) y1 d1 := Sh.off e5 (Sh.ext ext_of_del dr1.1) dr1.2.2
      have sh2 : Sh K (upd HJ l5 (.lst [y0, y1, y2])) y2 d2 := Sh.off e5 (Sh.ext ext_of_del dr2.1) dr2.2.2
      have nc0 := dr0.2.1
      have nc1 := dr1.2.1
      have nc2 := dr2.2.1
      have hTM : Tabs T (upd HJ l5 (.lst [y0, y1, y2])) := Tabs.off (Tabs.sb_ hT8 hW8 sb12) e5
      have hWM : Wl (upd HJ l5 (.lst [y0, y1, y2])) p := hWJ.upd_ n5
      have kpM : Kp p H (upd HJ l5 (.lst [y0, y1, y2])) := kp8.trans fun b o n1 n2 e => by
        rw [upd_ne (ne_of_none e fr5)]
        exact sb12 b o n1 e
      have eM : upd HJ l5 (.lst [y0, y1, y2]) l5 = some (.lst [y0, y1, y2]) := upd_same
      generalize upd HJ l5 (.lst [y0, y1, y2]) = HM at sh0 sh1 sh2 hTM hWM kpM eM ⊢
      clear dr0 dr1 dr2 sb12 e5 hWJ fr5 n5 kp8 hT8 hW8 lA lG
      refine ⟨1, rfl, by decide, by decide, fun D1 hD1 => ?_⟩
      refine lc_one (!isK d0) "kind" y0 hD1 (fun H' kk s1 kN kS => ?_) (fun HN sN du1 => ?_)
      · refine ⟨rfl, _, rfl, l5, _, _, _, rfl, rfl, SqL.of (s1 _ _ eM), atI_nat (j := 0) rfl, by show 4 ≤ sizeLine; decide, fun l hl => ⟨d0, l, kinds, Sh.ext (ExtN.of (s1.trans (same_new hl))) sh0, rfl, SqL.of upd_same, _, rfl, ite2 (fun b => ?_) (fun b => ?_)⟩⟩
        · exact ⟨_, rfl, l5, _, _, _, rfl, rfl, SqL.of (keep1 (s1 _ _ eM) hl), atI_nat (j := 0) rfl, by show 2 ≤ sizeLine; decide, fun l' hl' => kS l' _ ((same_new hl).trans (same_new hl')) upd_same b⟩
        · exact kN _ (same_new hl) (Bool.eq_false_iff.mpr b)
      have sh0 := Sh.ext (ExtN.of sN) sh0
      have sh1 := Sh.ext (ExtN.of sN) sh1
      have sh2 := Sh.ext (ExtN.of sN) sh2
      have hT := Tabs.ext hTM sN
      have hW := hWM.same sN
      have kp := kpM.trans (Kp.of sN)
      have eM := sN _ _ eM
      clear hTM hWM kpM sN hD1
      refine ⟨l5, y0, y1, y2, d1, rfl, eM, sh1, ?_⟩
      refine ⟨l5, y0, y1, y2, d0, d1, rfl, rfl, eM, sh0, sh1, ?_⟩
      refine ⟨_, rfl, 1, rfl, by decide, by decide, fun D2 hD2 => ?_⟩
      refine lc_one (!gdL d0 d1) "number" y1 hD2 (fun H' kk s1 kN kS => ?_) (fun HO sO du2 => ?_)
      · refine ⟨rfl, _, rfl, _, rfl, ite2 (fun b => ?_) (fun b => ?_)⟩
        · exact ⟨_, rfl, l5, _, _, _, rfl, rfl, SqL.of (s1 _ _ eM), atI_nat (j := 1) rfl, by show 2 ≤ sizeLine; decide, fun l' hl' => kS l' _ (same_new hl') upd_same b⟩
        · exact kN _ (Same.refl _) (Bool.eq_false_iff.mpr b)
      obtain ⟨as1, eD1, du1⟩ := du1.same sO
      obtain ⟨as2, eD2, du2⟩ := du2
      have l1 : as1.length ≤ 1 := by rw [du1.len]; unfold one; split <;> simp
      have l2 : as2.length ≤ 1 := by rw [du2.len]; unfold one; split <;> simp
      refine ⟨D1, D2, _, _, rfl, rfl, eD1, eD2, by rw [List.length_map, List.length_map, sizeLine_eq]; omega, fun l6 h6 => ?_⟩
      have sP := sO.trans (same_new (o := .lst (as1.map V.ref ++ as2.map V.ref)) h6)
      have dP : DuAt (upd HO l6 (.lst (as1.map V.ref ++ as2.map V.ref))) l6 (one (!isK d0) "kind" y0 ++ one (!gdL d0 d1) "number" y1) := ⟨as1 ++ as2, by rw [upd_same, List.map_append], (du1.app du2).same (same_new h6)⟩
      generalize upd HO l6 (.lst (as1.map V.ref ++ as2.map V.ref)) = HP at sP dP ⊢
      have sh0 := Sh.ext (ExtN.of sP) sh0
      have sh1 := Sh.ext (ExtN.of sP) sh1
      have sh2 := Sh.ext (ExtN.of sP) sh2
      have hT := Tabs.ext hT sP
      have hW := hW.same sP
      have kp := kp.trans (Kp.of sP)
      have eM := sP _ _ eM
      clear eD1 eD2 du1 du2 l1 l2 h6 sO hD2 sP
      refine ⟨l5, y0, y1, y2, d2, _, _, _, _, _, _, _, _, _, rfl, eM, sh2, nc2, fun HQ sQ => ?_⟩
      have sh0 := Sh.ext (ExtN.of sQ) sh0
      have sh1 := Sh.ext (ExtN.of sQ) sh1
      have sh2 := Sh.ext (ExtN.of sQ) sh2
      have hT := Tabs.ext hT sQ
      have hW := hW.same sQ
      have kp := kp.trans (Kp.of sQ)
      have eM := sQ _ _ eM
      have dP := dP.same sQ
      clear sQ
      refine ⟨_, rfl, 1, rfl, by decide, by decide, fun D3 hD3 => ?_⟩
      refine lc_one (!ftL d2) "row" y2 hD3 (fun H' kk s1 kN kS => ?_) (fun HR sR du3 => ?_)
      · refine ⟨rfl, _, rfl, _, rfl, ite2 (fun b => ?_) (fun b => ?_)⟩
        · exact ⟨_, rfl, l5, _, _, _, rfl, rfl, SqL.of (s1 _ _ eM), atI_nat (j := 2) rfl, by show 2 ≤ sizeLine; decide, fun l' hl' => kS l' _ (same_new hl') upd_same b⟩
        · exact kN _ (Same.refl _) (Bool.eq_false_iff.mpr b)
      obtain ⟨as1, eD1, du1⟩ := dP.same sR
      obtain ⟨as2, eD2, du2⟩ := du3
      have l1 : as1.length ≤ 2 := by rw [du1.len]; unfold one; split <;> split <;> simp
      have l2 : as2.length ≤ 1 := by rw [du2.len]; unfold one; split <;> simp
      refine ⟨l6, D3, _, _, rfl, rfl, eD1, eD2, by rw [List.length_map, List.length_map, sizeLine_eq]; omega, fun l7 h7 => ?_⟩
      have sP := sR.trans (same_new (o := .lst (as1.map V.ref ++ as2.map V.ref)) h7)
      have dS : DuAt (upd HR l7 (.lst (as1.map V.ref ++ as2.map V.ref))) l7 ((one (!isK d0) "kind" y0 ++ one (!gdL d0 d1) "number" y1) ++ one (!ftL d2) "row" y2) := ⟨as1 ++ as2, by rw [upd_same, List.map_append], (du1.app du2).same (same_new h7)⟩
      generalize upd HR l7 (.lst (as1.map V.ref ++ as2.map V.ref)) = HS at sP dS ⊢
      have sh0 := Sh.ext (ExtN.of sP) sh0
      have sh1 := Sh.ext (ExtN.of sP) sh1
      have sh2 := Sh.ext (ExtN.of sP) sh2
      have hT := Tabs.ext hT sP
      have hW := hW.same sP
      have kp := kp.trans (Kp.of sP)
      have eM := sP _ _ eM
      clear eD1 eD2 du1 du2 l1 l2 h7 sR hD3 sP dP
      refine ⟨hT, fun HT xT tT => ?_⟩
      have sh0 := Sh.ext xT sh0
      have sh1 := Sh.ext xT sh1
      have sh2 := Sh.ext xT sh2
      have hW := hW.ext_ xT
      have kp := kp.trans (Kp.ext xT)
      have eM := xT _ _ eM fun _ z => by cases z
      have dS := dS.ext xT
      clear xT hT
      refine ⟨_, rfl, l5, _, _, _, rfl, rfl, SqL.of eM, atI_nat (j := 0) rfl, _, rfl, l5, _, _, _, rfl, rfl, SqL.of eM, atI_nat (j := 1) rfl, _, rfl, l5, _, _, _, rfl, rfl, SqL.of eM, atI_nat (j := 2) rfl,
        y0, y1, y2, d0, d1, d2, rfl, sh0, sh1, sh2, fun z ez => Nat.le_trans (nc2.st z ez).2 (by decide), fun fk => ?_, fun k' ek tk fn => ?_, fun k' ek tk tn fr => ?_, fun k' m' r' ek en er tk tn tr v H' d q s' hd => ?_⟩
      · exact fun da H' s' e => ⟨C2, da, 2, _, y0, rfl, rfl, R.E2, e, rfl, fun la H'' s'' ela => ⟨l7, la, "kind", y0, _, rfl, rfl, dS.same (s'.trans s''), ela, (.inr ⟨d0, one (!gdL d0 d1) "number" y1 ++ one (!ftL d2) "row" y2, by rw [fk]; rfl, by decide, Sh.ext (ExtN.of (s'.trans s'')) sh0, nc0⟩), fun H3 s3 => ⟨⟨_, _, _, _, _, _, _, _, _, rfl⟩, kp.trans (Kp.of ((s'.trans s'').trans s3)), hW.same ((s'.trans s'').trans s3), Tabs.ext tT ((s'.trans s'').trans s3)⟩⟩⟩
      · have eg : gdL d0 d1 = false := by rw [ek, gd_is]; exact fn
        exact fun da H' s' e => ⟨C3, da, 3, _, y1, rfl, rfl, R.E3, e, rfl, fun la H'' s'' ela => ⟨l7, la, "number", y1, _, rfl, rfl, dS.same (s'.trans s''), ela, (.inr ⟨d1, one (!ftL d2) "row" y2, by rw [tk, eg]; rfl, by decide, Sh.ext (ExtN.of (s'.trans s'')) sh1, nc1⟩), fun H3 s3 => ⟨⟨_, _, _, _, _, _, _, _, _, rfl⟩, kp.trans (Kp.of ((s'.trans s'').trans s3)), hW.same ((s'.trans s'').trans s3), Tabs.ext tT ((s'.trans s'').trans s3)⟩⟩⟩
      · have eg : gdL d0 d1 = true := by rw [ek, gd_is]; exact tn
        have ef : ftL d2 = false := by rw [ft_is nc2]; exact fr
        exact fun da H' s' e => ⟨C1, da, 1, _, y2, rfl, rfl, R.E1, e, rfl, fun la H'' s'' ela => ⟨l7, la, "row", y2, _, rfl, rfl, dS.same (s'.trans s''), ela, (.inr ⟨d2, [], by rw [tk, eg, ef]; rfl, by decide, Sh.ext (ExtN.of (s'.trans s'')) sh2, nc2⟩), fun H3 s3 => ⟨⟨_, _, _, _, _, _, _, _, _, rfl⟩, kp.trans (Kp.of ((s'.trans s'').trans s3)), hW.same ((s'.trans s'').trans s3), Tabs.ext tT ((s'.trans s'').trans s3)⟩⟩⟩
      · have eg : gdL d0 d1 = true := by rw [ek, gd_is]; exact tn
        have ef : ftL d2 = true := by rw [ft_is nc2]; exact tr
        exact fun la hla => ⟨l7, la, "told", v, _, rfl, rfl, dS.same (s'.trans (same_new hla)), upd_same, (.inl ⟨by rw [tk, eg, ef]; rfl, rfl⟩), fun H3 s3 => ⟨⟨_, _, _, _, _, _, _, _, _, rfl⟩, kp.trans (Kp.of ((s'.trans (same_new hla)).trans s3)), hW.same ((s'.trans (same_new hla)).trans s3), Tabs.ext tT ((s'.trans (same_new hla)).trans s3)⟩⟩
    · obtain ⟨⟨v1, v2, v3, v4, v5, v6, v7, v8, v9, rfl⟩, kp1, hW1, hT1⟩ := h
      exact k _ kp1 hT1
end
end My
namespace My
open PySem PySem.Spec PyProof.Rows L2 PySem.GX L2H LamX
def manyT (c : Nat) : Str := ⟨(List.replicate 1000 c).toArray⟩
theorem op_mulT {X : Cx} : OpR X (binaryOp .Mult) (fun x y H Q => ∃ c : Nat, x = .str (sg c) ∧ y = .int 1000 ∧ Q (.str (manyT c)) H) := by
  intro pins s σ H x y v u Q I rx ry ⟨c, ex, ey, q⟩
  subst ex ey
  obtain ⟨t, rfl⟩ := rx
  obtain ⟨t', rfl⟩ := ry
  have e : Txt.mul (sg c) 1000 = manyT c := by
    unfold Txt.mul
    rw [if_neg (by decide), if_neg (by show ¬ ((1000 : Int) == 1 || (1 : Nat) == 0) = true; decide)]
    exact str_ext (by
      show ((List.replicate 1000 #[c]).foldl (· ++ ·) #[]).toList = _
      rw [reps_list]
      simp [manyT])
  refine SB.mul ⟨by decide, fun _ _ => ?_, fun _ _ => ?_⟩ fun t' k => ⟨.str (manyT c), H, I.tok _, ⟨t', by rw [e]⟩, q⟩
  · show ¬ ((1 : Int) > (2 ^ 63 - 1) / 1000)
    decide
  · show Builtin.Str.tooLong (1 * 1000) = false
    decide +kernel
theorem len_T (c : Nat) : (manyT c).length = 1000 := by
  show ((List.replicate 1000 c).toArray).size = 1000
  rw [List.size_toArray, List.length_replicate]
theorem row_T : isRowL abc (manyT 97) = true := row_is (by rw [len_T]; exact Nat.le_refl _) fun c hc => by
  unfold manyT at hc
  have : c = 97 := by simpa using hc
  rw [this]
  decide +kernel
/-! what the law writes down -/
theorem w1 : LookD "last" 0 "ab" (.tuple [.str "", .bool false]) := .inl ⟨rfl, rfl⟩
theorem w2 : LookD "last" 2 "ab" (.tuple [.str "ab", .bool false]) := .inl ⟨rfl, rfl⟩
theorem w3 : LookD "last" 3 "ab" (.tuple [.str "ab", .bool true]) := .inl ⟨rfl, rfl⟩
theorem w4 : LookD "last" 0 "" (.tuple [.str "", .bool false]) := .inl ⟨rfl, rfl⟩
theorem w5 : LookD "ends" 1 "ab" (.tuple [.tuple [.str "a", .str "b"], .bool false]) := .inr (.inl ⟨by decide, rfl, rfl⟩)
theorem w6 : LookD "ends" 1 "a" (.tuple [.str "a", .bool true]) := .inr (.inl ⟨by decide, rfl, rfl⟩)
theorem w7 : LookD "ends" 2 "abc" (.tuple [.str "abc", .bool true]) := .inr (.inl ⟨by decide, rfl, rfl⟩)
theorem w8 : LookD "ends" 2 "abca" (.tuple [.tuple [.str "ab", .str "ca"], .bool false]) := .inr (.inl ⟨by decide, rfl, rfl⟩)
theorem w9 : LookD "sets" 1 "" (.tuple [.str "<", .str ">"]) := .inr (.inr ⟨by decide, by decide, ["<", ">"], rfl, .inr ⟨by decide +kernel, by decide +kernel, by decide +kernel⟩⟩)
theorem w10 : LookD "windows" 2 "" (.tuple [.str "><"]) := .inr (.inr ⟨by decide, by decide, ["><"], rfl, .inr ⟨by decide +kernel, by decide +kernel, by decide +kernel⟩⟩)
theorem w11 : LookD "sets" 3 "aa" (.tuple [.str ">aa", .str "aa<"]) := .inr (.inr ⟨by decide, by decide, [">aa", "aa<"], rfl, .inr ⟨by decide +kernel, by decide +kernel, by decide +kernel⟩⟩)
theorem w12 : LookD "sets" 5 "aa" (.tuple [.str ">aa<"]) := .inr (.inr ⟨by decide, by decide, [">aa<"], rfl, .inl ⟨by decide +kernel, by decide +kernel⟩⟩)
end My
namespace My
open PySem PySem.Spec PyProof.Rows L2 PySem.GX L2H LamX
theorem perm_of_mem : ∀ {a b : List Str}, a.Nodup → b.Nodup → (∀ z, z ∈ a ↔ z ∈ b) → a.Perm b
  | [], b, _, _, h => by
    have : b = [] := List.eq_nil_iff_forall_not_mem.mpr fun z hz => by have := (h z).mpr hz; cases this
    rw [this]
  | x :: xs, b, h1, h2, h => by
    have hx : x ∈ b := (h x).mp (List.mem_cons_self ..)
    have n1 := List.nodup_cons.mp h1
    refine List.Perm.trans (List.Perm.cons x (perm_of_mem n1.2 (h2.erase x) fun z => ?_)) (List.perm_cons_erase hx).symm
    rw [List.Nodup.mem_erase_iff h2]
    constructor
    · intro m
      exact ⟨fun e => n1.1 (e ▸ m), (h z).mp (List.mem_cons_of_mem _ m)⟩
    · rintro ⟨ne, m⟩
      rcases List.mem_cons.mp ((h z).mpr m) with e | e
      · exact absurd e ne
      · exact e
theorem cut2 {m : Str} {i : Nat} (h : i + 2 ≤ m.length) : (cutS m (some (i : Int)) (some ((i : Int) + ((2 : Nat) : Int)))).cps.toList = (m.cps.toList.drop i).take 2 := by
  unfold cutS
  have e : ((i : Int) + ((2 : Nat) : Int)) = ((i + 2 : Nat) : Int) := by omega
  rw [e, HT.sIx_nat, HT.sIx_nat, Nat.min_eq_left (by omega), Nat.min_eq_left (by omega)]
  simp
theorem cps_T : (mark (manyT 97)).cps.toList = 62 :: (List.replicate 1000 97 ++ [60]) := by
  unfold mark
  rw [cps_app, cps_app]
  have a : (">" : Str).cps.toList = [62] := rfl
  have b : ("<" : Str).cps.toList = [60] := rfl
  have c : (manyT 97).cps.toList = List.replicate 1000 97 := by simp [manyT]
  rw [a, b, c]
  simp
theorem at_T {i : Nat} (h : i ≤ 1000) : ((62 :: (List.replicate 1000 97 ++ [60])).drop i).take 2 = if i = 0 then [62, 97] else if i = 1000 then [97, 60] else [97, 97] := by
  match i, h with
  | 0, _ => rfl
  | k + 1, h =>
    rw [if_neg (by omega), List.drop_succ_cons, List.drop_append_of_le_length (by rw [List.length_replicate]; omega), List.drop_replicate]
    by_cases hk : k + 1 = 1000
    · rw [if_pos hk]
      have : 1000 - k = 1 := by omega
      rw [this]
      rfl
    · rw [if_neg hk]
      obtain ⟨j, hj⟩ : ∃ j, 1000 - k = j + 2 := ⟨1000 - k - 2, by omega⟩
      rw [hj]
      rfl
theorem w13p : ([">a", "a<", "aa"] : List Str).Perm (setFold (pcs (mark (manyT 97)) 2)) := by
  obtain ⟨nd, mem, _, _⟩ := setFold_all _ (pcs (mark (manyT 97)) 2) rfl
  have lm : (mark (manyT 97)).length = 1002 := by rw [mark_len, len_T]
  refine perm_of_mem (by decide +kernel) nd fun z => ?_
  rw [mem]
  unfold pcs
  rw [lm]
  have at_ : ∀ i : Nat, i ≤ 1000 → cutS (mark (manyT 97)) (some (i : Int)) (some ((i : Int) + ((2 : Nat) : Int))) = (if i = 0 then ">a" else if i = 1000 then "a<" else "aa" : Str) := fun i hi => by
    refine str_ext ?_
    rw [cut2 (by rw [lm]; omega), cps_T, at_T hi]
    split
    · rfl
    · split <;> rfl
  constructor
  · intro h
    simp only [List.mem_cons, List.not_mem_nil, or_false] at h
    rcases h with rfl | rfl | rfl
    · exact List.mem_map.mpr ⟨0, List.mem_range.mpr (by decide), by rw [at_ 0 (by decide)]; rfl⟩
    · exact List.mem_map.mpr ⟨1000, List.mem_range.mpr (by decide), by rw [at_ 1000 (by decide)]; rfl⟩
    · exact List.mem_map.mpr ⟨1, List.mem_range.mpr (by decide), by rw [at_ 1 (by decide)]; rfl⟩
  · intro h
    obtain ⟨i, hi, rfl⟩ := List.mem_map.mp h
    have hi' : i ≤ 1000 := by have := List.mem_range.mp hi; omega
    rw [at_ i hi']
    split
    · simp
    · split <;> simp
theorem w13 : LookD "windows" 2 (manyT 97) (.tuple [.str ">a", .str "a<", .str "aa"]) := .inr (.inr ⟨by decide, by decide, [">a", "a<", "aa"], rfl, .inr ⟨by rw [mark_len, len_T]; decide, w13p, by decide +kernel⟩⟩)
end My
namespace My
open PySem PySem.Spec PyProof.Rows L2 PySem.GX L2H LamX
abbrev NL : List Str := ["_law_script", "_law_turn"]
def spLaw (K : PySem.W.Frag) (T : List (Addr × Str)) : Sp := fun vs H Q _ => ∃ (a : Addr) (ns : List Int), vs = [.ref a] ∧ SqL K H a (ns.map V.int) ∧ ns.length ≤ 63 ∧ Tabs T H ∧ ∀ H', Q (.bl true) H'
theorem all_rep (n : Nat) : (List.replicate n true).all id = true := by
  induction n with
  | zero => rfl
  | succ n ih => rw [List.replicate_succ, List.all_cons, ih]; rfl
theorem rep_snoc {α : Type} (n : Nat) (x : α) : List.replicate n x ++ [x] = List.replicate (n + 1) x := by
  rw [List.replicate_succ']
theorem sq_ext {K : PySem.W.Frag} {H H' : Hp} {a : Addr} {xs : List V} (s : ExtN H H') (h : SqL K H a xs) : SqL K H' a xs := by
  rcases h with (h | ⟨o, h⟩) | h
  · exact .inl (.inl (s _ _ h fun _ z => by cases z))
  · exact .inl (.inr ⟨o, s _ _ h fun _ z => by cases z⟩)
  · exact .inr h
theorem row_M : isRowL abc (manyS 97) = false := by
  unfold isRowL
  rw [decide_eq_false (by rw [many_len]; decide), Bool.false_and]
def dd0 : PyData := .list [.tuple [.str "", .bool false], .tuple [.str "ab", .bool false], .tuple [.str "ab", .bool true], .tuple [.str "", .bool false]]
theorem dd0_sh : SeqAt.shaped dd0 = true := by decide +kernel
def dd1 : PyData := .list [.tuple [.tuple [.str "a", .str "b"], .bool false], .tuple [.str "a", .bool true], .tuple [.str "abc", .bool true], .tuple [.tuple [.str "ab", .str "ca"], .bool false]]
theorem dd1_sh : SeqAt.shaped dd1 = true := by decide +kernel
def dd2 : PyData := .list [.tuple [.str "<", .str ">"], .tuple [.str "><"], .tuple [.str ">aa", .str "aa<"], .tuple [.str ">aa<"]]
theorem dd2_sh : SeqAt.shaped dd2 = true := by decide +kernel
def dT : PyData := .tuple [.str ">a", .str "a<", .str "aa"]
theorem dT_sh : SeqAt.shaped dT = true := by decide +kernel
section
variable {P : Program} {w : World} {K : PySem.W.Frag} {mg : Str → Option Value} {base : Heap} {C1 C2 C3 : Addr} {c : Nat → Addr} {bR bK bP : Addr}
theorem scL : FnScope NL ["_law_script"] (defScope sLaw) := ⟨rfl, rfl, rfl, by decide +kernel, rfl, by decide +kernel, by decide +kernel⟩
theorem ok_law {f fW fR cW PTW : Addr} {fdW fdR : FuncData} {T : List (Addr × Str)} {kV doc pm ct oc : Value} {an od : Option Addr} {osl : Array (Option Value)} (lk : K.lookup f = some ⟨oc, od, .func (PySem.W.fnOf "law" "law" (defArgs sLaw) (defBody sLaw) (defScope sLaw) .none kV doc pm an (.ref cW) ct), osl⟩)
    (hcd : PySem.W.codeIn K (.ref cW) "law" = true) (TB : TabB base mg cW PTW) (hTm : (PTW, qW) ∈ T) (hTu : ∀ q ∈ T, q.1 = PTW → q.2 = qW) (R : Rt P w K mg base C1 C2 C3 c bR bK bP)
    (hAll : mg "all" = none) (hMax : mg "max" = none) (hMin : mg "min" = none)
    (GW : FnOk P w K mg base CX0 1 fW fdW ["_law_script", "_law_turn"] (spWell K)) (bW : Binds K fdW ["_law_script", "_law_turn"] []) (gW : mg "_law_well" = some (.ref fW)) (kW : PySem.W.keepIn K (.ref fW) = true)
    (GR : FnG P w K mg base CX0 7 fR fdR ["_law_well_here"] (spRight T)) (bR' : Binds K fdR ["_law_well_here"] []) (gR : mg "_law_right" = some (.ref fR)) (kR : PySem.W.keepIn K (.ref fR) = true) :
    FnG P w K mg base CX0 8 f (PySem.W.fnOf "law" "law" (defArgs sLaw) (defBody sLaw) (defScope sLaw) .none kV doc pm an (.ref cW) ct) ["_law_script"] (spLaw K T) := by
  obtain ⟨fK, fdK, GK, bKk, kbK, gK, kpK⟩ := R.lk
  have hX : HvX P w K mg base 4 "look" ["kind", "number", "row"] (spLook K C1 C2 C3) := ⟨fK, fdK, GK, bKk, gK, kpK⟩
  have h0 : Hv P w K mg base 4 "look" ["kind", "number", "row"] (spLook0 K) := ⟨fK, fdK, look0 GK, bKk, gK, kpK⟩
  obtain ⟨fC, fdC, FC, bC, gC⟩ := R.hC
  obtain ⟨fF, fdF, FF, bF, gF⟩ := R.hF
  obtain ⟨gE, ocE, odE, kVE, docE, pmE, anE, cdE, ctE, oslE, mE, kE, lE, cE, bE⟩ := R.er
  refine fnG_of lk hcd scL (fun vs H Q E h => ?_) (fun A outer s H vs Q E hgd hr h => ?_)
  · obtain ⟨a, ns, rfl, _⟩ := h
    rfl
  · obtain ⟨a, ns, rfl, hS, hl, hT, k⟩ := h
    suffices hh : ∃ t, PSs (cxOf CX0 P w K mg base NL "law" (defScope sLaw) f (.ref cW) A outer s H E).nox (defBody sLaw) t ∧ t { nx := fun _ H' => Q .non H', rt := Q } (L2.start NL [.ref a]) H from by
      obtain ⟨t, h1, h2⟩ := hh
      exact ⟨t, h1.nox, h2⟩
    have hr1 : Room 1 (A.deeper (envOfC "law" (defScope sLaw) s.heap.objs.size f (.ref cW))) := hr.mono (by decide)
    have hr4 : Room 4 (A.deeper (envOfC "law" (defScope sLaw) s.heap.objs.size f (.ref cW))) := hr.mono (by decide)
    have hr6 : Room 6 (A.deeper (envOfC "law" (defScope sLaw) s.heap.objs.size f (.ref cW))) := hr.mono (by decide)
    have hu := hr.units
    refine ⟨_, pss_cons (ps_if (pt_cmpR (op_neD hu) (pe_lst (pa_cons (pe_cl h0 hr4 rfl pass0 (pa_cons pe_str (pa_cons pe_int (pa_cons pe_str pa_nil)))) (pa_cons (pe_cl h0 hr4 rfl pass0 (pa_cons pe_str (pa_cons pe_int (pa_cons pe_str pa_nil)))) (pa_cons (pe_cl h0 hr4 rfl pass0 (pa_cons pe_str (pa_cons pe_int (pa_cons pe_str pa_nil)))) (pa_cons (pe_cl h0 hr4 rfl pass0 (pa_cons pe_str (pa_cons pe_int (pa_cons pe_str pa_nil)))) pa_nil))))) (pe_lst (pa_cons (pe_tup (pa_cons pe_str (pa_cons pe_bl pa_nil))) (pa_cons (pe_tup (pa_cons pe_str (pa_cons pe_bl pa_nil))) (pa_cons (pe_tup (pa_cons pe_str (pa_cons pe_bl pa_nil))) (pa_cons (pe_tup (pa_cons pe_str (pa_cons pe_bl pa_nil))) pa_nil))))) (nomark _)) (pss_one (ps_ret pe_bl)) pss_nil)
      (pss_cons (ps_if (pt_cmpR (op_neD hu) (pe_lst (pa_cons (pe_cl h0 hr4 rfl pass0 (pa_cons pe_str (pa_cons pe_int (pa_cons pe_str pa_nil)))) (pa_cons (pe_cl h0 hr4 rfl pass0 (pa_cons pe_str (pa_cons pe_int (pa_cons pe_str pa_nil)))) (pa_cons (pe_cl h0 hr4 rfl pass0 (pa_cons pe_str (pa_cons pe_int (pa_cons pe_str pa_nil)))) (pa_cons (pe_cl h0 hr4 rfl pass0 (pa_cons pe_str (pa_cons pe_int (pa_cons pe_str pa_nil)))) pa_nil))))) (pe_lst (pa_cons (pe_tup (pa_cons (pe_tup (pa_cons pe_str (pa_cons pe_str pa_nil))) (pa_cons pe_bl pa_nil))) (pa_cons (pe_tup (pa_cons pe_str (pa_cons pe_bl pa_nil))) (pa_cons (pe_tup (pa_cons pe_str (pa_cons pe_bl pa_nil))) (pa_cons (pe_tup (pa_cons (pe_tup (pa_cons pe_str (pa_cons pe_str pa_nil))) (pa_cons pe_bl pa_nil))) pa_nil))))) (nomark _)) (pss_one (ps_ret pe_bl)) pss_nil)
      (pss_cons (ps_if (pt_cmpR (op_neD hu) (pe_lst (pa_cons (pe_cl h0 hr4 rfl pass0 (pa_cons pe_str (pa_cons pe_int (pa_cons pe_str pa_nil)))) (pa_cons (pe_cl h0 hr4 rfl pass0 (pa_cons pe_str (pa_cons pe_int (pa_cons pe_str pa_nil)))) (pa_cons (pe_cl h0 hr4 rfl pass0 (pa_cons pe_str (pa_cons pe_int (pa_cons pe_str pa_nil)))) (pa_cons (pe_cl h0 hr4 rfl pass0 (pa_cons pe_str (pa_cons pe_int (pa_cons pe_str pa_nil)))) pa_nil))))) (pe_lst (pa_cons (pe_tup (pa_cons pe_str (pa_cons pe_str pa_nil))) (pa_cons (pe_tup (pa_cons pe_str pa_nil)) (pa_cons (pe_tup (pa_cons pe_str (pa_cons pe_str pa_nil))) (pa_cons (pe_tup (pa_cons pe_str pa_nil)) pa_nil))))) (nomark _)) (pss_one (ps_ret pe_bl)) pss_nil)
      (pss_cons (ps_if (PW.pt (pw_or (pt_cmpR (op_neD hu) (pe_cl h0 hr4 rfl pass0 (pa_cons pe_str (pa_cons pe_int (pa_cons (pe_op op_mulT pe_str pe_int) pa_nil)))) (pe_tup (pa_cons pe_str (pa_cons pe_str (pa_cons pe_str pa_nil)))) (nomark _))
          (pw_or1 (pt_cmpR op_ne (pe_callB (call_reprLK (K := K) rfl hgd hu) (by rfl) R.hRe (by decide +kernel) (pa_cons (pe_lamN (T := T) (TT := TTerr K c bR bK bP) (k := 4) rfl mE kE lE cE bE scError rfl (Or.inl rfl)
              (gives_err FC bC gC FF bF gF R.gc R.g1 R.g2 R.g3 R.hIs R.hL R.hVE R.hLE R.hAE) TB rfl hTm hTu hr6 (lamS_by (show lamSB (defScope sLaw) _ = true by decide +kernel)) rfl (fun _ _ _ _ _ => rfl)
              (fun A outer s H E f c' hr' => pe_clX hX hr' rfl (L2N.passes_call (L2N.takes_of rfl rfl rfl rfl) (fun _ _ _ _ z => z)) (pa_cons pe_str (pa_cons pe_int (pa_cons (pe_op op_mulS pe_str pe_int) pa_nil))))) pa_nil))
            (pe_callB (call_reprLK (K := K) rfl hgd hu) (by rfl) R.hRe (by decide +kernel) (pa_cons (pe_lst (pa_cons pe_str (pa_cons (pe_op op_mulS pe_str pe_int) pa_nil))) pa_nil)) (nomark _))))) (pss_one (ps_ret pe_bl)) pss_nil)
      (pss_one (ps_ret (pe_callB (cr_all rfl) (by rfl) hAll (by decide +kernel) (pa_cons
        (pe_lc (own := [("_law_turn", 1)]) (g := gName 1) (tt := tYes) (te := tCall (spRight T) [] E0 (tCons (tCall (spWell K) [] E0 (tCons (tVar 0) (tCons (tVar 1) tNil))) tNil)) rfl scL.nd
          (pi_range1 rfl R.hRa (pa_cons (pe_callB (call_max2 rfl) (by rfl) hMax (by decide +kernel) (pa_cons pe_int (pa_cons (pe_callB (call_min2 rfl) (by rfl) hMin (by decide +kernel) (pa_cons (pe_callB call_len_seq (by rfl) R.hL PySem.boot_len (pa_cons (pv 0) pa_nil)) (pa_cons pe_int pa_nil))) pa_nil))) pa_nil))
          (blkOk_by (N := NL) (sc := defScope sLaw) (by decide +kernel)) (fun _ _ _ _ _ => pg_name (i := 1) scL.nd rfl (Or.inl rfl)) (fun _ _ _ _ _ => pts_nil)
          (fun _ _ _ _ _ => pe_callG GR hgd hr rfl gR kR bR' pass0 (pa_cons (pe_call GW hr1 rfl gW kW bW .nil pass0 (pa_cons (pv 0) (pa_cons (pv 1) pa_nil))) pa_nil))) pa_nil))))))), ?_⟩
    refine ⟨"last", 0, "ab", rfl, by decide, by decide +kernel, by decide +kernel, fun u00 H00 d q s00 dp00 => ?_⟩
    obtain rfl := q.uniq w1
    clear q
    refine ⟨"last", 2, "ab", rfl, by decide, by decide +kernel, by decide +kernel, fun u01 H01 d q s01 dp01 => ?_⟩
    obtain rfl := q.uniq w2
    clear q
    refine ⟨"last", 3, "ab", rfl, by decide, by decide +kernel, by decide +kernel, fun u02 H02 d q s02 dp02 => ?_⟩
    obtain rfl := q.uniq w3
    clear q
    refine ⟨"last", 0, "", rfl, by decide, by decide +kernel, by decide +kernel, fun u03 H03 d q s03 dp03 => ?_⟩
    obtain rfl := q.uniq w4
    clear q
    refine ⟨by show 4 ≤ sizeLine; decide, fun lA0 hA0 => ?_⟩
    refine ⟨by show 2 ≤ sizeLine; decide, fun t00 ht00 => ?_⟩
    refine ⟨by show 2 ≤ sizeLine; decide, fun t01 ht01 => ?_⟩
    refine ⟨by show 2 ≤ sizeLine; decide, fun t02 ht02 => ?_⟩
    refine ⟨by show 2 ≤ sizeLine; decide, fun t03 ht03 => ?_⟩
    refine ⟨by show 4 ≤ sizeLine; decide, fun lB0 hB0 => ?_⟩
    refine ⟨dd0, dd0, (.lst (SqL.of (keep1 (keep1 (keep1 (keep1 (keep1 upd_same ht00) ht01) ht02) ht03) hB0)) (.cons (Dp.ext ((((((((s01.trans s02).trans s03).trans (same_new hA0)).trans (same_new ht00)).trans (same_new ht01)).trans (same_new ht02)).trans (same_new ht03)).trans (same_new hB0)) dp00) (.cons (Dp.ext (((((((s02.trans s03).trans (same_new hA0)).trans (same_new ht00)).trans (same_new ht01)).trans (same_new ht02)).trans (same_new ht03)).trans (same_new hB0)) dp01) (.cons (Dp.ext ((((((s03.trans (same_new hA0)).trans (same_new ht00)).trans (same_new ht01)).trans (same_new ht02)).trans (same_new ht03)).trans (same_new hB0)) dp02) (.cons (Dp.ext ((((((same_new hA0).trans (same_new ht00)).trans (same_new ht01)).trans (same_new ht02)).trans (same_new ht03)).trans (same_new hB0)) dp03) .nil))))), (.lst (SqL.of upd_same) (.cons (.tup (SqT.of (keep1 (keep1 (keep1 (keep1 upd_same ht01) ht02) ht03) hB0)) (.cons (.str _) (.cons (.bl _) .nil))) (.cons (.tup (SqT.of (keep1 (keep1 (keep1 upd_same ht02) ht03) hB0)) (.cons (.str _) (.cons (.bl _) .nil))) (.cons (.tup (SqT.of (keep1 (keep1 upd_same ht03) hB0)) (.cons (.str _) (.cons (.bl _) .nil))) (.cons (.tup (SqT.of (keep1 upd_same hB0)) (.cons (.str _) (.cons (.bl _) .nil))) .nil))))), dd0_sh, dd0_sh, _, rfl, ?_⟩
    rw [SeqAt.eqv_refl _ (SeqAt.canLay_of_shaped dd0_sh)]
    refine iteF ?_
    refine ⟨"ends", 1, "ab", rfl, by decide, by decide +kernel, by decide +kernel, fun u10 H10 d q s10 dp10 => ?_⟩
    obtain rfl := q.uniq w5
    clear q
    refine ⟨"ends", 1, "a", rfl, by decide, by decide +kernel, by decide +kernel, fun u11 H11 d q s11 dp11 => ?_⟩
    obtain rfl := q.uniq w6
    clear q
    refine ⟨"ends", 2, "abc", rfl, by decide, by decide +kernel, by decide +kernel, fun u12 H12 d q s12 dp12 => ?_⟩
    obtain rfl := q.uniq w7
    clear q
    refine ⟨"ends", 2, "abca", rfl, by decide, by decide +kernel, by decide +kernel, fun u13 H13 d q s13 dp13 => ?_⟩
    obtain rfl := q.uniq w8
    clear q
    refine ⟨by show 4 ≤ sizeLine; decide, fun lA1 hA1 => ?_⟩
    refine ⟨by show 2 ≤ sizeLine; decide, fun t10 ht10 => ?_⟩
    refine ⟨by show 2 ≤ sizeLine; decide, fun t11 ht11 => ?_⟩
    refine ⟨by show 2 ≤ sizeLine; decide, fun t12 ht12 => ?_⟩
    refine ⟨by show 2 ≤ sizeLine; decide, fun t13 ht13 => ?_⟩
    refine ⟨by show 2 ≤ sizeLine; decide, fun t14 ht14 => ?_⟩
    refine ⟨by show 2 ≤ sizeLine; decide, fun t15 ht15 => ?_⟩
    refine ⟨by show 4 ≤ sizeLine; decide, fun lB1 hB1 => ?_⟩
    refine ⟨dd1, dd1, (.lst (SqL.of (keep1 (keep1 (keep1 (keep1 (keep1 (keep1 (keep1 upd_same ht10) ht11) ht12) ht13) ht14) ht15) hB1)) (.cons (Dp.ext ((((((((((s11.trans s12).trans s13).trans (same_new hA1)).trans (same_new ht10)).trans (same_new ht11)).trans (same_new ht12)).trans (same_new ht13)).trans (same_new ht14)).trans (same_new ht15)).trans (same_new hB1)) dp10) (.cons (Dp.ext (((((((((s12.trans s13).trans (same_new hA1)).trans (same_new ht10)).trans (same_new ht11)).trans (same_new ht12)).trans (same_new ht13)).trans (same_new ht14)).trans (same_new ht15)).trans (same_new hB1)) dp11) (.cons (Dp.ext ((((((((s13.trans (same_new hA1)).trans (same_new ht10)).trans (same_new ht11)).trans (same_new ht12)).trans (same_new ht13)).trans (same_new ht14)).trans (same_new ht15)).trans (same_new hB1)) dp12) (.cons (Dp.ext ((((((((same_new hA1).trans (same_new ht10)).trans (same_new ht11)).trans (same_new ht12)).trans (same_new ht13)).trans (same_new ht14)).trans (same_new ht15)).trans (same_new hB1)) dp13) .nil))))), (.lst (SqL.of upd_same) (.cons (.tup (SqT.of (keep1 (keep1 (keep1 (keep1 (keep1 upd_same ht12) ht13) ht14) ht15) hB1)) (.cons (.tup (SqT.of (keep1 (keep1 (keep1 (keep1 (keep1 (keep1 upd_same ht11) ht12) ht13) ht14) ht15) hB1)) (.cons (.str _) (.cons (.str _) .nil))) (.cons (.bl _) .nil))) (.cons (.tup (SqT.of (keep1 (keep1 (keep1 (keep1 upd_same ht13) ht14) ht15) hB1)) (.cons (.str _) (.cons (.bl _) .nil))) (.cons (.tup (SqT.of (keep1 (keep1 (keep1 upd_same ht14) ht15) hB1)) (.cons (.str _) (.cons (.bl _) .nil))) (.cons (.tup (SqT.of (keep1 upd_same hB1)) (.cons (.tup (SqT.of (keep1 (keep1 upd_same ht15) hB1)) (.cons (.str _) (.cons (.str _) .nil))) (.cons (.bl _) .nil))) .nil))))), dd1_sh, dd1_sh, _, rfl, ?_⟩
    rw [SeqAt.eqv_refl _ (SeqAt.canLay_of_shaped dd1_sh)]
    refine iteF ?_
    refine ⟨"sets", 1, "", rfl, by decide, by decide +kernel, by decide +kernel, fun u20 H20 d q s20 dp20 => ?_⟩
    obtain rfl := q.uniq w9
    clear q
    refine ⟨"windows", 2, "", rfl, by decide, by decide +kernel, by decide +kernel, fun u21 H21 d q s21 dp21 => ?_⟩
    obtain rfl := q.uniq w10
    clear q
    refine ⟨"sets", 3, "aa", rfl, by decide, by decide +kernel, by decide +kernel, fun u22 H22 d q s22 dp22 => ?_⟩
    obtain rfl := q.uniq w11
    clear q
    refine ⟨"sets", 5, "aa", rfl, by decide, by decide +kernel, by decide +kernel, fun u23 H23 d q s23 dp23 => ?_⟩
    obtain rfl := q.uniq w12
    clear q
    refine ⟨by show 4 ≤ sizeLine; decide, fun lA2 hA2 => ?_⟩
    refine ⟨by show 2 ≤ sizeLine; decide, fun t20 ht20 => ?_⟩
    refine ⟨by show 1 ≤ sizeLine; decide, fun t21 ht21 => ?_⟩
    refine ⟨by show 2 ≤ sizeLine; decide, fun t22 ht22 => ?_⟩
    refine ⟨by show 1 ≤ sizeLine; decide, fun t23 ht23 => ?_⟩
    refine ⟨by show 4 ≤ sizeLine; decide, fun lB2 hB2 => ?_⟩
    refine ⟨dd2, dd2, (.lst (SqL.of (keep1 (keep1 (keep1 (keep1 (keep1 upd_same ht20) ht21) ht22) ht23) hB2)) (.cons (Dp.ext ((((((((s21.trans s22).trans s23).trans (same_new hA2)).trans (same_new ht20)).trans (same_new ht21)).trans (same_new ht22)).trans (same_new ht23)).trans (same_new hB2)) dp20) (.cons (Dp.ext (((((((s22.trans s23).trans (same_new hA2)).trans (same_new ht20)).trans (same_new ht21)).trans (same_new ht22)).trans (same_new ht23)).trans (same_new hB2)) dp21) (.cons (Dp.ext ((((((s23.trans (same_new hA2)).trans (same_new ht20)).trans (same_new ht21)).trans (same_new ht22)).trans (same_new ht23)).trans (same_new hB2)) dp22) (.cons (Dp.ext ((((((same_new hA2).trans (same_new ht20)).trans (same_new ht21)).trans (same_new ht22)).trans (same_new ht23)).trans (same_new hB2)) dp23) .nil))))), (.lst (SqL.of upd_same) (.cons (.tup (SqT.of (keep1 (keep1 (keep1 (keep1 upd_same ht21) ht22) ht23) hB2)) (.cons (.str _) (.cons (.str _) .nil))) (.cons (.tup (SqT.of (keep1 (keep1 (keep1 upd_same ht22) ht23) hB2)) (.cons (.str _) .nil)) (.cons (.tup (SqT.of (keep1 (keep1 upd_same ht23) hB2)) (.cons (.str _) (.cons (.str _) .nil))) (.cons (.tup (SqT.of (keep1 upd_same hB2)) (.cons (.str _) .nil)) .nil))))), dd2_sh, dd2_sh, _, rfl, ?_⟩
    rw [SeqAt.eqv_refl _ (SeqAt.canLay_of_shaped dd2_sh)]
    refine iteF ?_
    refine ⟨97, rfl, rfl, "windows", 2, manyT 97, rfl, by decide, by decide +kernel, row_T, fun u30 H30 d q s30 dp30 => ?_⟩
    obtain rfl := q.uniq w13
    clear q
    refine ⟨by show 3 ≤ sizeLine; decide, fun tT hT' => ?_⟩
    refine ⟨dT, dT, Dp.ext (same_new hT') dp30, .tup (SqT.of upd_same) (.cons (.str _) (.cons (.str _) (.cons (.str _) .nil))), dT_sh, dT_sh, _, rfl, ?_⟩
    rw [SeqAt.eqv_refl _ (SeqAt.canLay_of_shaped dT_sh)]
    refine iteF ?_
    have sAll : Same H (upd H30 tT (.tup [.str ">a", .str "a<", .str "aa"])) := (((((((((((((((((((((((((((((((((s00.trans s01).trans s02).trans s03).trans (same_new hA0)).trans (same_new ht00)).trans (same_new ht01)).trans (same_new ht02)).trans (same_new ht03)).trans (same_new hB0)).trans s10).trans s11).trans s12).trans s13).trans (same_new hA1)).trans (same_new ht10)).trans (same_new ht11)).trans (same_new ht12)).trans (same_new ht13)).trans (same_new ht14)).trans (same_new ht15)).trans (same_new hB1)).trans s20).trans s21).trans s22).trans s23).trans (same_new hA2)).trans (same_new ht20)).trans (same_new ht21)).trans (same_new ht22)).trans (same_new ht23)).trans (same_new hB2)).trans s30).trans (same_new hT'))
    generalize upd H30 tT (.tup [.str ">a", .str "a<", .str "aa"]) = HX at sAll ⊢
    have gd := gd_str (many_low (c := 97) (by decide)) (by rw [many_len]; decide)
    refine ⟨Tabs.ext hT sAll, fun HF xF tF => ?_⟩
    refine ⟨97, rfl, rfl, .str "sets", .int 1, .str (manyS 97), .str "sets", .int 1, .str (manyS 97), rfl, .fl (.str _), .fl (.int _), .fl (.str _), fun z ez => by cases ez; rw [many_len]; decide, fun fk => absurd fk (by decide +kernel), fun k' ek tk fn => ?_, fun k' ek tk tn fr => ?_, fun k' m' r' ek en er tk tn tr => ?_⟩
    · cases ek
      exact absurd fn (by decide +kernel)
    · refine fun da H' s' e => ⟨C1, da, 1, _, .str (manyS 97), rfl, rfl, R.E1, e, rfl, fun la H'' s'' ela => ?_⟩
      refine ⟨la, [.str "row", .str (manyS 97)], rfl, .lst (SqL.of ela) (.cons (.fl (.str _)) (.cons (.fl (.str _)) .nil)), gd.sh, gd.ln, gd.dp, ?_⟩
      refine ⟨97, rfl, rfl, by show 2 ≤ sizeLine; decide, fun lz hz => ⟨lz, [.str "row", .str (manyS 97)], rfl, .lst (SqL.of upd_same) (.cons (.fl (.str _)) (.cons (.fl (.str _)) .nil)), gd.sh, gd.ln, gd.dp, ?_⟩⟩
      generalize (PyData.list [.str "row", .str (manyS 97)]).shown = S
      refine ⟨rfl, _, rfl, if_false_of (by simp) ?_⟩
      have xN : ExtN H (upd H'' lz (.lst [.str "row", .str (manyS 97)])) := fun b o e nt => (same_new hz) _ _ (s'' _ _ (s' _ _ (xF _ _ (sAll _ _ e) nt)))
      have tN := Tabs.ext tF ((s'.trans s'').trans (same_new (o := .lst [.str "row", .str (manyS 97)]) hz))
      generalize upd H'' lz (.lst [.str "row", .str (manyS 97)]) = Hn at xN tN ⊢
      have hS := sq_ext xN hS
      clear xN tF xF ela s'' s' hz gd sAll hT e
      refine ⟨_, rfl, a, _, rfl, .inl hS, _, _, rfl, _, _, rfl, _, rfl, ?_, ?_, fun D hD => ?_⟩
      · rw [List.length_map]
        split <;> split <;> omega
      · rw [List.length_map]
        split <;> split <;> omega
      · rw [List.length_map] at *
        generalize hn : (if (if (4 : Int) < (ns.length : Int) then (4 : Int) else (ns.length : Int)) > 2 then (if (4 : Int) < (ns.length : Int) then (4 : Int) else (ns.length : Int)) else 2) = n
        have n1 : 0 ≤ n ∧ n ≤ 4 := by
          rw [← hn]
          constructor <;> split <;> split <;> omega
        refine lc_range (lo := 0) (n := n.toNat) (fun j H' => ExtN Hn H' ∧ Tabs T H' ∧ H' D = some (.lst (List.replicate j (V.bl true)))) ⟨ExtN.of (same_new hD), Tabs.ext tN (same_new hD), upd_same⟩ (fun j H' hj ⟨sH, tH, eD⟩ => ?_) (fun H' ⟨sH, tH, eD⟩ => ?_)
        · refine ⟨rfl, ?_⟩
          refine ⟨_, rfl, _, rfl, a, ns, _, rfl, sq_ext sH hS, (by omega), (by omega), fun p H1 s1 np hW => ?_⟩
          refine ⟨p, rfl, hW, Tabs.ext tH s1, fun H2 s2 t2 => ?_⟩
          have dp : D ≠ p := ne_of_none eD np
          have eD2 : H2 D = some (.lst (List.replicate j (V.bl true))) := s2 D _ dp (fun _ z => by cases z) (s1 _ _ eD)
          refine ⟨_, eD2, ?_, fun b o e nt => ?_, Tabs.off t2 eD2, ?_⟩
          · rw [List.length_replicate]
            exact small1000 (by omega)
          · rw [upd_ne (ne_of_none e hD)]
            have z0 := sH _ _ e nt
            exact s2 b o (ne_of_none z0 np) nt (s1 _ _ z0)
          · rw [upd_same, rep_snoc]
        · refine ⟨D, List.replicate n.toNat true, rfl, SqL.of (by rw [List.map_replicate]; exact eD), ?_⟩
          rw [all_rep]
          exact k H'
    · have z : isRowL abc (manyS 97) = true := tr
      rw [row_M] at z
      cases z
end
end My
namespace My
open PySem PySem.Spec PyProof.Rows L2 PySem.GX L2H LamX
/-! ### what is asked of the written part, as tests that are run -/
def okC (K : PySem.W.Frag) (C : Addr) : Bool :=
  PySem.W.findIn K (.ref C) "__getattribute__" == some (some (.builtin "BaseException.__getattribute__")) && (PySem.W.findIn K (.ref C) "__getattr__" == some none &&
  (PySem.W.subIn K (.ref C) (.type "BaseException") == some true && (PySem.W.hasDictIn K C && (PySem.W.findIn K (.ref C) "__class__" == some (some (.builtin "object.__class__")) &&
  (PySem.W.specialIn K (.builtin "object.__class__") "__get__" == some (some (.builtin "getset_descriptor.__get__")) && (PySem.W.takesIn K (.builtin "object.__class__") == some true &&
  (PySem.W.mroIn K C (.type "object") == some true && (PySem.W.findIn K (.ref C) "__setattr__" == some (some (.builtin "object.__setattr__")) && PySem.W.keepIn K (.ref C)))))))))
theorem okC_of {K : PySem.W.Frag} {C : Addr} (h : okC K C = true) : ExcC K C ∧ PySem.W.findIn K (.ref C) "__setattr__" = some (some (.builtin "object.__setattr__")) ∧ PySem.W.keepIn K (.ref C) = true := by
  unfold okC at h
  simp only [Bool.and_eq_true, beq_iff_eq] at h
  obtain ⟨h1, h2, h3, h4, h5, h6, h7, h8, h9, h10⟩ := h
  exact ⟨⟨h1, h2, h3, h4, h5, h6, h7, h8⟩, h9, h10⟩
def shp (K : PySem.W.Frag) (C B : Addr) (tl : List Value) (nid : String) : Bool := match K.lookup C with
  | some ⟨.type "type", _, .cls cd, sl⟩ => (match cd.mro, sl.toList with
    | .ref C' :: bm, [_, _, _, _, some (.builtin n), _] => C' == C && (n == nid && (!cd.hasDel && (cd.hasDict && bm == .ref B :: tl)))
    | _, _ => false)
  | _ => false
theorem shp_of {K : PySem.W.Frag} {C B : Addr} {tl : List Value} {nid : String} (q : shp K C B tl nid = true) : ∃ nm qn N bs sn sub ab col dd k0 k1 k2 k3 k5,
    K.lookup C = some (excClassObj nm qn C N bs (.ref B :: tl) true sn sub ab col dd k0 k1 k2 k3 k5 nid) := by
  unfold shp at q
  split at q
  · rename_i dd cd sl ho
    split at q
    · rename_i C' bm k0 k1 k2 k3 n k5 hm hs
      simp only [Bool.and_eq_true, beq_iff_eq, Bool.not_eq_true'] at q
      obtain ⟨rfl, rfl, hdel, hdi, hbm⟩ := q
      obtain ⟨nm, bs, mro, ns, qn, hd, sn, sub, ab, col, dl⟩ := cd
      dsimp only at hm hdel hdi
      subst hm hdel hdi hbm
      have hsl : sl = #[k0, k1, k2, k3, some (.builtin n), k5] := by
        obtain ⟨l⟩ := sl
        simp only at hs
        rw [hs]
      subst hsl
      exact ⟨nm, qn, ns, bs, sn, sub, ab, col, dd, k0, k1, k2, k3, k5, ho⟩
    · cases q
  · cases q
theorem exG_of {K : PySem.W.Frag} {C B : Addr} {Bn nid iid : String} (FB : ExcBaseFacts Bn nid iid (tailOf Bn)) (hp : ∀ self, refuseLoop self "__setattr__" (tailOf Bn) = pure ()) (h : okC K C = true) (q : shp K C B (tailOf Bn) nid = true) : ExG K C := by
  obtain ⟨a, b, c⟩ := okC_of h
  obtain ⟨nm, qn, N, bs, sn, sub, ab, col, dd, k0, k1, k2, k3, k5, e⟩ := shp_of q
  exact ⟨a, ⟨Bn, nid, iid, tailOf Bn, nm, qn, N, bs, _, sn, sub, ab, col, dd, k0, k1, k2, k3, k5, FB, fun Y => by rw [List.contains_cons]; rfl, mroOk2 hp, e⟩, b, c⟩
def chk (K : PySem.W.Frag) (C : Addr) (i : Nat) (cs bs : List Addr) : Bool :=
  okC K C && ((List.range 11).all (fun j => PySem.W.kitOne K (.ref C) (.ref (cs.getD j 0)) == some (decide (j = i))) && (shp K C (bs.getD 0 0) (tailOf "ValueError") "ValueError.__new__" && (PySem.W.findIn K (.ref C) "given" == some none &&
  (PySem.W.kitOne K (.ref C) (.ref (bs.getD 0 0)) == some true && (PySem.W.kitOne K (.ref C) (.ref (bs.getD 1 0)) == some false && (PySem.W.kitOne K (.ref C) (.ref (bs.getD 2 0)) == some false &&
  (PySem.W.kitOne K (.ref C) (.type "ValueError") == some true && (PySem.W.kitOne K (.ref C) (.type "LookupError") == some false && (PySem.W.kitOne K (.ref C) (.type "ArithmeticError") == some false &&
  (PySem.W.exmAny K (.ref C) [.ref (bs.getD 0 0), .ref (bs.getD 1 0), .ref (bs.getD 2 0)] == some true && PySem.W.typeIn K (.ref C) == some (.type "type")))))))))))
theorem chk_of {K : PySem.W.Frag} {C B0 B1 B2 : Addr} {i : Nat} {cs : List Addr} (hi : i < 8) (q : chk K C i cs [B0, B1, B2] = true) : ErrC K (fun j => cs.getD j 0) B0 B1 B2 C i ∧ ExG K C ∧ PySem.W.typeIn K (.ref C) = some (.type "type") := by
  unfold chk at q
  simp only [Bool.and_eq_true, beq_iff_eq] at q
  obtain ⟨q1, q2, q3, q4, q5, q6, q7, q8, q9, q10, q11, q12⟩ := q
  exact ⟨⟨(okC_of q1).1, hi, fun j hj => beq_iff_eq.mp (List.all_eq_true.mp q2 j (List.mem_range.mpr hj)), q4, q5, q6, q7, q8, q9, q10, q11⟩, exG_of (B := B0) PySem.F.excBase_ValueError pass_VE q1 q3, q12⟩
theorem vals_rev : ∀ {zs : List V} {ws : List Value}, Vals zs ws → Vals zs.reverse ws.reverse
  | _, _, .nil => .nil
  | _, _, .cons r t => by
    rw [List.reverse_cons, List.reverse_cons]
    exact (vals_rev t).append (.cons r .nil)
theorem funD_mk {K : PySem.W.Frag} {x qual : Str} {st : Stmt} {f T : Addr} {o : Obj} {its : List Value} {n : Nat} {dvs : List V} {oc : Value} {od an : Option Addr} {osl : Array (Option Value)} {kV doc pm cdv ct : Value} (l : K.lookup f = some ⟨oc, od, .func (PySem.W.fnOf x qual (defArgs st) (defBody st) (defScope st) (.ref T) kV doc pm an cdv ct), osl⟩)
    (c : PySem.W.codeIn K cdv qual = true) (k : PySem.W.keepIn K (.ref f) = true) (hne : dvs ≠ []) (lT : K.lookup T = some o) (oT : o.data = .seq its.toArray n) (vd : Vals dvs its) : FunD K x qual (defArgs st) (defBody st) (defScope st) dvs [] f (PySem.W.fnOf x qual (defArgs st) (defBody st) (defScope st) (.ref T) kV doc pm an cdv ct) :=
  ⟨⟨oc, od, .ref T, kV, doc, pm, an, cdv, ct, osl, rfl, l, c, .inr ⟨hne, T, o, its, n, rfl, lT, oT, vd⟩, .inl rfl⟩, k⟩
end My
namespace My
open PySem PySem.Spec PyProof.Rows L2 PySem.GX L2H LamX
theorem mk_c1 {P : Program} {w : World} {K : PySem.W.Frag} {mg : Str → Option Value} {base : Heap} {C fI : Addr} {fd : FuncData} (F : Fun K "__init__" "InvalidRow.__init__" (inClass (top 3) 0) fI fd) (T : ExG K C) (no : PySem.W.findIn K (.ref C) "given" = some none) (gC : mg "InvalidRow" = some (.ref C))
    (iC : PySem.W.findIn K (.ref C) "__init__" = some (some (.ref fI))) (tI : PySem.W.typeIn K (.ref fI) = some (.type "function")) : Mk1 P w K mg base "InvalidRow" C "given" := by
  have S : FnScope ["self", "given"] ["self", "given"] (defScope (inClass (top 3) 0)) := ⟨rfl, rfl, rfl, by decide +kernel, rfl, by decide +kernel, by decide +kernel⟩
  refine ⟨T, gC, fI, fd, iC, tI, ?_, ?_, ?_⟩
  · refine F.ok S (fun vs H Q E h => by obtain ⟨a, v, rfl, _⟩ := h; rfl) (fun cdv A outer s H vs Q E hr h => ?_)
    obtain ⟨a, v, rfl, ha, k⟩ := h
    exact ⟨_, pss_one (ps_osG (pv 0) (pv 1)), _, rfl, _, rfl, a, C, rfl, T, no, .inl ⟨ha, k⟩⟩
  · obtain ⟨oc, od, kV, doc, pm, an, cdv, ct, osl, rfl, lk, hcd⟩ := F.ex
    exact ⟨fun s us ws _ hu hw => match us, ws, hu, hw with | [_, _], [], _, _ => .of_eq rfl, fun r _ => r⟩
  · obtain ⟨oc, od, kV, doc, pm, an, cdv, ct, osl, rfl, lk, hcd⟩ := F.ex
    exact ⟨fun s us ws _ hu hw => match us, ws, hu, hw with | [_], [_], _, _ => .of_eq rfl, fun r q => r.append q⟩
theorem mk_c2 {P : Program} {w : World} {K : PySem.W.Frag} {mg : Str → Option Value} {base : Heap} {C fI : Addr} {fd : FuncData} (F : Fun K "__init__" "InvalidKind.__init__" (inClass (top 4) 0) fI fd) (T : ExG K C) (no : PySem.W.findIn K (.ref C) "given" = some none) (gC : mg "InvalidKind" = some (.ref C))
    (iC : PySem.W.findIn K (.ref C) "__init__" = some (some (.ref fI))) (tI : PySem.W.typeIn K (.ref fI) = some (.type "function")) : Mk1 P w K mg base "InvalidKind" C "given" := by
  have S : FnScope ["self", "given"] ["self", "given"] (defScope (inClass (top 4) 0)) := ⟨rfl, rfl, rfl, by decide +kernel, rfl, by decide +kernel, by decide +kernel⟩
  refine ⟨T, gC, fI, fd, iC, tI, ?_, ?_, ?_⟩
  · refine F.ok S (fun vs H Q E h => by obtain ⟨a, v, rfl, _⟩ := h; rfl) (fun cdv A outer s H vs Q E hr h => ?_)
    obtain ⟨a, v, rfl, ha, k⟩ := h
    exact ⟨_, pss_one (ps_osG (pv 0) (pv 1)), _, rfl, _, rfl, a, C, rfl, T, no, .inl ⟨ha, k⟩⟩
  · obtain ⟨oc, od, kV, doc, pm, an, cdv, ct, osl, rfl, lk, hcd⟩ := F.ex
    exact ⟨fun s us ws _ hu hw => match us, ws, hu, hw with | [_, _], [], _, _ => .of_eq rfl, fun r _ => r⟩
  · obtain ⟨oc, od, kV, doc, pm, an, cdv, ct, osl, rfl, lk, hcd⟩ := F.ex
    exact ⟨fun s us ws _ hu hw => match us, ws, hu, hw with | [_], [_], _, _ => .of_eq rfl, fun r q => r.append q⟩
theorem mk_c3 {P : Program} {w : World} {K : PySem.W.Frag} {mg : Str → Option Value} {base : Heap} {C fI : Addr} {fd : FuncData} (F : Fun K "__init__" "InvalidNumber.__init__" (inClass (top 5) 0) fI fd) (T : ExG K C) (no : PySem.W.findIn K (.ref C) "given" = some none) (gC : mg "InvalidNumber" = some (.ref C))
    (iC : PySem.W.findIn K (.ref C) "__init__" = some (some (.ref fI))) (tI : PySem.W.typeIn K (.ref fI) = some (.type "function")) : Mk1 P w K mg base "InvalidNumber" C "given" := by
  have S : FnScope ["self", "given"] ["self", "given"] (defScope (inClass (top 5) 0)) := ⟨rfl, rfl, rfl, by decide +kernel, rfl, by decide +kernel, by decide +kernel⟩
  refine ⟨T, gC, fI, fd, iC, tI, ?_, ?_, ?_⟩
  · refine F.ok S (fun vs H Q E h => by obtain ⟨a, v, rfl, _⟩ := h; rfl) (fun cdv A outer s H vs Q E hr h => ?_)
    obtain ⟨a, v, rfl, ha, k⟩ := h
    exact ⟨_, pss_one (ps_osG (pv 0) (pv 1)), _, rfl, _, rfl, a, C, rfl, T, no, .inl ⟨ha, k⟩⟩
  · obtain ⟨oc, od, kV, doc, pm, an, cdv, ct, osl, rfl, lk, hcd⟩ := F.ex
    exact ⟨fun s us ws _ hu hw => match us, ws, hu, hw with | [_, _], [], _, _ => .of_eq rfl, fun r _ => r⟩
  · obtain ⟨oc, od, kV, doc, pm, an, cdv, ct, osl, rfl, lk, hcd⟩ := F.ex
    exact ⟨fun s us ws _ hu hw => match us, ws, hu, hw with | [_], [_], _, _ => .of_eq rfl, fun r q => r.append q⟩
def frees : List Str := ["int", "bool", "len", "abs", "isinstance", "repr", "all", "range", "max", "min", "ValueError", "LookupError", "ArithmeticError", "str", "set", "sorted", "list", "tuple"]
def chkF (K : PySem.W.Frag) : Bool := frees.all fun x => PySem.W.nsIn K mainGlobals x == some none
theorem free_of {K : PySem.W.Frag} {h : Heap} {mg : Str → Option Value} (X : K.In h) (G : h.Ns mainGlobals mg) (q : chkF K = true) {x : Str} (hx : x ∈ frees) : mg x = none := by
  unfold chkF at q
  exact PySem.W.mg_none_of X G (beq_iff_eq.mp (List.all_eq_true.mp q x hx))
def tabsOf : List (Addr × Addr) → List (Addr × Str)
  | [a, b] => [(a.2, qR), (b.2, qW)]
  | _ => []
theorem tabs_start : ∀ {ts : List (Addr × Addr)} {H : Hp}, (∀ q ∈ ts, H q.2 = some (.tbl #[])) → Tabs (tabsOf ts) H
  | [a, b], H, h => fun p hp => by
    have hp' : p ∈ [(a.2, qR), (b.2, qW)] := hp
    simp only [List.mem_cons, List.not_mem_nil, or_false] at hp'
    rcases hp' with rfl | rfl
    · exact TabS.nil (h a (List.mem_cons_self ..))
    · exact TabS.nil (h b (List.mem_cons_of_mem _ (List.mem_cons_self ..)))
  | [], H, h => fun p hp => by cases hp
  | [_], H, h => fun p hp => by cases hp
  | _ :: _ :: _ :: _, H, h => fun p hp => by cases hp
section
variable {l : PySem.W.OpenLaw} {w : World} {K : PySem.W.Frag} {h : Heap} {mg : Str → Option Value}
theorem all_mk {fa : Addr} {C0 C1 C2 C3 C4 C5 C6 C7 C8 C9 C10 B0 B1 B2 gva gvb gvc cR PR cW PTW tK tD gck gib gol gro gik gis gcm gl1 gl2 gl3 glk glw gld glp gln glo glr glc gli glq glv glg gll : Addr} {odva anva odvb anvb odvc anvc odck anck odib anib odol anol odro anro odik anik odis anis odcm ancm odl1 anl1 odl2 anl2 odl3 anl3 odlk anlk odlw anlw odld anld odlp anlp odln anln odlo anlo odlr anlr odlc anlc odli anli odlq anlq odlv anlv odlg anlg odll anll odR odW : Option Addr} {slva slvb slvc slK slck sdck slib slol slro slik slis slcm sll1 sll2 sll3 sllk sllw slld sllp slln sllo sllr sllc slli sllq sllv sllg slll slR slW : Array (Option Value)} {ocva kVva dcva pmva ctva cdva ocvb kVvb dcvb pmvb ctvb cdvb ocvc kVvc dcvc pmvc ctvc cdvc occk kVck dcck pmck ctck cdck ocib kVib dcib pmib ctib cdib ocol kVol dcol pmol ctol cdol ocro kVro dcro pmro ctro cdro ocik kVik dcik pmik ctik cdik ocis kVis dcis pmis ctis cdis occm kVcm dccm pmcm ctcm cdcm ocl1 kVl1 dcl1 pml1 ctl1 cdl1 ocl2 kVl2 dcl2 pml2 ctl2 cdl2 ocl3 kVl3 dcl3 pml3 ctl3 cdl3 oclk kVlk dclk pmlk ctlk cdlk oclw kVlw dclw pmlw ctlw cdlw ocld kVld dcld pmld ctld cdld oclp kVlp dclp pmlp ctlp cdlp ocln kVln dcln pmln ctln cdln oclo kVlo dclo pmlo ctlo cdlo oclr kVlr dclr pmlr ctlr cdlr oclc kVlc dclc pmlc ctlc cdlc ocli kVli dcli pmli ctli cdli oclq kVlq dclq pmlq ctlq cdlq oclv kVlv dclv pmlv ctlv cdlv oclg kVlg dclg pmlg ctlg ocll kVll dcll pmll ctll ocR ocW : Value} {u0 u1 u2 u3 tk2 tk3 tk4 : Tok} {nK ndck : Nat} {vsR vsW : Array Value} (X : K.In h) (G : h.Ns mainGlobals mg) (hfa : mg "law" = some (.ref fa))
    (acC0 : PySem.W.nsIn K mainGlobals "InvalidText" = some (some (.ref C0)))
    (acC1 : PySem.W.nsIn K mainGlobals "InvalidRow" = some (some (.ref C1)))
    (acC2 : PySem.W.nsIn K mainGlobals "InvalidKind" = some (some (.ref C2)))
    (acC3 : PySem.W.nsIn K mainGlobals "InvalidNumber" = some (some (.ref C3)))
    (acC4 : PySem.W.nsIn K mainGlobals "InvalidMood" = some (some (.ref C4)))
    (acC5 : PySem.W.nsIn K mainGlobals "InvalidSign" = some (some (.ref C5)))
    (acC6 : PySem.W.nsIn K mainGlobals "InvalidPaper" = some (some (.ref C6)))
    (acC7 : PySem.W.nsIn K mainGlobals "NotARule" = some (some (.ref C7)))
    (acC8 : PySem.W.nsIn K mainGlobals "OtherSigns" = some (some (.ref C8)))
    (acC9 : PySem.W.nsIn K mainGlobals "TooMany" = some (some (.ref C9)))
    (acC10 : PySem.W.nsIn K mainGlobals "Kept" = some (some (.ref C10)))
    (acB0 : PySem.W.nsIn K mainGlobals "NotRight" = some (some (.ref B0)))
    (acB1 : PySem.W.nsIn K mainGlobals "NotKnown" = some (some (.ref B1)))
    (acB2 : PySem.W.nsIn K mainGlobals "NotPossible" = some (some (.ref B2)))
    (amva : PySem.W.findIn K (.ref C1) "__init__" = some (some (.ref gva)))
    (aiva : PySem.W.isFn K (.ref gva) = true)
    (lgva : K.lookup gva = some ⟨ocva, odva, .func (PySem.W.fnOf "__init__" "InvalidRow.__init__" (defArgs (inClass (top 3) 0)) (defBody (inClass (top 3) 0)) (defScope (inClass (top 3) 0)) .none kVva dcva pmva anva cdva ctva), slva⟩)
    (cgva : PySem.W.codeIn K cdva "InvalidRow.__init__" = true)
    (kgva : PySem.W.keepIn K (.ref gva) = true)
    (tva : PySem.W.typeIn K (.ref gva) = some (.type "function"))
    (amvb : PySem.W.findIn K (.ref C2) "__init__" = some (some (.ref gvb)))
    (aivb : PySem.W.isFn K (.ref gvb) = true)
    (lgvb : K.lookup gvb = some ⟨ocvb, odvb, .func (PySem.W.fnOf "__init__" "InvalidKind.__init__" (defArgs (inClass (top 4) 0)) (defBody (inClass (top 4) 0)) (defScope (inClass (top 4) 0)) .none kVvb dcvb pmvb anvb cdvb ctvb), slvb⟩)
    (cgvb : PySem.W.codeIn K cdvb "InvalidKind.__init__" = true)
    (kgvb : PySem.W.keepIn K (.ref gvb) = true)
    (tvb : PySem.W.typeIn K (.ref gvb) = some (.type "function"))
    (amvc : PySem.W.findIn K (.ref C3) "__init__" = some (some (.ref gvc)))
    (aivc : PySem.W.isFn K (.ref gvc) = true)
    (lgvc : K.lookup gvc = some ⟨ocvc, odvc, .func (PySem.W.fnOf "__init__" "InvalidNumber.__init__" (defArgs (inClass (top 5) 0)) (defBody (inClass (top 5) 0)) (defScope (inClass (top 5) 0)) .none kVvc dcvc pmvc anvc cdvc ctvc), slvc⟩)
    (cgvc : PySem.W.codeIn K cdvc "InvalidNumber.__init__" = true)
    (kgvc : PySem.W.keepIn K (.ref gvc) = true)
    (tvc : PySem.W.typeIn K (.ref gvc) = some (.type "function"))
    (atK : PySem.W.nsIn K mainGlobals "KINDS" = some (some (.ref tK)))
    (ltK : K.lookup tK = some ⟨.type "tuple", none, .seq #[.str "last" u0, .str "ends" u1, .str "windows" u2, .str "sets" u3] nK, slK⟩)
    (agck : PySem.W.nsIn K mainGlobals "check_kind" = some (some (.ref gck)))
    (lgck : K.lookup gck = some ⟨occk, odck, .func (PySem.W.fnOf "check_kind" "check_kind" (defArgs sCKind) (defBody sCKind) (defScope sCKind) (.ref tD) kVck dcck pmck anck cdck ctck), slck⟩)
    (cgck : PySem.W.codeIn K cdck "check_kind" = true)
    (kgck : PySem.W.keepIn K (.ref gck) = true)
    (ldck : K.lookup tD = some ⟨.type "tuple", none, .seq #[.ref tK] ndck, sdck⟩)
    (agib : PySem.W.nsIn K mainGlobals "in_bounds" = some (some (.ref gib)))
    (lgib : K.lookup gib = some ⟨ocib, odib, .func (PySem.W.fnOf "in_bounds" "in_bounds" (defArgs sBounds) (defBody sBounds) (defScope sBounds) .none kVib dcib pmib anib cdib ctib), slib⟩)
    (cgib : PySem.W.codeIn K cdib "in_bounds" = true)
    (kgib : PySem.W.keepIn K (.ref gib) = true)
    (agol : PySem.W.nsIn K mainGlobals "made_of" = some (some (.ref gol)))
    (lgol : K.lookup gol = some ⟨ocol, odol, .func (PySem.W.fnOf "made_of" "made_of" (defArgs sMade) (defBody sMade) (defScope sMade) .none kVol dcol pmol anol cdol ctol), slol⟩)
    (cgol : PySem.W.codeIn K cdol "made_of" = true)
    (kgol : PySem.W.keepIn K (.ref gol) = true)
    (agro : PySem.W.nsIn K mainGlobals "is_row_of" = some (some (.ref gro)))
    (lgro : K.lookup gro = some ⟨ocro, odro, .func (PySem.W.fnOf "is_row_of" "is_row_of" (defArgs sRowOf) (defBody sRowOf) (defScope sRowOf) .none kVro dcro pmro anro cdro ctro), slro⟩)
    (cgro : PySem.W.codeIn K cdro "is_row_of" = true)
    (kgro : PySem.W.keepIn K (.ref gro) = true)
    (agik : PySem.W.nsIn K mainGlobals "is_kind" = some (some (.ref gik)))
    (lgik : K.lookup gik = some ⟨ocik, odik, .func (PySem.W.fnOf "is_kind" "is_kind" (defArgs sIsKind) (defBody sIsKind) (defScope sIsKind) .none kVik dcik pmik anik cdik ctik), slik⟩)
    (cgik : PySem.W.codeIn K cdik "is_kind" = true)
    (kgik : PySem.W.keepIn K (.ref gik) = true)
    (agis : PySem.W.nsIn K mainGlobals "is_number" = some (some (.ref gis)))
    (lgis : K.lookup gis = some ⟨ocis, odis, .func (PySem.W.fnOf "is_number" "is_number" (defArgs sIsNum) (defBody sIsNum) (defScope sIsNum) .none kVis dcis pmis anis cdis ctis), slis⟩)
    (cgis : PySem.W.codeIn K cdis "is_number" = true)
    (kgis : PySem.W.keepIn K (.ref gis) = true)
    (agcm : PySem.W.nsIn K mainGlobals "check_number" = some (some (.ref gcm)))
    (lgcm : K.lookup gcm = some ⟨occm, odcm, .func (PySem.W.fnOf "check_number" "check_number" (defArgs sCNum) (defBody sCNum) (defScope sCNum) .none kVcm dccm pmcm ancm cdcm ctcm), slcm⟩)
    (cgcm : PySem.W.codeIn K cdcm "check_number" = true)
    (kgcm : PySem.W.keepIn K (.ref gcm) = true)
    (agl1 : PySem.W.nsIn K mainGlobals "last_look" = some (some (.ref gl1)))
    (lgl1 : K.lookup gl1 = some ⟨ocl1, odl1, .func (PySem.W.fnOf "last_look" "last_look" (defArgs sLastL) (defBody sLastL) (defScope sLastL) .none kVl1 dcl1 pml1 anl1 cdl1 ctl1), sll1⟩)
    (cgl1 : PySem.W.codeIn K cdl1 "last_look" = true)
    (kgl1 : PySem.W.keepIn K (.ref gl1) = true)
    (agl2 : PySem.W.nsIn K mainGlobals "ends_look" = some (some (.ref gl2)))
    (lgl2 : K.lookup gl2 = some ⟨ocl2, odl2, .func (PySem.W.fnOf "ends_look" "ends_look" (defArgs sEndsL) (defBody sEndsL) (defScope sEndsL) .none kVl2 dcl2 pml2 anl2 cdl2 ctl2), sll2⟩)
    (cgl2 : PySem.W.codeIn K cdl2 "ends_look" = true)
    (kgl2 : PySem.W.keepIn K (.ref gl2) = true)
    (agl3 : PySem.W.nsIn K mainGlobals "pieces_look" = some (some (.ref gl3)))
    (lgl3 : K.lookup gl3 = some ⟨ocl3, odl3, .func (PySem.W.fnOf "pieces_look" "pieces_look" (defArgs sPiecesL) (defBody sPiecesL) (defScope sPiecesL) .none kVl3 dcl3 pml3 anl3 cdl3 ctl3), sll3⟩)
    (cgl3 : PySem.W.codeIn K cdl3 "pieces_look" = true)
    (kgl3 : PySem.W.keepIn K (.ref gl3) = true)
    (aglk : PySem.W.nsIn K mainGlobals "look" = some (some (.ref glk)))
    (lglk : K.lookup glk = some ⟨oclk, odlk, .func (PySem.W.fnOf "look" "look" (defArgs sLook) (defBody sLook) (defScope sLook) .none kVlk dclk pmlk anlk cdlk ctlk), sllk⟩)
    (cglk : PySem.W.codeIn K cdlk "look" = true)
    (kglk : PySem.W.keepIn K (.ref glk) = true)
    (aglw : PySem.W.nsIn K mainGlobals "_law_well" = some (some (.ref glw)))
    (lglw : K.lookup glw = some ⟨oclw, odlw, .func (PySem.W.fnOf "_law_well" "_law_well" (defArgs sWell) (defBody sWell) (defScope sWell) .none kVlw dclw pmlw anlw cdlw ctlw), sllw⟩)
    (cglw : PySem.W.codeIn K cdlw "_law_well" = true)
    (kglw : PySem.W.keepIn K (.ref glw) = true)
    (agld : PySem.W.nsIn K mainGlobals "_law_dip" = some (some (.ref gld)))
    (lgld : K.lookup gld = some ⟨ocld, odld, .func (PySem.W.fnOf "_law_dip" "_law_dip" (defArgs sDip) (defBody sDip) (defScope sDip) .none kVld dcld pmld anld cdld ctld), slld⟩)
    (cgld : PySem.W.codeIn K cdld "_law_dip" = true)
    (kgld : PySem.W.keepIn K (.ref gld) = true)
    (aglp : PySem.W.nsIn K mainGlobals "_law_pick" = some (some (.ref glp)))
    (lglp : K.lookup glp = some ⟨oclp, odlp, .func (PySem.W.fnOf "_law_pick" "_law_pick" (defArgs sPick) (defBody sPick) (defScope sPick) .none kVlp dclp pmlp anlp cdlp ctlp), sllp⟩)
    (cglp : PySem.W.codeIn K cdlp "_law_pick" = true)
    (kglp : PySem.W.keepIn K (.ref glp) = true)
    (agln : PySem.W.nsIn K mainGlobals "_law_line" = some (some (.ref gln)))
    (lgln : K.lookup gln = some ⟨ocln, odln, .func (PySem.W.fnOf "_law_line" "_law_line" (defArgs sLine) (defBody sLine) (defScope sLine) .none kVln dcln pmln anln cdln ctln), slln⟩)
    (cgln : PySem.W.codeIn K cdln "_law_line" = true)
    (kgln : PySem.W.keepIn K (.ref gln) = true)
    (aglo : PySem.W.nsIn K mainGlobals "_law_odd" = some (some (.ref glo)))
    (lglo : K.lookup glo = some ⟨oclo, odlo, .func (PySem.W.fnOf "_law_odd" "_law_odd" (defArgs sOdd) (defBody sOdd) (defScope sOdd) .none kVlo dclo pmlo anlo cdlo ctlo), sllo⟩)
    (cglo : PySem.W.codeIn K cdlo "_law_odd" = true)
    (kglo : PySem.W.keepIn K (.ref glo) = true)
    (aglr : PySem.W.nsIn K mainGlobals "_law_error" = some (some (.ref glr)))
    (lglr : K.lookup glr = some ⟨oclr, odlr, .func (PySem.W.fnOf "_law_error" "_law_error" (defArgs sError) (defBody sError) (defScope sError) .none kVlr dclr pmlr anlr cdlr ctlr), sllr⟩)
    (cglr : PySem.W.codeIn K cdlr "_law_error" = true)
    (kglr : PySem.W.keepIn K (.ref glr) = true)
    (aglc : PySem.W.nsIn K mainGlobals "_law_class" = some (some (.ref glc)))
    (lglc : K.lookup glc = some ⟨oclc, odlc, .func (PySem.W.fnOf "_law_class" "_law_class" (defArgs sClass) (defBody sClass) (defScope sClass) .none kVlc dclc pmlc anlc cdlc ctlc), sllc⟩)
    (cglc : PySem.W.codeIn K cdlc "_law_class" = true)
    (kglc : PySem.W.keepIn K (.ref glc) = true)
    (agli : PySem.W.nsIn K mainGlobals "_law_field" = some (some (.ref gli)))
    (lgli : K.lookup gli = some ⟨ocli, odli, .func (PySem.W.fnOf "_law_field" "_law_field" (defArgs sField) (defBody sField) (defScope sField) .none kVli dcli pmli anli cdli ctli), slli⟩)
    (cgli : PySem.W.codeIn K cdli "_law_field" = true)
    (kgli : PySem.W.keepIn K (.ref gli) = true)
    (aglq : PySem.W.nsIn K mainGlobals "_law_pieces" = some (some (.ref glq)))
    (lglq : K.lookup glq = some ⟨oclq, odlq, .func (PySem.W.fnOf "_law_pieces" "_law_pieces" (defArgs sLPieces) (defBody sLPieces) (defScope sLPieces) .none kVlq dclq pmlq anlq cdlq ctlq), sllq⟩)
    (cglq : PySem.W.codeIn K cdlq "_law_pieces" = true)
    (kglq : PySem.W.keepIn K (.ref glq) = true)
    (aglv : PySem.W.nsIn K mainGlobals "_law_look" = some (some (.ref glv)))
    (lglv : K.lookup glv = some ⟨oclv, odlv, .func (PySem.W.fnOf "_law_look" "_law_look" (defArgs sLLook) (defBody sLLook) (defScope sLLook) .none kVlv dclv pmlv anlv cdlv ctlv), sllv⟩)
    (cglv : PySem.W.codeIn K cdlv "_law_look" = true)
    (kglv : PySem.W.keepIn K (.ref glv) = true)
    (aglg : PySem.W.nsIn K mainGlobals "_law_right" = some (some (.ref glg)))
    (lglg : K.lookup glg = some ⟨oclg, odlg, .func (PySem.W.fnOf "_law_right" "_law_right" (defArgs sRight) (defBody sRight) (defScope sRight) .none kVlg dclg pmlg anlg (.ref cR) ctlg), sllg⟩)
    (cglg : PySem.W.codeIn K (.ref cR) "_law_right" = true)
    (kglg : PySem.W.keepIn K (.ref glg) = true)
    (agll : PySem.W.nsIn K mainGlobals "law" = some (some (.ref gll)))
    (lgll : K.lookup gll = some ⟨ocll, odll, .func (PySem.W.fnOf "law" "law" (defArgs sLaw) (defBody sLaw) (defScope sLaw) .none kVll dcll pmll anll (.ref cW) ctll), slll⟩)
    (cgll : PySem.W.codeIn K (.ref cW) "law" = true)
    (kgll : PySem.W.keepIn K (.ref gll) = true)
    (av2 : PySem.W.nsIn K mainGlobals "MOST_ROW" = some (some (.int 1000 tk2)))
    (av3 : PySem.W.nsIn K mainGlobals "MOST_LOOK" = some (some (.int 1000 tk3)))
    (av4 : PySem.W.nsIn K mainGlobals "LETTERS" = some (some (.str abc tk4)))
    (lcR : K.lookup cR = some ⟨ocR, odR, .fields vsR, slR⟩)
    (p11 : vsR[11]? = some (.ref PR))
    (lcW : K.lookup cW = some ⟨ocW, odW, .fields vsW, slW⟩)
    (q11 : vsW[11]? = some (.ref PTW))
    (npp : decide (PR = PTW) = false)
    (hch1 : chk K C1 1 [C0, C1, C2, C3, C4, C5, C6, C7, C8, C9, C10] [B0, B1, B2] = true) (hch2 : chk K C2 2 [C0, C1, C2, C3, C4, C5, C6, C7, C8, C9, C10] [B0, B1, B2] = true) (hch3 : chk K C3 3 [C0, C1, C2, C3, C4, C5, C6, C7, C8, C9, C10] [B0, B1, B2] = true) (hcf : chkF K = true) :
    ∃ fd : FuncData, (∀ (s : Shared) (v : Value), BindsTo s fd ⟨[v], []⟩ [("_law_script", v)]) ∧ ∀ base : Heap, K.In base → base.Ns mainGlobals mg → (∀ q ∈ [(cR, PR), (cW, PTW)], TabB base mg q.1 q.2) → FnG l.prog w K mg base CX0 8 fa fd ["_law_script"] (spLaw K (tabsOf [(cR, PR), (cW, PTW)])) := by
  have e := hfa.symm.trans (PySem.W.mg_of X G agll)
  cases e
  have fr := fun {x : Str} (hx : x ∈ frees) => free_of X G hcf hx
  obtain ⟨E1, X1, y1⟩ := chk_of (by decide) hch1
  obtain ⟨E2, X2, y2⟩ := chk_of (by decide) hch2
  obtain ⟨E3, X3, y3⟩ := chk_of (by decide) hch3
  have mcC0 := PySem.W.mg_of X G acC0
  have mcC1 := PySem.W.mg_of X G acC1
  have mcC2 := PySem.W.mg_of X G acC2
  have mcC3 := PySem.W.mg_of X G acC3
  have mcC4 := PySem.W.mg_of X G acC4
  have mcC5 := PySem.W.mg_of X G acC5
  have mcC6 := PySem.W.mg_of X G acC6
  have mcC7 := PySem.W.mg_of X G acC7
  have mcC8 := PySem.W.mg_of X G acC8
  have mcC9 := PySem.W.mg_of X G acC9
  have mcC10 := PySem.W.mg_of X G acC10
  have mcB0 := PySem.W.mg_of X G acB0
  have mcB1 := PySem.W.mg_of X G acB1
  have mcB2 := PySem.W.mg_of X G acB2
  have Fva := fun_mk (st := (inClass (top 3) 0)) lgva cgva kgva
  have bva := Fva.binds (ps := ["self", "given"]) fun _ _ _ _ _ _ us hl => match us, hl with | [_, _], _ => rfl
  have Fvb := fun_mk (st := (inClass (top 4) 0)) lgvb cgvb kgvb
  have bvb := Fvb.binds (ps := ["self", "given"]) fun _ _ _ _ _ _ us hl => match us, hl with | [_, _], _ => rfl
  have Fvc := fun_mk (st := (inClass (top 5) 0)) lgvc cgvc kgvc
  have bvc := Fvc.binds (ps := ["self", "given"]) fun _ _ _ _ _ _ us hl => match us, hl with | [_, _], _ => rfl
  have Fck := funD_mk (st := sCKind) (dvs := [.ref tK]) (its := [.ref tK]) lgck cgck kgck (fun z => by cases z) ldck rfl (.cons rfl .nil)
  have mck := PySem.W.mg_of X G agck
  have Fib := fun_mk (st := sBounds) lgib cgib kgib
  have bib := Fib.binds (ps := ["value", "low", "high"]) fun _ _ _ _ _ _ us hl => match us, hl with | [_, _, _], _ => rfl
  have mib := PySem.W.mg_of X G agib
  have Fol := fun_mk (st := sMade) lgol cgol kgol
  have bol := Fol.binds (ps := ["text", "letters"]) fun _ _ _ _ _ _ us hl => match us, hl with | [_, _], _ => rfl
  have mol := PySem.W.mg_of X G agol
  have Fro := fun_mk (st := sRowOf) lgro cgro kgro
  have bro := Fro.binds (ps := ["value", "letters"]) fun _ _ _ _ _ _ us hl => match us, hl with | [_, _], _ => rfl
  have mro := PySem.W.mg_of X G agro
  have Fik := fun_mk (st := sIsKind) lgik cgik kgik
  have bik := Fik.binds (ps := ["value", "kinds"]) fun _ _ _ _ _ _ us hl => match us, hl with | [_, _], _ => rfl
  have mik := PySem.W.mg_of X G agik
  have Fis := fun_mk (st := sIsNum) lgis cgis kgis
  have bis := Fis.binds (ps := ["kind", "value", "most"]) fun _ _ _ _ _ _ us hl => match us, hl with | [_, _, _], _ => rfl
  have mis := PySem.W.mg_of X G agis
  have Fcm := fun_mk (st := sCNum) lgcm cgcm kgcm
  have bcm := Fcm.binds (ps := ["kind", "number"]) fun _ _ _ _ _ _ us hl => match us, hl with | [_, _], _ => rfl
  have mcm := PySem.W.mg_of X G agcm
  have Fl1 := fun_mk (st := sLastL) lgl1 cgl1 kgl1
  have bl1 := Fl1.binds (ps := ["number", "row"]) fun _ _ _ _ _ _ us hl => match us, hl with | [_, _], _ => rfl
  have ml1 := PySem.W.mg_of X G agl1
  have Fl2 := fun_mk (st := sEndsL) lgl2 cgl2 kgl2
  have bl2 := Fl2.binds (ps := ["number", "row"]) fun _ _ _ _ _ _ us hl => match us, hl with | [_, _], _ => rfl
  have ml2 := PySem.W.mg_of X G agl2
  have Fl3 := fun_mk (st := sPiecesL) lgl3 cgl3 kgl3
  have bl3 := Fl3.binds (ps := ["number", "row"]) fun _ _ _ _ _ _ us hl => match us, hl with | [_, _], _ => rfl
  have ml3 := PySem.W.mg_of X G agl3
  have Flk := fun_mk (st := sLook) lglk cglk kglk
  have blk := Flk.binds (ps := ["kind", "number", "row"]) fun _ _ _ _ _ _ us hl => match us, hl with | [_, _, _], _ => rfl
  have mlk := PySem.W.mg_of X G aglk
  have Flw := fun_mk (st := sWell) lglw cglw kglw
  have blw := Flw.binds (ps := ["_law_script", "_law_turn"]) fun _ _ _ _ _ _ us hl => match us, hl with | [_, _], _ => rfl
  have mlw := PySem.W.mg_of X G aglw
  have Fld := fun_mk (st := sDip) lgld cgld kgld
  have bld := Fld.binds (ps := ["_law_well_here", "_law_size"]) fun _ _ _ _ _ _ us hl => match us, hl with | [_, _], _ => rfl
  have mld := PySem.W.mg_of X G agld
  have Flp := fun_mk (st := sPick) lglp cglp kglp
  have blp := Flp.binds (ps := ["_law_well_here", "_law_menu"]) fun _ _ _ _ _ _ us hl => match us, hl with | [_, _], _ => rfl
  have mlp := PySem.W.mg_of X G aglp
  have Fln := fun_mk (st := sLine) lgln cgln kgln
  have bln := Fln.binds (ps := ["_law_well_here", "_law_letters", "_law_size"]) fun _ _ _ _ _ _ us hl => match us, hl with | [_, _, _], _ => rfl
  have mln := PySem.W.mg_of X G agln
  have Flo := fun_mk (st := sOdd) lglo cglo kglo
  have blo := Flo.binds (ps := ["_law_well_here"]) fun _ _ _ _ _ _ us hl => match us, hl with | [_], _ => rfl
  have mlo := PySem.W.mg_of X G aglo
  have Flr := fun_mk (st := sError) lglr cglr kglr
  have blr := Flr.binds (ps := ["_law_act"]) fun _ _ _ _ _ _ us hl => match us, hl with | [_], _ => rfl
  have mlr := PySem.W.mg_of X G aglr
  have Flc := fun_mk (st := sClass) lglc cglc kglc
  have blc := Flc.binds (ps := ["_law_e"]) fun _ _ _ _ _ _ us hl => match us, hl with | [_], _ => rfl
  have mlc := PySem.W.mg_of X G aglc
  have Fli := fun_mk (st := sField) lgli cgli kgli
  have bli := Fli.binds (ps := ["_law_e"]) fun _ _ _ _ _ _ us hl => match us, hl with | [_], _ => rfl
  have mli := PySem.W.mg_of X G agli
  have Flq := fun_mk (st := sLPieces) lglq cglq kglq
  have blq := Flq.binds (ps := ["_law_marked", "_law_measure"]) fun _ _ _ _ _ _ us hl => match us, hl with | [_, _], _ => rfl
  have mlq := PySem.W.mg_of X G aglq
  have Flv := fun_mk (st := sLLook) lglv cglv kglv
  have blv := Flv.binds (ps := ["_law_sort", "_law_measure", "_law_line_here"]) fun _ _ _ _ _ _ us hl => match us, hl with | [_, _, _], _ => rfl
  have mlv := PySem.W.mg_of X G aglv
  have Flg := fun_mk (st := sRight) lglg cglg kglg
  have blg := Flg.binds (ps := ["_law_well_here"]) fun _ _ _ _ _ _ us hl => match us, hl with | [_], _ => rfl
  have mlg := PySem.W.mg_of X G aglg
  have Fll := fun_mk (st := sLaw) lgll cgll kgll
  have bll := Fll.binds (ps := ["_law_script"]) fun _ _ _ _ _ _ us hl => match us, hl with | [_], _ => rfl
  have mll := PySem.W.mg_of X G agll
  have v2 := PySem.W.mg_of X G av2
  have v3 := PySem.W.mg_of X G av3
  have v4 := PySem.W.mg_of X G av4
  refine ⟨PySem.W.fnOf "law" "law" (defArgs sLaw) (defBody sLaw) (defScope sLaw) .none kVll dcll pmll anll (.ref cW) ctll, fun s v => .of_eq rfl, fun base _ _ hTB => ?_⟩
  have TBR : TabB base mg cR PR := hTB (cR, PR) (List.mem_cons_self ..)
  have TBW : TabB base mg cW PTW := hTB (cW, PTW) (List.mem_cons_of_mem _ (List.mem_cons_self ..))
  have ne := of_decide_eq_false npp
  have uR : ∀ q ∈ tabsOf [(cR, PR), (cW, PTW)], q.1 = PR → q.2 = qR := fun q hq e => by
    have hq' : q ∈ [(PR, qR), (PTW, qW)] := hq
    simp only [List.mem_cons, List.not_mem_nil, or_false] at hq'
    rcases hq' with rfl | rfl
    · rfl
    · exact absurd e.symm ne
  have uW : ∀ q ∈ tabsOf [(cR, PR), (cW, PTW)], q.1 = PTW → q.2 = qW := fun q hq e => by
    have hq' : q ∈ [(PR, qR), (PTW, qW)] := hq
    simp only [List.mem_cons, List.not_mem_nil, or_false] at hq'
    rcases hq' with rfl | rfl
    · exact absurd e ne
    · rfl
  have hOl : Hv l.prog w K mg base 1 "made_of" ["text", "letters"] spMade := ⟨_, _, ok_made Fol (fr (by decide)), bol, mol, kgol⟩
  have hRo : Hv l.prog w K mg base 2 "is_row_of" ["value", "letters"] (spRowD K) := ⟨_, _, ok_rowD Fro hOl (fr (by decide)) (fr (by decide)) (fr (by decide)) v2, bro, mro, kgro⟩
  have hIb : Hv l.prog w K mg base 1 "in_bounds" ["value", "low", "high"] (spInB K) := ⟨_, _, ok_inb Fib (fr (by decide)) (fr (by decide)) (fr (by decide)), bib, mib, kgib⟩
  have kK : ∀ H, SqT K H tK (kinds.map V.str) := fun H => .inr ⟨_, _, _, ltK, rfl, rfl, by show 4 ≤ sizeLine; decide, .cons ⟨_, rfl⟩ (.cons ⟨_, rfl⟩ (.cons ⟨_, rfl⟩ (.cons ⟨_, rfl⟩ .nil)))⟩
  have Z1 : RzC l.prog w K mg base "InvalidRow" C1 := ⟨mk_c1 Fva X1 E1.no mcC1 amva tva, X1.toExcC.hs, y1⟩
  have Z2 : RzC l.prog w K mg base "InvalidKind" C2 := ⟨mk_c2 Fvb X2 E2.no mcC2 amvb tvb, X2.toExcC.hs, y2⟩
  have Z3 : RzC l.prog w K mg base "InvalidNumber" C3 := ⟨mk_c3 Fvc X3 E3.no mcC3 amvc tvc, X3.toExcC.hs, y3⟩
  have hIk : Hv l.prog w K mg base 1 "is_kind" ["value", "kinds"] (spIsK K) := ⟨_, _, ok_isk Fik (fr (by decide)) (fr (by decide)), bik, mik, kgik⟩
  obtain ⟨dsK, vK, bK⟩ := binds_ck Fck
  have hCK : HvD l.prog w K mg base 3 "check_kind" ["kind", "kinds"] [.ref tK] (spCKs K C2) := ⟨_, _, dsK, ok_ck Fck Z2 hIk, vK, bK, mck, kgck⟩
  have hIn : Hv l.prog w K mg base 2 "is_number" ["kind", "value", "most"] (spIsN K) := ⟨_, _, ok_isn Fis hIb, bis, mis, kgis⟩
  have hCN : HvX l.prog w K mg base 3 "check_number" ["kind", "number"] (spCN K C3) := ⟨_, _, ok_cn Fcm Z3 hIn v3, bcm, mcm, kgcm⟩
  have h1 : Hv l.prog w K mg base 1 "last_look" ["number", "row"] (spLast K) := ⟨_, _, ok_last Fl1 (fr (by decide)), bl1, ml1, kgl1⟩
  have h2 : Hv l.prog w K mg base 1 "ends_look" ["number", "row"] (spEnds K) := ⟨_, _, ok_ends Fl2 (fr (by decide)), bl2, ml2, kgl2⟩
  have h3 : Hv l.prog w K mg base 1 "pieces_look" ["number", "row"] (spPcs K) := ⟨_, _, ok_pcs Fl3 (fr (by decide)) (fr (by decide)) (fr (by decide)) (fr (by decide)), bl3, ml3, kgl3⟩
  have GK := ok_look Flk Z1 hCK kK hCN hRo h1 h2 h3 v4
  have hDp : Hv l.prog w K mg base 1 "_law_dip" ["_law_well_here", "_law_size"] spDip := ⟨_, _, ok_dip Fld (fr (by decide)), bld, mld, kgld⟩
  have hPl : Hv l.prog w K mg base 2 "_law_pick" ["_law_well_here", "_law_menu"] spPickL := ⟨_, _, ok_pickL Flp hDp (fr (by decide)), blp, mlp, kglp⟩
  have hPs : Hv l.prog w K mg base 2 "_law_pick" ["_law_well_here", "_law_menu"] spPickS := ⟨_, _, ok_pickS Flp hDp (fr (by decide)), blp, mlp, kglp⟩
  have hPc : Hv l.prog w K mg base 1 "_law_pieces" ["_law_marked", "_law_measure"] (spPcsL K) := ⟨_, _, ok_pcsL Flq (fr (by decide)) (fr (by decide)) (fr (by decide)) (fr (by decide)) (fr (by decide)), blq, mlq, kglq⟩
  have R : Rt l.prog w K mg base C1 C2 C3 (fun j => ([C0, C1, C2, C3, C4, C5, C6, C7, C8, C9, C10] : List Addr).getD j 0) B0 B1 B2 := {
    lk := ⟨_, _, GK, blk, ⟨fun s us ws _ hu hw => match us, ws, hu, hw with | [], [_, _, _], _, _ => .of_eq rfl, fun _ q => vals_rev q⟩, mlk, kglk⟩
    ll := ⟨_, _, ok_lookL Flv (fr (by decide)) hPc, blv, mlv, kglv⟩
    ln := ⟨_, _, ok_line Fln hDp hPs (fr (by decide)), bln, mln, kgln⟩
    dip := hDp
    odd := ⟨_, _, ok_odd Flo (ok_dip Fld (fr (by decide))) bld mld kgld (fr (by decide)), blo, mlo, kglo⟩
    pkL := hPl
    E1 := E1
    E2 := E2
    E3 := E3
    hC := ⟨_, _, Flc, blc, mlc⟩
    hF := ⟨_, _, Fli, bli, mli⟩
    gc := fun j hj => match j, hj with
      | 0, _ => mcC0
      | 1, _ => mcC1
      | 2, _ => mcC2
      | 3, _ => mcC3
      | 4, _ => mcC4
      | 5, _ => mcC5
      | 6, _ => mcC6
      | 7, _ => mcC7
      | 8, _ => mcC8
      | 9, _ => mcC9
      | 10, _ => mcC10
      | n + 11, h => absurd h (by omega)
    g1 := mcB0
    g2 := mcB1
    g3 := mcB2
    hIs := fr (by decide)
    hL := fr (by decide)
    hVE := fr (by decide)
    hLE := fr (by decide)
    hAE := fr (by decide)
    hSt := fr (by decide)
    hI := fr (by decide)
    hB := fr (by decide)
    hRe := fr (by decide)
    hRa := fr (by decide)
    er := ⟨glr, oclr, odlr, kVlr, dclr, pmlr, anlr, cdlr, ctlr, sllr, mlr, kglr, lglr, cglr, blr⟩ }
  have GR := ok_right (T := tabsOf [(cR, PR), (cW, PTW)]) lglg cglg TBR (List.mem_cons_self ..) uR R
  have GW := ok_well (P := l.prog) (w := w) (mg := mg) (base := base) Flw (fr (by decide)) (fr (by decide)) (fr (by decide))
  exact ok_law (T := tabsOf [(cR, PR), (cW, PTW)]) lgll cgll TBW (List.mem_cons_of_mem _ (List.mem_cons_self ..)) uW R (fr (by decide)) (fr (by decide)) (fr (by decide)) GW blw mlw kglw GR blg mlg kglg
end
end My
open PySem PySem.W PyProof.Rows
set_option maxRecDepth 100000 in
set_option maxHeartbeats 0 in
theorem PySem.Challenge.cw_shortlooks_k14_looks_holds : PySem.Challenge.rw_shortlooks_k14_looks.Holds := by
  w_on; o_law; k_head; (case hw => w_witness2)
  k_fill
  refine' L2.walk_GT (l := PySem.Challenge.rw_shortlooks_k14_looks) (n := 63) (k := 8) (x := "_law_script") (ts := [(_, _), (_, _)]) (sp := fun K ts => My.spLaw K (My.tabsOf ts)) rfl (by decide) rfl ⟨rfl, by decide, by decide⟩ (fun w h Y => PySem.W.km_in_of Y) ?Y ?F (fun _ _ a ns hl hT hS => ⟨a, ns, rfl, hS, hl, My.tabs_start hT, fun _ => rfl⟩)
  case F =>
    intro w mg fa h KX G hmg
    refine' My.all_mk KX G hmg ?acC0 ?acC1 ?acC2 ?acC3 ?acC4 ?acC5 ?acC6 ?acC7 ?acC8 ?acC9 ?acC10 ?acB0 ?acB1 ?acB2 ?amva ?aiva ?lgva ?cgva ?kgva ?tva ?amvb ?aivb ?lgvb ?cgvb ?kgvb ?tvb ?amvc ?aivc ?lgvc ?cgvc ?kgvc ?tvc ?atK ?ltK ?agck ?lgck ?cgck ?kgck ?ldck ?agib ?lgib ?cgib ?kgib ?agol ?lgol ?cgol ?kgol ?agro ?lgro ?cgro ?kgro ?agik ?lgik ?cgik ?kgik ?agis ?lgis ?cgis ?kgis ?agcm ?lgcm ?cgcm ?kgcm ?agl1 ?lgl1 ?cgl1 ?kgl1 ?agl2 ?lgl2 ?cgl2 ?kgl2 ?agl3 ?lgl3 ?cgl3 ?kgl3 ?aglk ?lglk ?cglk ?kglk ?aglw ?lglw ?cglw ?kglw ?agld ?lgld ?cgld ?kgld ?aglp ?lglp ?cglp ?kglp ?agln ?lgln ?cgln ?kgln ?aglo ?lglo ?cglo ?kglo ?aglr ?lglr ?cglr ?kglr ?aglc ?lglc ?cglc ?kglc ?agli ?lgli ?cgli ?kgli ?aglq ?lglq ?cglq ?kglq ?aglv ?lglv ?cglv ?kglv ?aglg ?lglg ?cglg ?kglg ?agll ?lgll ?cgll ?kgll ?av2 ?av3 ?av4 ?lcR ?p11 ?lcW ?q11 ?npp ?hch1 ?hch2 ?hch3 ?hcf
    (case acC0 => k_is)
    (case acC1 => k_is)
    (case acC2 => k_is)
    (case acC3 => k_is)
    (case acC4 => k_is)
    (case acC5 => k_is)
    (case acC6 => k_is)
    (case acC7 => k_is)
    (case acC8 => k_is)
    (case acC9 => k_is)
    (case acC10 => k_is)
    (case acB0 => k_is)
    (case acB1 => k_is)
    (case acB2 => k_is)
    (case amva => k_is)
    (case aiva => k_is)
    (case lgva => k_is)
    (case cgva => k_is)
    (case kgva => k_is)
    (case tva => k_is)
    (case amvb => k_is)
    (case aivb => k_is)
    (case lgvb => k_is)
    (case cgvb => k_is)
    (case kgvb => k_is)
    (case tvb => k_is)
    (case amvc => k_is)
    (case aivc => k_is)
    (case lgvc => k_is)
    (case cgvc => k_is)
    (case kgvc => k_is)
    (case tvc => k_is)
    (case atK => k_is)
    (case ltK => k_is)
    (case agck => k_is)
    (case lgck => k_is)
    (case cgck => k_is)
    (case kgck => k_is)
    (case ldck => k_is)
    (case agib => k_is)
    (case lgib => k_is)
    (case cgib => k_is)
    (case kgib => k_is)
    (case agol => k_is)
    (case lgol => k_is)
    (case cgol => k_is)
    (case kgol => k_is)
    (case agro => k_is)
    (case lgro => k_is)
    (case cgro => k_is)
    (case kgro => k_is)
    (case agik => k_is)
    (case lgik => k_is)
    (case cgik => k_is)
    (case kgik => k_is)
    (case agis => k_is)
    (case lgis => k_is)
    (case cgis => k_is)
    (case kgis => k_is)
    (case agcm => k_is)
    (case lgcm => k_is)
    (case cgcm => k_is)
    (case kgcm => k_is)
    (case agl1 => k_is)
    (case lgl1 => k_is)
    (case cgl1 => k_is)
    (case kgl1 => k_is)
    (case agl2 => k_is)
    (case lgl2 => k_is)
    (case cgl2 => k_is)
    (case kgl2 => k_is)
    (case agl3 => k_is)
    (case lgl3 => k_is)
    (case cgl3 => k_is)
    (case kgl3 => k_is)
    (case aglk => k_is)
    (case lglk => k_is)
    (case cglk => k_is)
    (case kglk => k_is)
    (case aglw => k_is)
    (case lglw => k_is)
    (case cglw => k_is)
    (case kglw => k_is)
    (case agld => k_is)
    (case lgld => k_is)
    (case cgld => k_is)
    (case kgld => k_is)
    (case aglp => k_is)
    (case lglp => k_is)
    (case cglp => k_is)
    (case kglp => k_is)
    (case agln => k_is)
    (case lgln => k_is)
    (case cgln => k_is)
    (case kgln => k_is)
    (case aglo => k_is)
    (case lglo => k_is)
    (case cglo => k_is)
    (case kglo => k_is)
    (case aglr => k_is)
    (case lglr => k_is)
    (case cglr => k_is)
    (case kglr => k_is)
    (case aglc => k_is)
    (case lglc => k_is)
    (case cglc => k_is)
    (case kglc => k_is)
    (case agli => k_is)
    (case lgli => k_is)
    (case cgli => k_is)
    (case kgli => k_is)
    (case aglq => k_is)
    (case lglq => k_is)
    (case cglq => k_is)
    (case kglq => k_is)
    (case aglv => k_is)
    (case lglv => k_is)
    (case cglv => k_is)
    (case kglv => k_is)
    (case aglg => k_is)
    (case lglg => k_is)
    (case cglg => k_is)
    (case kglg => k_is)
    (case agll => k_is)
    (case lgll => k_is)
    (case cgll => k_is)
    (case kgll => k_is)
    (case av2 => k_is)
    (case av3 => k_is)
    (case av4 => k_is)
    (case lcR => k_is)
    (case p11 => exact rfl)
    (case lcW => k_is)
    (case q11 => exact rfl)
    (case npp => exact rfl)
    (case hch1 => kernel_rfl)
    (case hch2 => kernel_rfl)
    (case hch3 => kernel_rfl)
    (case hcf => kernel_rfl)
  case Y =>
    intro w h Y q hq
    simp only [List.mem_cons, List.not_mem_nil, or_false] at hq
    rcases hq with rfl | rfl
    · exact ⟨PySem.W.km_tabs_of Y _ (by repeat first | exact List.Mem.head _ | apply List.Mem.tail), by kernel_rfl, PySem.W.codeHd_of_K (PySem.W.km_in_of Y) (by kernel_rfl)⟩
    · exact ⟨PySem.W.km_tabs_of Y _ (by repeat first | exact List.Mem.head _ | apply List.Mem.tail), by kernel_rfl, PySem.W.codeHd_of_K (PySem.W.km_in_of Y) (by kernel_rfl)⟩
