import PyProof.Rows.All
import Wide.All
import OpenK.AllK
import Wide.FinOn
import PyProof.EqAt
import PyProof.EqKinds
import PyProof.TupleCall
import KE.KFromBytes
import HandS.ForMost
import HandS.Exc
import HandS.ExcInit
import HandS.ExcIs
import HandS.IsInst
import HandS.ExcOwn
import HandS.ExcValue
import HandS.Defaults
import HandS.Set
import HandS.Strs
import PyProof.Rows.SetFrom
import PyProof.StrWalks
import PyProof.Rows.SortStr
import PyProof.Rows.SortShellAny
import PyProof.SetRoads
import HandS.DictComp
import HandS.Walk
import HandS.NoneIn
import HandS.Flow
import HandS.FStr
import HandS.Star
import HandS.Property
import PyProof.StrLawsTight
import HandS.HotCalls
import KE.KUnpack
import KE.KTryMore
import HandS.Lambda
import HandS.EndTab
import PyProof.StrLawsRepr
import HandS.SetBool
import KE.KUnpackStar
import HandS.TupAny
import PyProof.StrBlock2
import HandS.ReplaceLit
import HandS.MakeKw
import PyProof.ReprLen
import PySem.Challenge.RW_shortlooks_k03_texts_refused
set_option Elab.async false
set_option linter.all false
set_option maxRecDepth 100000
set_option maxHeartbeats 8000000
namespace PySem
namespace GX
open PySem.W PySem.Calls PyProof.Rows PySem.HandSPX
open Builtin Builtin.ObjectAttr

section
variable {M : Model} {Ar : Around} {Er : Value → Shared → Prop} {hh : Heap} {gg : Array GenState} {dd : Drawn} {tt : Nat} {oo : OsState}
variable {n1 n2 : Str} {C N : Addr} {b1 b2 b3 : List Value} {hx : Bool} {l1 : List Str} {l2 : List Value} {ab : Bool} {cl : Option Bool} {da : Option Addr} {m0 m1 m2 m3 m5 : Option Value} {B nid iid : String}

theorem chkNew (F : ExcBaseFacts B nid iid b3) (hT : ∀ Y : String, b2.contains (.type Y) = b3.contains (.type Y)) {rs : List Value} {kw : List (Str × Value)} {Q : Unit → Shared → Prop}
    (hC : hh.get? C = some (excClassObj n1 n2 C N b1 b2 hx l1 l2 ab cl da m0 m1 m2 m3 m5 nid))
    (hq : Q () ⟨hh, gg, dd, tt, oo⟩) :
    wpAny M Ar (checkBuiltinCall nid ⟨.ref C :: rs, kw⟩) Q Er ⟨hh, gg, dd, tt, oo⟩ := by
  have c1 : (Value.ref C :: b2).contains (.type B) = true := by
    rw [List.contains_cons, hT, F.hasB, Bool.or_true]
  have c2 := F.noStar
  simp only [checkBuiltinCall, F.newKind, F.newSplit, F.newRow]
  repeat (first
    | refine wpAny_loadPart_at hC ?_
    | (refine wpAny_isSubtype_exc hC ?_; rw [c1])
    | refine wpAny_staticBase_exc hC ?_
    | refine wpAny_madeBy_exc hC ?_
    | simp only [bne_self_eq_false, Bool.false_eq_true, if_false]
    | wp_step)
  exact hq
end
section
variable {pr : Program} {wd : World} {Ar : Around} {Er : Value → Shared → Prop} {Rr : Result → Shared → Prop} {hh : Heap} {gg : Array GenState} {dd : Drawn} {tt : Nat} {oo : OsState}
variable {n1 n2 : Str} {C N : Addr} {b1 b2 b3 : List Value} {hx : Bool} {l1 : List Str} {l2 : List Value} {ab : Bool} {cl : Option Bool} {da : Option Addr} {m0 m1 m2 m3 m5 : Option Value} {B nid iid : String}

theorem newK (F : ExcBaseFacts B nid iid b3) (hT : ∀ Y : String, b2.contains (.type Y) = b3.contains (.type Y)) {rs : List Value} {kw : List (Str × Value)}
    (hC : hh.get? C = some (excClassObj n1 n2 C N b1 b2 hx l1 l2 ab cl da m0 m1 m2 m3 m5 nid))
    (hq : Rr (.ok (.ret (.ref (hh.objs.size + 1)))) ⟨(hh.push (W.kdv_tup rs)).push (excO C hh.objs.size), gg, dd, tt, oo⟩)
    (hrs : rs.length ≤ sizeLine) :
    codeAny (model pr wd) Ar (.builtin nid ⟨.ref C :: rs, kw⟩) Rr ⟨hh, gg, dd, tt, oo⟩ := by
  have c0 := F.ends
  have cB : (Value.ref C :: b2).contains (.type B) = true := by
    rw [List.contains_cons, hT, F.hasB, Bool.or_true]
  have cA : (Value.ref C :: b2).contains (.type "AttributeError") = false := by
    rw [List.contains_cons, hT, F.noAttr]; rfl
  have cN : (Value.ref C :: b2).contains (.type "NameError") = false := by
    rw [List.contains_cons, hT, F.noName]; rfl
  refine codeAny_builtinAt F.entry ?_
  unfold Builtin.«BaseException.__new__»
  refine wpAt_bind ?_
  show wpAt _ _ _ (stack >>= _) _ _ _
  refine wpAt_bind (wpAt_stack fun p below => wpAt_of_wpAny ?_)
  wp_walk
  refine wpAt_of_wpAny ?_
  rw [F.owner]
  repeat (first
    | with_reducible refine wpAny_madeHere_exc F.canon hC ?_
    | with_reducible refine wpAny_loadPart_at hC ?_
    | (with_reducible refine wpAny_isSubtype_exc hC ?_; first | rw [cB] | rw [cA] | rw [cN])
    | wp_step)
  show Rr _ _
  rw [Heap.size_push]
  exact hq
end
end GX
end PySem
namespace PySem
namespace GX
open PySem.W PySem.Calls PyProof.Rows PySem.HandSPX
open Builtin Builtin.ObjectAttr
section
variable {M : Model} {Ar : Around} {Er : Value → Shared → Prop} {hh : Heap} {gg : Array GenState} {dd : Drawn} {tt : Nat} {oo : OsState}
variable {n1 n2 : Str} {C N : Addr} {b1 b2 b3 : List Value} {hx : Bool} {l1 : List Str} {l2 : List Value} {ab : Bool} {cl : Option Bool} {da : Option Addr} {m0 m1 m2 m3 m5 : Option Value} {B nid iid : String}
theorem chkCall {rs : List Value} {kw : List (Str × Value)} {Q : Unit → Shared → Prop}
    (hC : hh.get? C = some (excClassObj n1 n2 C N b1 b2 hx l1 l2 ab cl da m0 m1 m2 m3 m5 nid))
    (hq : Q () ⟨hh, gg, dd, tt, oo⟩) :
    wpAny M Ar (checkBuiltinCall "type.__call__" ⟨.ref C :: rs, kw⟩) Q Er ⟨hh, gg, dd, tt, oo⟩ := by
  have z3 := tc_sub
  have zT : (⟨hh, gg, dd, tt, oo⟩ : Shared).TypeIs (.ref C) "type" := ⟨_, hC, rfl⟩
  simp only [checkBuiltinCall, tc_kind, tc_split]
  repeat (any_goals (first
    | assumption
    | with_reducible refine wpAny_loadPart_at hC ?_
    | with_reducible refine wpAny_onRaise ?_
    | with_reducible refine wpAny_map ?_
    | wp_step))
end
section
variable {pr : Program} {wd : World} {Ar : Around} {Er : Value → Shared → Prop} {Rr : Result → Shared → Prop} {hh : Heap} {gg : Array GenState} {dd : Drawn} {tt : Nat} {oo : OsState}
variable {n1 n2 : Str} {C N : Addr} {b1 b2 b3 : List Value} {hx : Bool} {l1 : List Str} {l2 : List Value} {ab : Bool} {cl : Option Bool} {da : Option Addr} {m0 m1 m2 m3 m5 : Option Value} {B nid iid : String}

theorem typeK (F : ExcBaseFacts B nid iid b3) (hT : ∀ Y : String, b2.contains (.type Y) = b3.contains (.type Y)) {rs : List Value} {kw : List (Str × Value)} {fI : Addr} {Q : Fin → Shared → Prop}
    (hC : hh.get? C = some (excClassObj n1 n2 C N b1 b2 hx l1 l2 ab cl da m0 m1 m2 m3 m5 nid))
    (hi : W.Looks (model pr wd) hh (typeLookup (.ref C) "__init__") (some (.ref fI)))
    (hb : ∀ self, W.Looks (model pr wd) hh (bindSpecial (.ref fI) self) (.ref fI, [self]))
    (hrs : rs.length ≤ sizeLine)
    (hq : codeAny (model pr wd) Ar (.call (.ref fI) ⟨.ref (hh.objs.size + 1) :: rs, kw⟩)
      (fun r s' => match r with
        | .ok (.ret v) => v = .none ∧ Q (.done (.ret (.ref (hh.objs.size + 1)))) s'
        | .ok _ => False
        | .error e => Er e s')
      ⟨(hh.push (W.kdv_tup rs)).push (excO C hh.objs.size), gg, dd, tt, oo⟩) :
    wpAny (model pr wd) Ar (Builtin.«type.__call__» ⟨.ref C :: rs, kw⟩) Q Er ⟨hh, gg, dd, tt, oo⟩ := by
  repeat (first
    | with_reducible refine wpAny_loadPart_at hC ?_
    | with_reducible refine wpAny_madeBy_exc hC ?_
    | wp_step)
  refine codeAny_call_builtin_code (Code.quiet_builtin _ F.quiet) (chkNew F hT hC ?_)
  refine newK F hT hC ?_ hrs
  show wpAny _ _ _ _ _ _
  have kk : ∀ b o, hh.get? b = some o → ((hh.push (W.kdv_tup rs)).push (excO C hh.objs.size)).get? b = some o :=
    fun b o e => Heap.get?_push_of_some _ (Heap.get?_push_of_some _ e)
  have hC1 := kk _ _ hC
  have hgt : ((hh.push (W.kdv_tup rs)).push (excO C hh.objs.size)).get? (hh.objs.size + 1) = some (excO C hh.objs.size) := by
    heap_get
  have cC : (Value.ref C :: b2).contains (.ref C) = true := by simp
  have j1 := hi.keeps kk
  have j2 := (hb (.ref (hh.objs.size + 1))).keeps kk
  unfold isInstance
  repeat (first
    | with_reducible refine wpAny_loadPart_at hgt ?_
    | (with_reducible refine wpAny_isSubtype_exc hC1 ?_; rw [cC])
    | wp_step)
  show wpAny _ _ (typeLookup (.ref C) _) _ _ _
  refine j1.at ?_
  refine wpAny_holding (wpAny_bind (j2.at ?_))
  refine wpAny_bind (wpAny_call (codeAny_mono hq fun r s' z => ?_))
  rcases r with e | (v | _ | _ | _) <;> first | exact z | exact z.elim | skip
  obtain ⟨rfl, z⟩ := z
  first
    | exact wpAny_pure (wpAny_pure z)
    | (wp_walk; exact z)

theorem callK (F : ExcBaseFacts B nid iid b3) (hT : ∀ Y : String, b2.contains (.type Y) = b3.contains (.type Y)) {rs : List Value} {kw : List (Str × Value)} {fI : Addr}
    (hC : hh.get? C = some (excClassObj n1 n2 C N b1 b2 hx l1 l2 ab cl da m0 m1 m2 m3 m5 nid))
    (hi : W.Looks (model pr wd) hh (typeLookup (.ref C) "__init__") (some (.ref fI)))
    (hb : ∀ self, W.Looks (model pr wd) hh (bindSpecial (.ref fI) self) (.ref fI, [self]))
    (hrs : rs.length ≤ sizeLine)
    (hq : codeAny (model pr wd) (Ar.under (.builtin "type.__call__" ⟨.ref C :: rs, kw⟩)) (.call (.ref fI) ⟨.ref (hh.objs.size + 1) :: rs, kw⟩) (W.InitBack (hh.objs.size + 1) Rr)
      ⟨(hh.push (W.kdv_tup rs)).push (excO C hh.objs.size), gg, dd, tt, oo⟩) :
    codeAny (model pr wd) Ar (.call (.ref C) ⟨rs, kw⟩) Rr ⟨hh, gg, dd, tt, oo⟩ := by
  have z1 := tc_lookup
  have z2 := tc_bind (.ref C)
  have zT : (⟨hh, gg, dd, tt, oo⟩ : Shared).TypeIs (.ref C) "type" := ⟨_, hC, rfl⟩
  refine codeAny_of_tree ?_
  show wpAny _ _ (callAny (.ref C) _) _ _ _
  repeat (any_goals (first
    | assumption
    | with_reducible refine wpAny_loadPart_at hC ?_
    | wp_step))
  refine ⟨rfl, ?_⟩
  refine codeAny_call_builtin_at (Code.quiet_builtin _ (by decide +kernel)) entry_typeCall (chkCall hC (typeK F hT hC hi hb hrs ?_))
  refine codeAny_mono hq fun r s' z => ?_
  rcases r with e | (v | _ | _ | _) <;> exact z
end
end GX
end PySem
namespace PySem
namespace GX
open PySem.W PySem.Calls PyProof.Rows PySem.HandSPX
open Builtin Builtin.ObjectAttr
/-- what an own class's mro must say for a store to an instance -/
structure MroOk (l : List Value) : Prop where
  pass : ∀ self, refuseLoop self "__setattr__" l = pure ()
  ob : l.contains (.type "object") = true
  ne : l.isEmpty = false
section
variable {pr : Program} {wd : World} {Ar : Around} {Er : Value → Shared → Prop} {Rr : Result → Shared → Prop} {hh : Heap} {gg : Array GenState} {dd : Drawn} {tt : Nat} {oo : OsState}
theorem osaN {K : W.Frag} {nm : Str} {tk : Tok} {v : Value} {x C : Addr} {fv : Array Value} {cd : ClassData}
    (X : K.In hh) (hx : hh.get? x = some { cls := .ref C, data := .fields fv }) (hcd : W.clsIn K C = some cd) (hm : MroOk cd.mro) (hd : cd.hasDict = true)
    (ha : W.findIn K (.ref C) nm = some none)
    (hq : ∀ h' tk' dx, (∀ b o, b ≠ x → hh.get? b = some o → h'.get? b = some o) → hh.objs.size ≤ dx → dx ≠ x →
      h'.get? x = some { cls := .ref C, dict := some dx, data := .fields fv } →
      h'.Ns1 dx (fun y => if y = nm then some v else none) → Rr (.ok (.ret .none)) ⟨h', gg, dd, tk', oo⟩) :
    codeAny (model pr wd) Ar (.call (.builtin "object.__setattr__") ⟨[.ref x, .str nm tk, v], []⟩) Rr ⟨hh, gg, dd, tt, oo⟩ := by
  have I : W.InstAt hh x { cls := .ref C, data := .fields fv } C none := ⟨hx, rfl, rfl, trivial⟩
  have SF := F.store_object
  have hne := hm.ne
  have hxs : x ≠ hh.objs.size := Nat.ne_of_lt (Heap.lt_size hx)
  have sub : W.Looks (model pr wd) hh (isInstance (.ref x) (.type "object")) true :=
    I.type.andThen (W.looks_mroIn X (by unfold W.mroIn; rw [hcd, Option.bind_some, if_neg (by rw [hne]; decide), hm.ob]))
  refine codeAny_call_builtin SF.slot.plain SF.entry (@W.check_slot (model pr wd) _ _ ⟨hh, gg, dd, tt, oo⟩ "object.__setattr__" "object" "__setattr__" (.ref x)
    [.str nm tk, v] [] _ SF.kind SF.split sub (SF.args (.ref x) (.str nm tk) v) ?_)
  have lm : W.Looks (model pr wd) hh (mroOf (.ref C)) cd.mro := (W.looks_clsIn X hcd).andThen .now
  have lt : W.Looks (model pr wd) hh (storeTaker? none) none := .now
  have lc : W.Looks (model pr wd) hh (classData C) cd := W.looks_clsIn X hcd
  rw [W.osa_eq, refuse_eq]
  refine wpAny_bind (wpAny_bind (I.type.at (wpAny_bind (lm.at ?_))))
  rw [hm.pass]
  refine wpAny_pure (wpAny_bind (I.type.at (wpAny_bind ((W.looks_findIn X ha).at (wpAny_bind (lt.at ?_))))))
  show wpAny _ _ (storeInOwnDict (.ref x) (.ref C) (.str nm tk) nm v false) _ _ _
  obtain ⟨c1, c2, c3, c4, c5, c6, c7, c8, c9, c10, c11⟩ := cd
  dsimp only at hd
  subst hd
  unfold storeInOwnDict ownDictForStores
  repeat (first
    | with_reducible refine store_in_new ?_ ?_
    | with_reducible refine wpAny_loadPart_at hx ?_
    | with_reducible refine lc.at ?_
    | wp_step)
  · exact ⟨_, #[], _, (Heap.get?_update_ne _ _ _ _ hxs.symm).trans (Heap.get?_push_at rfl rfl), rfl, fun e he => absurd he (by simp), fun _ => rfl⟩
  · intro h' tk' hn' hs
    have hx1 : (hh.push { cls := .type "dict", data := .dict #[] }).get? x = some { cls := .ref C, data := .fields fv } :=
      Heap.get?_push_of_some _ hx
    refine hq h' tk' hh.objs.size (fun b o hb ho => ?_) (Nat.le_refl _) hxs.symm ?_ hn'
    · exact (hs.2 b (Nat.ne_of_lt (Heap.lt_size ho))).trans ((Heap.get?_update_ne _ _ _ _ hb).trans (Heap.get?_push_of_some _ ho))
    · exact (hs.2 x hxs).trans (Heap.get?_update_self _ hx1 rfl)
theorem osaO {K : W.Frag} {nm : Str} {tk : Tok} {v : Value} {x C dx : Addr} {fv : Array Value} {cd : ClassData} {m0 : Str → Option Value} {nl : List Str}
    (X : K.In hh) (hx : hh.get? x = some { cls := .ref C, dict := some dx, data := .fields fv }) (hns : hh.Ns1 dx m0) (hw : Within m0 nl) (hz : nl.length ≤ 1000)
    (hcd : W.clsIn K C = some cd) (hm : MroOk cd.mro) (hd : cd.hasDict = true) (ha : W.findIn K (.ref C) nm = some none)
    (hq : ∀ h' tk', (∀ b o, b ≠ dx → hh.get? b = some o → h'.get? b = some o) →
      h'.Ns1 dx (fun y => if y = nm then some v else m0 y) → Rr (.ok (.ret .none)) ⟨h', gg, dd, tk', oo⟩) :
    codeAny (model pr wd) Ar (.call (.builtin "object.__setattr__") ⟨[.ref x, .str nm tk, v], []⟩) Rr ⟨hh, gg, dd, tt, oo⟩ := by
  obtain ⟨oD, esD, epD, hoD, hdD, _⟩ := hns.count hw
  have I : W.InstAt hh x { cls := .ref C, dict := some dx, data := .fields fv } C (some oD) := ⟨hx, rfl, rfl, hoD⟩
  have SF := F.store_object
  have hne := hm.ne
  have sub : W.Looks (model pr wd) hh (isInstance (.ref x) (.type "object")) true :=
    I.type.andThen (W.looks_mroIn X (by unfold W.mroIn; rw [hcd, Option.bind_some, if_neg (by rw [hne]; decide), hm.ob]))
  refine codeAny_call_builtin SF.slot.plain SF.entry (@W.check_slot (model pr wd) _ _ ⟨hh, gg, dd, tt, oo⟩ "object.__setattr__" "object" "__setattr__" (.ref x)
    [.str nm tk, v] [] _ SF.kind SF.split sub (SF.args (.ref x) (.str nm tk) v) ?_)
  have lm : W.Looks (model pr wd) hh (mroOf (.ref C)) cd.mro := (W.looks_clsIn X hcd).andThen .now
  have lt : W.Looks (model pr wd) hh (storeTaker? none) none := .now
  have lc : W.Looks (model pr wd) hh (classData C) cd := W.looks_clsIn X hcd
  rw [W.osa_eq, refuse_eq]
  refine wpAny_bind (wpAny_bind (I.type.at (wpAny_bind (lm.at ?_))))
  rw [hm.pass]
  refine wpAny_pure (wpAny_bind (I.type.at (wpAny_bind ((W.looks_findIn X ha).at (wpAny_bind (lt.at ?_))))))
  show wpAny _ _ (storeInOwnDict (.ref x) (.ref C) (.str nm tk) nm v false) _ _ _
  obtain ⟨c1, c2, c3, c4, c5, c6, c7, c8, c9, c10, c11⟩ := cd
  dsimp only at hd
  subst hd
  unfold storeInOwnDict ownDictForStores
  repeat (first
    | with_reducible refine PySem.OEX.store_in_old hns hw hz ?_
    | with_reducible refine wpAny_loadPart_at hx ?_
    | with_reducible refine lc.at ?_
    | wp_step)
  intro h' tk' hn' hs
  exact hq h' tk' (fun b o hb ho => (hs.2 b hb).trans ho) hn'
end
/-! the three built-in bases -/
abbrev tailOf (B : String) : List Value := [.type B, .type "Exception", .type "BaseException", .type "object"]
theorem pass_VE : ∀ self, refuseLoop self "__setattr__" (tailOf "ValueError") = pure () := fun self => by kernel_rfl
theorem pass_LE : ∀ self, refuseLoop self "__setattr__" (tailOf "LookupError") = pure () := fun self => by kernel_rfl
theorem pass_AE : ∀ self, refuseLoop self "__setattr__" (tailOf "ArithmeticError") = pure () := fun self => by kernel_rfl
theorem mroOk2 {B : String} {a b : Addr} (hp : ∀ self, refuseLoop self "__setattr__" (tailOf B) = pure ()) : MroOk (.ref a :: .ref b :: tailOf B) :=
  ⟨fun self => by rw [refuseLoop_ref, refuseLoop_ref]; exact hp self, by simp [List.contains_cons], rfl⟩
end GX
end PySem
namespace PySem
namespace GX
open PySem.W PySem.Calls PyProof.Rows PySem.HandSPX
section
variable {pr : Program} {wd : World} {Ar : Around} {Er : Value → Shared → Prop} {s : Shared} {K : Frag} {x D : Addr} {ox : Obj} {od : Option Obj}
theorem classG {Q : Option Value → Shared → Prop} (T : L2.ExcC K D) (X : K.In s.heap) (I : InstAt s.heap x ox D od) (h : Q (some (.ref D)) { s with toks := s.toks + 1 }) :
    wpAny (model pr wd) Ar (getAttr? (.ref x) "__class__") Q Er s := by
  have cs : (clsIn K D).isSome = true := by
    obtain ⟨cd, hc, _⟩ := any_some T.hd
    rw [hc]; rfl
  have hf : findObj K D od "__class__" = some (.bind (.builtin "getset_descriptor.__get__") (.builtin "object.__class__")) := by
    cases od with
    | none => exact findObj_dataN cs T.ha T.hn T.ht
    | some o => exact findObj_data cs T.ha T.hn T.ht
  obtain ⟨hp, g, d, t, os⟩ := s
  have y0 := I.type (M := model pr wd)
  have y1 := looks_findIn (M := model pr wd) X T.hg
  have y2 := looks_findIn (M := model pr wd) X T.hk
  have y3 := looks_find (M := model pr wd) X I hf
  have sub : Looks (model pr wd) hp (isInstance (.ref x) (.type "BaseException")) true := y0.andThen (looks_subIn X T.hs)
  have e0 : (false && onTheHeap (Value.builtin "BaseException.__getattribute__")) = false := rfl
  have e2 : (Value.builtin "BaseException.__getattribute__" == Value.builtin "object.__getattribute__") = false := by
    decide +kernel
  have e1 : (onTheHeap (Value.ref D) && Value.builtin "BaseException.__getattribute__" == Value.builtin "object.__getattribute__") = false := by
    rw [e2]; rfl
  unfold getAttr? getAttrBy? getAttrBy
  refine wpAny_bind (wpAny_mkText (wpAny_bind (wpAny_attempt (wpAny_holding (wpAny_bind (y0.at (wpAny_bind (y1.at ?_))))))))
  show wpAny _ _ (if (onTheHeap (Value.ref D) && Value.builtin "BaseException.__getattribute__" == Value.builtin "object.__getattribute__") = true then _ else _) _ _ _
  rw [e1, if_neg Bool.false_ne_true]
  unfold getAttrByItsOwn hookBefore
  refine wpAny_bind ?_
  rw [if_pos (show onTheHeap (Value.ref D) = true from rfl)]
  refine y2.at ?_
  refine wpAny_bind (wpAny_attempt (wpAny_holding ?_))
  unfold callGetattribute
  rw [e0, if_neg Bool.false_ne_true]
  unfold boundAndCalled
  rw [PySem.F.excAttr_ValueError.ga.bind (.ref x)]
  refine wpAny_bind (wpAny_pure ?_)
  show wpAny _ _ (call (.builtin "BaseException.__getattribute__") [.ref x, .str "__class__" t]) _ _ _
  refine wpAny_call (codeAny_call_builtin PySem.F.excAttr_ValueError.ga.plain PySem.F.entry_bexc_ga ?_)
  refine @check_slot (model pr wd) _ _ ⟨hp, g, d, t + 1, os⟩ "BaseException.__getattribute__" "BaseException" "__getattribute__" (.ref x)
    [.str "__class__" t] [] _ (by decide +kernel) (by decide +kernel) sub (PySem.F.args_bexc_ga (.ref x) (.str "__class__" t)) ?_
  unfold Builtin.«object.__getattribute__»
  refine wpAny_bind (wpAny_of_eq (a := ((Value.ref x : Value), [Value.str "__class__" t])) (by first | rfl | (simp only [slotArgs]; rfl)) ?_)
  refine wpAny_bind (wpAny_pure (wpAny_bind (y0.at (wpAny_bind (y3.at ?_)))))
  show wpAny _ _ (holding [Value.builtin "object.__class__"] (call (.builtin "getset_descriptor.__get__") [.builtin "object.__class__", .ref x, .ref D]) >>= ret) _ _ _
  refine wpAny_bind (wpAny_holding (wpAny_call (class_get (s := ⟨hp, g, d, t + 1, os⟩) (ox := ox) (od := od) X I T.hm ?_)))
  refine wpAny_pure ?_
  show wpAny _ _ (handedOut (.ref D)) _ _ _
  rw [handedOut_of (v := .ref D) rfl]
  first
    | exact wpAny_pure (wpAny_pure h)
    | exact wpAny_pure h
    | exact wpAny_pure (wpAny_bind (wpAny_pure (wpAny_pure h)))
theorem kitG (T : L2.ExcC K D) : KitX K (.ref x) (.ref D) (fun h => InstAt h x ox D od) where
  ty := fun _ _ _ I => I.type
  it := fun _ _ X _ => by
    obtain ⟨cdD, hcD, _⟩ := any_some T.hd
    unfold clsIn at hcD
    split at hcD
    · rename_i c' d' cd' sl' ho
      intro A' Q' E' s' k q
      unfold isType loadHead
      exact wpAny_bind (wpAny_loadPart (k _ _ (X _ _ ho)) (wpAny_pure q))
    · cases hcD
  ne := fun h tp dd its n sl X htp => by
    obtain ⟨cdD, hcD, _⟩ := any_some T.hd
    refine Bool.eq_false_iff.mpr fun q => ?_
    have e : D = tp := Value.ref.inj (beq_iff_eq.mp q)
    subst e
    unfold clsIn at hcD
    split at hcD
    · rename_i c' d' cd' sl' ho
      have z := (X _ _ ho).symm.trans htp
      cases z
    · cases hcD
  ca := fun X I k => classG T X I k
end
end GX
end PySem
namespace L2
open PySem PySem.Spec PyProof.Rows PySem.GX
/-- what the written part says of an own exception class at C over a built-in base -/
structure ExG (K : PySem.W.Frag) (C : Addr) : Prop extends ExcC K C where
  cls : ∃ (B nid iid : String) (b3 : List Value) (nm q : Str) (N : Addr) (bs bm : List Value) (sn : List Str) (sub : List Value) (ab : Bool) (col : Option Bool) (dd : Option Addr) (k0 k1 k2 k3 k5 : Option Value),
    ExcBaseFacts B nid iid b3 ∧ (∀ Y : String, bm.contains (.type Y) = b3.contains (.type Y)) ∧ MroOk (.ref C :: bm) ∧
    K.lookup C = some (excClassObj nm q C N bs bm true sn sub ab col dd k0 k1 k2 k3 k5 nid)
  sa : PySem.W.findIn K (.ref C) "__setattr__" = some (some (.builtin "object.__setattr__"))
  kC : PySem.W.keepIn K (.ref C) = true
/-- an exception at a of the class at C with the fields fs (its dict at d) -/
structure ExAt (H : Hp) (a C d : Addr) (fs : List (Str × V)) : Prop where
  ob : H a = some (exo a C (some d))
  di : H d = some (exd d fs)
section
variable {X : Cx} {pins : List (Addr × Obj)} {σ : St} {H : Hp} {s : Shared} {a C d : Addr} {fs : List (Str × V)}
/-- as the library's looks at an instance want it -/
theorem inst_ex {od : Option Addr} (I : Inv X pins σ H s) (e : H a = some (exo a C od)) (hd : ∀ dx, od = some dx → ∃ fs, H dx = some (exd dx fs)) :
    ∃ (ox : Obj) (o : Option Obj), PySem.W.InstAt s.heap a ox C o := by
  obtain ⟨t1, ho⟩ := exo_at I.hok e
  cases od with
  | none => exact ⟨_, none, ⟨ho, rfl, rfl, trivial⟩⟩
  | some dx =>
    obtain ⟨fs, ed⟩ := hd dx rfl
    obtain ⟨mA, ⟨o, es, ep, h1, h2⟩, _⟩ := exd_at I.hok ed
    exact ⟨_, some o, ⟨ho, rfl, rfl, h1⟩⟩
end
/-- isinstance(e, c), e an exception that is a value -/
def rIsX (K : PySem.W.Frag) : List V → Hp → VK → Prop := fun xs H Q => ∃ (a D : Addr) (od : Option Addr) (c : V) (u : Value) (b : Bool), xs = [.ref a, c] ∧ ExcC K D ∧ H a = some (exo a D od) ∧
  (∀ dx, od = some dx → ∃ fs, H dx = some (exd dx fs)) ∧ ClsV c u ∧ PySem.W.kitOne K (.ref D) u = some b ∧ Q (.bl b) H
theorem call_isX {X : Cx} : CallR X (.builtin "isinstance") (rIsX X.K) := by
  intro pins s σ H xs us Q I r h
  obtain ⟨a, D, od, c, u, b, rfl, T, e, hd, k, ek, q⟩ := h
  obtain ⟨u1, u2, rfl, r1, r2⟩ := vals2 r
  have e2 := k.eq r2
  subst e2
  obtain rfl : u1 = Value.ref a := r1
  obtain ⟨ox, o, J⟩ := inst_ex I e hd
  exact PySem.W.kia_one (kitG T) I.kIn J ek (fun z => nomatch z) fun tk => ⟨.bl b, H, I.tok tk, rfl, q⟩
section
variable {X : Cx} {pins : List (Addr × Obj)} {σ : St} {H : Hp} {s : Shared} {a C dx : Addr} {f : Str} {y : V} {u : Value} {fs : List (Str × V)}
/-- e.f -/
def tXf (K : PySem.W.Frag) (f : Str) (te : TE) : TE := fun σ H Q => te σ H fun x H1 => ∃ (a C d : Addr) (fs : List (Str × V)) (v : V), x = .ref a ∧ ExcC K C ∧ ExAt H1 a C d fs ∧
  PySem.W.findIn K (.ref C) f = some none ∧ fs.lookup f = some v ∧ Q v H1
theorem pe_xf {e : Expr} {te : TE} {pos : Pos} (he : PE X e te) (hb : attributeBase e f X.env (eval e X.env) = eval e X.env := by rfl) : PE X (.Attribute e f pos) (tXf X.K f te) := by
  refine ⟨fun pins s σ H Q I h => ?_⟩
  refine attr_of hb (thn (he.run pins s σ H _ I h) fun u s1 hh => ?_)
  obtain ⟨x, H1, I1, rx, a, C, d, fs, v, ex, T, ea, no, l, q⟩ := hh
  subst ex
  obtain rfl : u = Value.ref a := rx
  obtain ⟨t1, ho⟩ := exo_at I1.hok ea.ob
  obtain ⟨mA, hns, rel⟩ := exd_at I1.hok ea.di
  obtain ⟨od, hod, hl⟩ := lookIn_ns hns
  obtain ⟨u, hu, ru⟩ := RelO.some_of (v := v) (o := mA f) (by rw [← l]; exact rel f)
  have J : PySem.W.InstAt s1.heap a _ C (some od) := ⟨ho, rfl, rfl, hod⟩
  exact HandSPX.exc_get I1.kIn J T.hg T.hk T.hs (PySem.W.findObj_own T.hd no rfl (by rw [hl, hu])) (handed_of ru) ⟨v, H1, I1.tok _, ru, q⟩
end
end L2
namespace L2
open PySem PySem.Spec PyProof.Rows PySem.GX
section
variable {X : Cx} {pins : List (Addr × Obj)} {σ : St} {H : Hp} {s : Shared} {a C dx : Addr} {f : Str} {y : V} {u : Value} {fs : List (Str × V)} {Q : Unit → Shared → Prop} {Er : Value → Shared → Prop} {Ar : Around}
/-- the first store gives the exception its dict -/
theorem ostN (T : ExG X.K C) (I : Inv X pins σ H s) (e : H a = some (exo a C none)) (hno : PySem.W.findIn X.K (.ref C) f = some none) (ry : RelV y u)
    (h : ∀ dx s', H dx = none → dx ≠ a → Inv X pins σ (upd (upd H dx (exd dx [(f, y)])) a (exo a C (some dx))) s' → Q () s') :
    wpAny (model X.prog X.w) Ar (setAttr (.ref a) f u) Q Er s := by
  obtain ⟨B, nid, iid, b3, nm, q, N, bs, bm, sn, sub, ab, col, dd, k0, k1, k2, k3, k5, FB, hT, hM, hC⟩ := T.cls
  have hcl : PySem.W.clsIn X.K C = some { name := nm, bases := bs, mro := .ref C :: bm, ns := N, qualname := q, hasDict := true, slotNames := sn, subclasses := sub, abstract := ab, collection := col, hasDel := false } := by
    unfold PySem.W.clsIn; rw [hC] <;> rfl
  obtain ⟨t1, ho⟩ := exo_at I.hok e
  obtain ⟨hp, g, d, t, os⟩ := s
  refine PySem.W.set_plain I.kIn (ox := { cls := .ref C, dict := none, data := .fields #[.ref t1, .none, .none, .none, .bool false, .none] })
    (od := none) ⟨ho, rfl, rfl, trivial⟩ T.sa ?_
  refine osaN I.kIn ho hcl hM rfl hno (fun h' tk' dx k dn dne hx hn => ?_)
  have free1 : H dx = none := I.hok.fresh dn
  have ndx : ∀ {b : Addr} {o : Obj}, hp.get? b = some o → b ≠ dx :=
    fun {b o} q => Nat.ne_of_lt (Nat.lt_of_lt_of_le (Heap.lt_size q) dn)
  have nea : ∀ {b : Addr}, H b = none → b ≠ a := fun {b} n z => by
    rw [z, e] at n; cases n
  have U1 : Un X.fs [] H (upd (upd H dx (exd dx [(f, y)])) a (exo a C (some dx))) hp h' := by
    refine ⟨fun b o q n _ _ => k b o (nea n) q, fun b o q n _ _ => ⟨o.slots, k b o (nea n) q⟩, fun b o q n _ => ?_, fun b o q _ => ?_, fun b xs q => ?_, fun b o v q => ?_, fun b ps q => ⟨#[], ?_⟩⟩
    · rw [upd_ne (nea n), upd_ne (ndx q)]; exact n
    · by_cases hb : b = a
      · exact ⟨_, by rw [hb]; exact hx⟩
      · exact ⟨o, k b o hb q⟩
    · rw [upd_ne (at_ne e q exo_tup), upd_ne (ne_of_none q free1)]; exact q
    · rw [upd_ne (at_ne e q exo_frz), upd_ne (ne_of_none q free1)]; exact q
    · rw [upd_ne (at_ne e q exo_tbl), upd_ne (ne_of_none q free1), q]; simp
  refine h dx _ free1 dne (I.un (t' := tk') U1 fun b o q => ?_)
  by_cases hb : b = a
  · subst hb
    rw [upd_same] at q; cases q
    exact exo_ok hx
  · rw [upd_ne hb] at q
    by_cases hd : b = dx
    · subst hd
      rw [upd_same] at q; cases q
      exact exd_ok hn (relO_put (fs := []) ry fun g => True.intro)
    · rw [upd_ne hd] at q
      refine (I.hok b o q).stay (fun c v hc z => k c v ?_ z) (fun c hc => ?_) (fun c xs hc => ?_)
      · rcases hc with hc | hc
        · rw [hc]; exact hb
        · exact at_ne e hc exo_own
      · rw [upd_ne (at_ne e hc exo_own), upd_ne (ne_of_none hc free1)]; exact hc
      · rw [upd_ne (at_ne e hc exo_tup), upd_ne (ne_of_none hc free1)]; exact hc
theorem ostO (T : ExG X.K C) (I : Inv X pins σ H s) (e : H a = some (exo a C (some dx))) (ed : H dx = some (exd dx fs)) (hl : fs.length ≤ 900) (hno : PySem.W.findIn X.K (.ref C) f = some none) (ry : RelV y u)
    (h : ∀ s', Inv X pins σ (upd H dx (exd dx ((f, y) :: fs))) s' → Q () s') : wpAny (model X.prog X.w) Ar (setAttr (.ref a) f u) Q Er s := by
  obtain ⟨B, nid, iid, b3, nm, q, N, bs, bm, sn, sub, ab, col, dd, k0, k1, k2, k3, k5, FB, hT, hM, hC⟩ := T.cls
  have hcl : PySem.W.clsIn X.K C = some { name := nm, bases := bs, mro := .ref C :: bm, ns := N, qualname := q, hasDict := true, slotNames := sn, subclasses := sub, abstract := ab, collection := col, hasDel := false } := by
    unfold PySem.W.clsIn; rw [hC] <;> rfl
  obtain ⟨t1, ho⟩ := exo_at I.hok e
  obtain ⟨mA, hns, rel⟩ := exd_at I.hok ed
  have hw := within_of rel
  obtain ⟨hp, g, d, t, os⟩ := s
  obtain ⟨oD, _, _, hoD, _, _⟩ := hns.count hw
  refine PySem.W.set_plain I.kIn (ox := { cls := .ref C, dict := some dx, data := .fields #[.ref t1, .none, .none, .none, .bool false, .none] })
    (od := some oD) ⟨ho, rfl, rfl, hoD⟩ T.sa ?_
  refine osaO I.kIn ho hns hw (by rw [List.length_map]; omega) hcl hM rfl hno (fun h' tk' k hn => ?_)
  have hd : ∃ o, h'.get? dx = some o := by
    obtain ⟨o, _, _, e', _⟩ := hn
    exact ⟨o, e'⟩
  exact h _ (I.write (t' := tk') (x := dx) (e := dx) (o := exd dx ((f, y) :: fs)) (by rw [ed]; exact True.intro) (.inl rfl) k hd (exd_ok hn (relO_put ry rel)))
end
/-- self.f = e in an own exception's __init__ -/
def tOsG (K : PySem.W.Frag) (f : Str) (to te : TE) : TS := fun D σ H => te σ H fun y H1 => to σ H1 fun x H2 => ∃ a C : Addr, x = .ref a ∧ ExG K C ∧ PySem.W.findIn K (.ref C) f = some none ∧
  ((H2 a = some (exo a C none) ∧ ∀ dx, H2 dx = none → dx ≠ a → D.nx σ (upd (upd H2 dx (exd dx [(f, y)])) a (exo a C (some dx)))) ∨
    ∃ (dx : Addr) (fs : List (Str × V)), H2 a = some (exo a C (some dx)) ∧ H2 dx = some (exd dx fs) ∧ fs.length ≤ 900 ∧ D.nx σ (upd H2 dx (exd dx ((f, y) :: fs))))
/-- C(e, .., k = v, ..), C's own __init__ keeping sp: the exception stays a tracked value -/
def tMkG (C : Addr) (n m : Nat) (sp : Sp) (gV : List V → List V → List V) (t tk : TA) : TE := fun σ H Q => t σ H fun vs H1 => tk σ H1 fun zs H2 => vs.length = n ∧ zs.length = m ∧ vs.length ≤ 1000 ∧
  ∀ a, H2 a = none → sp (gV (.ref a :: vs) zs) (upd H2 a (exo a C none)) (fun v H3 => v = .non ∧ Q (.ref a) H3) (fun _ _ _ => False)
section
variable {X : Cx} {o e : Expr} {es : List Expr} {to te : TE} {ta tk : TA} {f : Str} {p p' p1 p2 pos : Pos} {kws : List Keyword} {ks : List Str} {n : Nat}
theorem ps_osG (ho : PE X o to) (he : PE X e te) (hs : swapsWith e (some (.Attribute o f p')) pos.line X.env = pure false := by rfl) : PS X (.Assign [.Attribute o f p'] e pos) (tOsG X.K f to te) := by
  refine ⟨fun pins s σ H D I h => ?_⟩
  refine plainObj_wpAny_Assign_Attribute (thn (he.run pins s σ H _ I h) fun v s1 ⟨y, H1, I1, r1, q1⟩ => thn (ho.run pins s1 σ H1 _ I1 q1) fun u s2 ⟨x, H2, I2, r2, a, C, ex, T, hno, q⟩ => ?_) hs
  subst ex
  obtain rfl : u = Value.ref a := r2
  rcases q with ⟨ea, q⟩ | ⟨dx, fs, ea, ed, hl, q⟩
  · exact ostN T I2 ea hno r1 fun dx s' n ne J => ⟨σ, _, J, q dx n ne⟩
  · exact ostO T I2 ea ed hl hno r1 fun s' J => ⟨σ, _, J, q⟩
variable {CX : CXT} {x : Str} {C fI : Addr} {k : Nat} {fd : FuncData} {ps : List Str} {sp : Sp} {g : List Value → List Value → List Value} {gV : List V → List V → List V}
theorem run_mkG {pins : List (Addr × Obj)} {σ : St} {H : Hp} {s : Shared} {Q : VK} {us ws : List Value} {vs zs : List V} (T : ExG X.K C) (iC : PySem.W.findIn X.K (.ref C) "__init__" = some (some (.ref fI)))
    (tI : PySem.W.typeIn X.K (.ref fI) = some (.type "function")) (F1 : FnOk X.prog X.w X.K X.mg X.base CX k fI fd ps sp) (hr : Room (k + 1) X.A) (hb : KBn X.K fd ps (n + 1) ks g gV) (hx : Passes CX X (fun _ _ _ => False))
    (I : Inv X pins σ H s) (r : Vals vs us) (rz : Vals zs ws) (l1 : vs.length = n) (l2 : zs.length = ks.length) (l3 : vs.length ≤ 1000)
    (h : ∀ a, H a = none → sp (gV (.ref a :: vs) zs) (upd H a (exo a C none)) (fun v H3 => v = .non ∧ Q (.ref a) H3) (fun _ _ _ => False)) :
    wpAny (model X.prog X.w) X.A (call (.ref C) us (ks.zip ws)) (EP X pins σ Q) X.xe s := by
  obtain ⟨B, nid, iid, b3, nm, q, N, bs, bm, sn, sub, ab, col, dd, k0, k1, k2, k3, k5, FB, hT, hM, hC⟩ := T.cls
  obtain ⟨hp, gn, dr, tkk, os⟩ := s
  have hsz : hp.objs.size ≤ hp.objs.size + 1 := Nat.le_succ _
  have hn : H (hp.objs.size + 1) = none := I.hok.fresh hsz
  have hq := h (hp.objs.size + 1) hn
  have kk : ∀ b o, hp.get? b = some o → ((hp.push (PySem.W.kdv_tup us)).push (PySem.HandSPX.excO C hp.objs.size)).get? b = some o :=
    fun b o e => Heap.get?_push_of_some _ (Heap.get?_push_of_some _ e)
  have hgt : ((hp.push (PySem.W.kdv_tup us)).push (PySem.HandSPX.excO C hp.objs.size)).get? (hp.objs.size + 1) = some (PySem.HandSPX.excO C hp.objs.size) := by
    heap_get
  have I2 : Inv X pins σ (upd H (hp.objs.size + 1) (exo (hp.objs.size + 1) C none)) ⟨(hp.push (PySem.W.kdv_tup us)).push (PySem.HandSPX.excO C hp.objs.size), gn, dr, tkk, os⟩ :=
    I.laid (t' := tkk) (a := hp.objs.size + 1) (o := exo (hp.objs.size + 1) C none)
      (h' := (hp.push (PySem.W.kdv_tup us)).push (PySem.HandSPX.excO C hp.objs.size)) kk hsz (exo_ok hgt)
  have r1 : Vals (V.ref (hp.objs.size + 1) :: vs) (Value.ref (hp.objs.size + 1) :: us) := .cons rfl r
  have r2 := hb.rel r1 rz
  have n1 : (Value.ref (hp.objs.size + 1) :: us).length = n + 1 := by
    rw [List.length_cons, ← r.length, l1]
  have hus : us.length ≤ sizeLine := by
    rw [← Paired.length r, sizeLine_eq]; omega
  refine wpAny_call (callK FB hT (I.kIn _ _ hC) (PySem.W.looks_findIn I.kIn iC) (fun self => PySem.W.bind_fn I.kIn self tI) hus
    (codeAny_mono (F1.run _ X.stack _ _ ⟨Value.ref (hp.objs.size + 1) :: us, ks.zip ws⟩ (g (Value.ref (hp.objs.size + 1) :: us) ws) _ _ (fun _ _ _ => False)
      (hr.make C us (ks.zip ws)) (I2.env0.make C us (ks.zip ws)) (hb.to _ (Value.ref (hp.objs.size + 1) :: us) ws I2.kIn n1 (rz.length.symm.trans l2)) r2 hq) fun r s' hq' => ?_))
  cases r with
  | error er => exact hx pins σ _ _ er s' I2 hq'
  | ok fl =>
    cases fl with
    | ret u =>
      obtain ⟨v, H', I3, rv, ev, q3⟩ := I2.after hq'
      subst ev
      exact ⟨rv, ⟨V.ref (hp.objs.size + 1), H', I3, rfl, q3⟩⟩
    | next => exact False.elim hq'
    | brk => exact False.elim hq'
    | cont => exact False.elim hq'
theorem pe_mkG (T : ExG X.K C) (iC : PySem.W.findIn X.K (.ref C) "__init__" = some (some (.ref fI))) (tI : PySem.W.typeIn X.K (.ref fI) = some (.type "function"))
    (F1 : FnOk X.prog X.w X.K X.mg X.base CX k fI fd ps sp) (hr : Room (k + 1) X.A) (hg : Gl X x) (hm : X.mg x = some (.ref C)) (hb : KBn X.K fd ps (n + 1) [] g gV) (hx : Passes CX X (fun _ _ _ => False)) (ha : PA X (e :: es) ta)
    (hdb : (x == ("__debug__" : Str)) = false := by decide) (he : starEach (e :: es) X.env = (false, eval e X.env) :: starEach es X.env := by rfl) (hpl : (backTo pos (starEach es X.env)).any (·.1) = false := by rfl) :
    PE X (.Call (.Name x p) (e :: es) [] pos) (tMkG C n 0 sp gV ta tNil) := by
  refine ⟨fun pins s σ H Q I h => ?_⟩
  refine wpAny_Call_Name_kw (ld_glob I hg hm ?_ hdb)
  refine PySem.W.callWith_K (h₀ := X.base) I.ok.mod.kin T.kC (thn (ha.run pos pins s σ H _ I h) fun us s1 ⟨vs, H1, I1, r, l1, l2, l3, q⟩ => ⟨I1.kIn, ?_⟩) he hpl
  exact run_mkG (ws := []) (zs := []) T iC tI F1 hr hb hx I1 r .nil l1 l2 l3 q
theorem pe_mkGK (T : ExG X.K C) (iC : PySem.W.findIn X.K (.ref C) "__init__" = some (some (.ref fI))) (tI : PySem.W.typeIn X.K (.ref fI) = some (.type "function"))
    (F1 : FnOk X.prog X.w X.K X.mg X.base CX k fI fd ps sp) (hr : Room (k + 1) X.A) (hg : Gl X x) (hm : X.mg x = some (.ref C)) (hb : KBn X.K fd ps 1 ks g gV) (hx : Passes CX X (fun _ _ _ => False)) (hkw : PK X kws tk)
    (hall : (backToKw pos (keywordEach kws X.env)).all (·.1.isSome) = true := by rfl) (hks : (backToKw pos (keywordEach kws X.env)).filterMap (·.1) = ks := by rfl) (hdb : (x == ("__debug__" : Str)) = false := by decide)
    (hpl : ((backTo pos (starEach [] X.env)).any (·.1) || (backToKw pos (keywordEach kws X.env)).any (·.1.isNone)) = false := by rfl) :
    PE X (.Call (.Name x p) [] kws pos) (tMkG C 0 ks.length sp gV tNil tk) := by
  refine ⟨fun pins s σ H Q I h => ?_⟩
  refine wpAny_Call_Name_kw (ld_glob I hg hm ?_ hdb)
  refine PySem.W.callWith_KW0 (h₀ := X.base) I.ok.mod.kin T.kC hall ?_ hpl
  refine thn (hkw.run pos pins s σ H _ I h) fun ws s2 ⟨zs, H2, I2, rz, l1, l2, l3, q2⟩ => ⟨I2.kIn, ?_⟩
  rw [hks]
  exact run_mkG (us := []) (vs := []) T iC tI F1 hr hb hx I2 .nil rz rfl l2 (Nat.zero_le _) q2
end
end L2
namespace L2
open PySem PySem.Spec PyProof.Rows PySem.GX
/-- flat things -/
inductive Fl : V → PyData → Prop
  | non : Fl .non .none
  | bl (b : Bool) : Fl (.bl b) (.bool b)
  | int (i : Int) : Fl (.int i) (.int i)
  | str (x : Str) : Fl (.str x) (.str x)
mutual
/-- the data that a value is, dicts of flat things among them -/
inductive Sh (K : PySem.W.Frag) (H : Hp) : V → PyData → Prop
  | fl {v : V} {d : PyData} : Fl v d → Sh K H v d
  | lst {a : Addr} {xs : List V} {ds : List PyData} : SqL K H a xs → ShAll K H xs ds → Sh K H (.ref a) (.list ds)
  | tup {a : Addr} {xs : List V} {ds : List PyData} : SqT K H a xs → ShAll K H xs ds → Sh K H (.ref a) (.tuple ds)
  | dic {a : Addr} {kvs : List (Key × V)} {kds : List (PyData × PyData)} : H a = some (.dK kvs) → Paired Fl (kvs.map fun p => kV p.1) (kds.map (·.1)) → Paired Fl (kvs.map (·.2)) (kds.map (·.2)) →
      Sh K H (.ref a) (.dict kds)
inductive ShAll (K : PySem.W.Frag) (H : Hp) : List V → List PyData → Prop
  | nil : ShAll K H [] []
  | cons {v : V} {vs : List V} {d : PyData} {ds : List PyData} : Sh K H v d → ShAll K H vs ds → ShAll K H (v :: vs) (d :: ds)
end
section
variable {pr : Program} {wd : World} {h0 : Heap}
theorem Fl.reads {v : V} {d : PyData} {u : Value} (f : Fl v d) (r : RelV v u) : Reads h0 u d [] := by
  cases f with
  | non => cases r; exact .none
  | bl b => cases r; exact .bool b
  | int i => obtain ⟨t, rfl⟩ := r; exact .int i t
  | str x => obtain ⟨t, rfl⟩ := r; exact .str x t
theorem Fl.repr {v : V} {d : PyData} {u : Value} (f : Fl v d) (r : RelV v u) (hs : d.showable = true) (hz : d.shown.length ≤ sizeLine) (n : Nat) (bs : List Addr) : ReprK pr wd bs h0 n u d.shown := by
  cases f with
  | non => cases r; simp only [PyData.shown]; exact .of_is ReprIs.none _ _ _
  | bl b => cases r; simp only [PyData.shown]; exact .of_is (ReprIs.bool b) _ _ _
  | int i => obtain ⟨t, rfl⟩ := r; simp only [PyData.shown]; exact .of_is (ReprIs.int t (by simpa [PyData.showable] using hs)) _ _ _
  | str x => obtain ⟨t, rfl⟩ := r; simp only [PyData.shown]; exact .of_is (ReprIs.str x t (by simpa only [PyData.shown] using hz)) _ _ _
theorem flAll_reads : ∀ {vs : List V} {ds : List PyData} {us : List Value}, Paired Fl vs ds → Vals vs us → ReadsAll h0 us ds []
  | _, _, _, .nil, .nil => .nil
  | _, _, _, .cons f t, .cons r q => ReadsAll.cons (as := []) (bs := []) (f.reads r) (flAll_reads t q)
theorem flAll_repr (n : Nat) (bs : List Addr) : ∀ {vs : List V} {ds : List PyData} {us : List Value}, Paired Fl vs ds → Vals vs us → PyData.showableAll ds = true → (∀ t ∈ PyData.shownAll ds, t.length ≤ sizeLine) → ReprAllK pr wd bs h0 n us (PyData.shownAll ds)
  | _, _, _, .nil, .nil, _, _ => by simp only [PyData.shownAll]; exact .nil
  | _, d :: ds, _, .cons f t, .cons r q, hs, hz => by
    have hs' : d.showable = true ∧ PyData.showableAll ds = true := by simpa [PyData.showableAll] using hs
    simp only [PyData.shownAll] at hz ⊢
    exact .cons (f.repr r hs'.1 (hz _ (List.mem_cons_self ..)) n bs) (flAll_repr n bs t q hs'.2 fun t ht => hz t (List.mem_cons_of_mem _ ht))
end
theorem pairs_split {P : Program} {w : World} : ∀ {es : List DictEntry} {kvs : List (Key × V)} {vs : List (Key × Value)}, Pairs (mixKind P w) es vs → KV kvs vs → Vals (kvs.map fun p => kV p.1) (es.map (·.key)) ∧ Vals (kvs.map (·.2)) (es.map (·.val))
  | _, _, _, .nil, .nil => ⟨.nil, .nil⟩
  | e :: es, (k, v) :: kvs, (k', u) :: vs, .cons h1 h2 t, .cons r q => by
    obtain ⟨a, b⟩ := pairs_split t q
    obtain ⟨r1, r2⟩ := r
    have r1' : k = k' := r1
    subst r1'
    have hk : keyIs k e.key = true := h1
    have h2' : e.val = u := h2
    have rk : RelV (kV k) e.key := by
      rcases keyIs_shape hk with ⟨i, t, rfl, q⟩ | ⟨x, t, rfl, q⟩
      · exact ⟨t, q⟩
      · exact ⟨t, q⟩
    exact ⟨.cons rk a, .cons (show RelV v e.val by rw [h2']; exact r2) b⟩
section
variable {X : Cx} {pins : List (Addr × Obj)} {σ : St} {H : Hp} {s : Shared}
mutual
theorem Sh.both (I : Inv X pins σ H s) : ∀ (d : PyData) (v : V) (u : Value), Sh X.K H v d → RelV v u → d.showable = true → d.shown.length ≤ sizeLine →
    (∃ as, Reads s.heap u d as) ∧ ∃ bs, ReadAtMost s.heap d.depth bs ∧ ReprK X.prog X.w bs s.heap d.depth u d.shown
  | .none, _, _, h, r, hs, hz => by
    cases h with
    | fl f => exact ⟨⟨_, f.reads r⟩, [], (fun _ z => nomatch z), f.repr r hs hz _ _⟩
  | .bool b, _, _, h, r, hs, hz => by
    cases h with
    | fl f => exact ⟨⟨_, f.reads r⟩, [], (fun _ z => nomatch z), f.repr r hs hz _ _⟩
  | .int i, _, _, h, r, hs, hz => by
    cases h with
    | fl f => exact ⟨⟨_, f.reads r⟩, [], (fun _ z => nomatch z), f.repr r hs hz _ _⟩
  | .str x, _, _, h, r, hs, hz => by
    cases h with
    | fl f => exact ⟨⟨_, f.reads r⟩, [], (fun _ z => nomatch z), f.repr r hs hz _ _⟩
  | .list ds, _, _, h, r, hs, hz => by
    cases h with
    | fl f => cases f
    | @lst a xs _ hq ha =>
      cases r
      obtain ⟨its, rv, ⟨o, n, ho, hc, _, hd⟩, _⟩ := I.list hq
      have hz' : (listText (PyData.shownAll ds)).length ≤ sizeLine := by simpa only [PyData.shown] using hz
      obtain ⟨⟨as, hr⟩, bs, hb, hk⟩ := Sh.bothAll I ds xs its ha rv (by simpa [PyData.showable] using hs) (fun t ht => Nat.le_trans (listText_mem_le ht) hz')
      have rr : Reads s.heap (.ref a) (.list ds) _ := Reads.list ho hc hd hr
      have hna : a ∉ bs := not_mem_of_deeper rr (by simp only [PyData.depth]; omega) hb
      refine ⟨⟨_, rr⟩, a :: bs, ReadAtMost.cons rr (by simp only [PyData.depth]; omega) hb, ?_⟩
      simp only [PyData.depth, PyData.shown]
      cases its with
      | nil =>
        cases hr
        simp only [PyData.shownAll, listText_nil]
        exact ReprK.listEmpty ho hc hd
      | cons x l => exact ReprK.list ho hc hd hna (by simpa using hk.length_eq) (fun i y e => hk.item i y (by simpa using e))
  | .tuple ds, _, _, h, r, hs, hz => by
    cases h with
    | fl f => cases f
    | @tup a xs _ hq ha =>
      cases r
      obtain ⟨its, rv, ⟨o, ho, hc, n, hd⟩, _⟩ := I.tuple hq
      have hz' : (tupleText (PyData.shownAll ds)).length ≤ sizeLine := by simpa only [PyData.shown] using hz
      obtain ⟨⟨as, hr⟩, bs, hb, hk⟩ := Sh.bothAll I ds xs its ha rv (by simpa [PyData.showable] using hs) (fun t ht => Nat.le_trans (tupleText_mem_le ht) hz')
      have rr : Reads s.heap (.ref a) (.tuple ds) _ := Reads.tuple ho hc hd hr
      have hna : a ∉ bs := not_mem_of_deeper rr (by simp only [PyData.depth]; omega) hb
      refine ⟨⟨_, rr⟩, a :: bs, ReadAtMost.cons rr (by simp only [PyData.depth]; omega) hb, ?_⟩
      simp only [PyData.depth, PyData.shown]
      exact ReprK.tuple ho hc hd hna hk
  | .dict kds, _, _, h, r, hs, hz => by
    cases h with
    | fl f => cases f
    | @dic a kvs _ hq fk fv =>
      cases r
      obtain ⟨_, hsys, vs, rkv, o, es, ep, ho, ⟨hc, _⟩, hd, _, hp, _⟩ := I.hok a _ hq
      obtain ⟨vk, vv⟩ := pairs_split hp rkv
      obtain ⟨hs1, hs2⟩ := PyData.showableKv_split kds (by simpa [PyData.showable] using hs)
      have hz' : (dictText (PyData.shownKv kds)).length ≤ sizeLine := by simpa only [PyData.shown] using hz
      have k1 : ReprAllK X.prog X.w [] s.heap (PyData.depthKv kds) _ _ := flAll_repr (PyData.depthKv kds) [] fk vk hs1 (fun t ht => by
        obtain ⟨p, hp, hl⟩ := PyData.shownKv_key_le kds t ht
        exact Nat.le_trans hl (Nat.le_trans (dictText_mem_le hp) hz'))
      have k2 : ReprAllK X.prog X.w [] s.heap (PyData.depthKv kds) _ _ := flAll_repr (PyData.depthKv kds) [] fv vv hs2 (fun t ht => by
        obtain ⟨p, hp, hl⟩ := PyData.shownKv_val_le kds t ht
        exact Nat.le_trans hl (Nat.le_trans (dictText_mem_le hp) hz'))
      have rr : Reads s.heap (.ref a) (.dict kds) _ := Reads.dict ho hc hd (flAll_reads fk vk) (flAll_reads fv vv)
      refine ⟨⟨_, rr⟩, [a], ReadAtMost.cons rr (n := 0) (Nat.zero_le _) (fun _ z => nomatch z), ?_⟩
      simp only [PyData.depth, PyData.shown, PyData.shownKv_eq]
      exact ReprK.dict ho hc hd hsys (fun z => nomatch z) (ReprEntriesK.of_two es.toList _ _ k1 k2)
theorem Sh.bothAll (I : Inv X pins σ H s) : ∀ (ds : List PyData) (vs : List V) (us : List Value), ShAll X.K H vs ds → Vals vs us → PyData.showableAll ds = true → (∀ t ∈ PyData.shownAll ds, t.length ≤ sizeLine) →
    (∃ as, ReadsAll s.heap us ds as) ∧ ∃ bs, ReadAtMost s.heap (PyData.depthAll ds) bs ∧ ReprAllK X.prog X.w bs s.heap (PyData.depthAll ds) us (PyData.shownAll ds)
  | [], _, _, h, r, _, _ => by
    cases h
    cases r
    refine ⟨⟨_, ReadsAll.nil⟩, [], (fun _ z => nomatch z), ?_⟩
    simp only [PyData.shownAll]
    exact .nil
  | d :: ds, _, _, h, r, hs, hz => by
    cases h with
    | cons h1 h2 =>
      cases r with
      | cons r1 r2 =>
        have hs' : d.showable = true ∧ PyData.showableAll ds = true := by simpa [PyData.showableAll] using hs
        simp only [PyData.shownAll] at hz
        obtain ⟨⟨as, q1⟩, b1, hb1, k1⟩ := Sh.both I d _ _ h1 r1 hs'.1 (hz _ (List.mem_cons_self ..))
        obtain ⟨⟨bs, q2⟩, b2, hb2, k2⟩ := Sh.bothAll I ds _ _ h2 r2 hs'.2 (fun t ht => hz t (List.mem_cons_of_mem _ ht))
        refine ⟨⟨_, ReadsAll.cons q1 q2⟩, b1 ++ b2, ?_, ?_⟩
        · simp only [PyData.depthAll]
          exact (hb1.mono (Nat.le_max_left _ _)).append (hb2.mono (Nat.le_max_right _ _))
        · simp only [PyData.depthAll, PyData.shownAll]
          exact .cons ((k1.more fun b hb => List.mem_append_left _ hb).level_le (Nat.le_max_left _ _)) (k2.more_le (fun b hb => List.mem_append_right _ hb) (Nat.le_max_right _ _))
end
end
/-- repr(x), x a list -/
def rRepr (K : PySem.W.Frag) : List V → Hp → VK → Prop := fun xs H Q => ∃ (a : Addr) (ds : List PyData), xs = [.ref a] ∧ Sh K H (.ref a) (.list ds) ∧ PyData.showableAll ds = true ∧ (PyData.list ds).shown.length ≤ sizeLine ∧ (PyData.list ds).depth ≤ 60 ∧
  Q (.str (PyData.list ds).shown) H
theorem call_reprL {X : Cx} (hg : X.A.guards = some []) (hu : X.A.units + 64 < cLine) : CallR X (.builtin "repr") (rRepr X.K) := by
  intro pins s σ H xs us Q I r h
  obtain ⟨a, ds, rfl, hsh, hs, hz, hdp, q⟩ := h
  cases r with
  | cons r1 r2 =>
    cases r2
    cases r1
    cases hsh with
    | fl f => cases f
    | @lst _ xs _ hq ha =>
      obtain ⟨its, rv, ⟨o, n, ho, hc, _, hd⟩, _⟩ := I.list hq
      have hz' : (listText (PyData.shownAll ds)).length ≤ sizeLine := by simpa only [PyData.shown] using hz
      obtain ⟨⟨as, hr⟩, bs, hb, hk⟩ := Sh.bothAll I ds xs its ha rv hs (fun t ht => Nat.le_trans (listText_mem_le ht) hz')
      have rr : Reads s.heap (.ref a) (.list ds) _ := Reads.list ho hc hd hr
      have hna : a ∉ bs := not_mem_of_deeper rr (by simp only [PyData.depth]; omega) hb
      simp only [PyData.depth] at hdp
      simp only [PyData.shown] at q
      refine call_repr_slot (by omega) ⟨o, ho, hc⟩ F.slot_list_repr.toG ?_
      have fin : ∀ (h' : Heap) (u : Tok) (tk : Nat), (∀ b o, s.heap.get? b = some o → h'.get? b = some o) → EP X pins σ Q (.str (listText (PyData.shownAll ds)) u) { s with heap := h', toks := tk } :=
        fun h' u tk k => ⟨.str (listText (PyData.shownAll ds)), H, I.kept k, ⟨u, rfl⟩, q⟩
      cases its with
      | nil =>
        cases hr
        simp only [PyData.shownAll, listText_nil] at fin
        exact call_list_repr_empty ⟨o, ho, hc⟩ ho hd ⟨_, _, rfl, fin s.heap _ _ fun _ _ e => e⟩
      | cons x l =>
        exact call_list_reprK ho hc hd hna (by simpa using hk.length_eq) (fun i y e => hk.item i y (by simpa using e)) hg (fun b _ => Clear.nil b)
          (by show X.A.units + 1 + _ < cLine; omega) (fun _ _ e => e) (fun h' u tk k => ⟨_, _, rfl, fin h' u tk k⟩) hz'
end L2
namespace L2
open PySem PySem.Spec PyProof.Rows PySem.GX
/-- a def's promise where no repr is under way -/
structure FnG (P : Program) (w : World) (K : PySem.W.Frag) (mg : Str → Option Value) (base : Heap) (CX : CXT) (k : Nat) (f : Addr) (fd : FuncData) (ps : List Str) (sp : Sp) : Prop where
  len : ∀ vs H Q E, sp vs H Q E → vs.length = ps.length
  run : ∀ (A : Around) (outer : List Env) (s : Shared) (H : Hp) (args : Args) (us : List Value) (vs : List V) (Q : VK) (E : XK), A.guards = some [] → Room k A → Env0 P w K mg base A outer s H →
    BindsTo s fd args (ps.zip us) → Vals vs us → sp vs H Q E → codeAny (model P w) A (.call (.ref f) args) (CR CX outer P w H s Q E) s
section
variable {P : Program} {w : World} {K : PySem.W.Frag} {mg : Str → Option Value} {base : Heap} {CX : CXT}
theorem fnG_of {k : Nat} {f : Addr} {name qual : Str} {params : Arguments} {body : List Stmt} {scope : Scope} {dV kV doc pm cdv ct oc : Value} {an od : Option Addr}
    {osl : Array (Option Value)} {N ps : List Str} {sp : Sp} (lk : K.lookup f = some ⟨oc, od, .func (PySem.W.fnOf name qual params body scope dV kV doc pm an cdv ct), osl⟩)
    (hcd : PySem.W.codeIn K cdv qual = true) (S : FnScope N ps scope) (len : ∀ vs H Q E, sp vs H Q E → vs.length = ps.length)
    (hbody : ∀ (A : Around) (outer : List Env) (s : Shared) (H : Hp) (vs : List V) (Q : VK) (E : XK), A.guards = some [] → Room k (A.deeper (envOfC qual scope s.heap.objs.size f cdv)) → sp vs H Q E →
      ∃ t, PSs (cxOf CX P w K mg base N qual scope f cdv A outer s H E) body t ∧ t { nx := fun _ H' => Q .non H', rt := Q } (start N vs) H) :
    FnG P w K mg base CX (k + 1) f (PySem.W.fnOf name qual params body scope dV kV doc pm an cdv ct) ps sp := by
  refine ⟨len, fun A outer s H args us vs Q E hgd hr e0 hb r hsp => ?_⟩
  have hl := len _ _ _ _ hsp
  have KX : K.In s.heap := e0.mod.kin.keeps fun b o e => (e0.bs b o e).1
  have lim : s.heap.NoLimit := e0.mod.nolimit.keeps fun b o e => (e0.bs b o e).1
  have hkind : ∀ y ∈ ps.zip us, scope.names.lookup y.1 = some .local ∨
      (scope.names.lookup y.1 = some .cell ∧ ((cellsFrom (s.heap.objs.size + 1) scope.names []).lookup y.1).isSome = true) := fun ⟨n, v⟩ hy => by
    rcases S.par n (List.of_mem_zip hy).1 with q | q
    · exact .inl q
    · exact .inr ⟨q, PySem.W.cellsFrom_some _ _ _ (.inl q)⟩
  refine codeAny_call_function hr.depth (KX _ _ lk) rfl S.co S.gen rfl (PySem.W.codeRec_of KX hcd) (hb _ _ _ _ ?_)
  refine wpAny_newFunctionEnv_cells S.kind hkind fun env he s1 x => ?_
  subst he
  refine ⟨lim.keeps x.toInCall.keep, codeAny_func ?_⟩
  obtain ⟨t, ht, hq⟩ := hbody A outer s H vs Q E hgd (hr.deeper _) hsp
  have I : Inv (cxOf CX P w K mg base N qual scope f cdv A outer s H E) [] (start N vs) H s1 := inv_start S hr.hd e0 hl r x
  refine wpAny_mono (ht.run [] s1 (start N vs) H _ I hq) (fun fl s' hs => ?_) fun e s' hs => hs
  cases fl with
  | ret u =>
    obtain ⟨v, σ', H', J, rv, q⟩ := hs
    exact ⟨v, H', J.os, J.bare, J.base, J.hok, rv, q⟩
  | next =>
    obtain ⟨σ', H', J, q⟩ := hs
    exact ⟨V.non, H', J.os, J.bare, J.base, J.hok, rfl, q⟩
  | brk =>
    obtain ⟨_, _, _, q⟩ := hs
    exact False.elim q
  | cont =>
    obtain ⟨_, _, _, q⟩ := hs
    exact False.elim q
theorem Fun.okG {x qual : Str} {st : Stmt} {f : Addr} {fd : FuncData} {N ps : List Str} {k : Nat} {sp : Sp} (F : Fun K x qual st f fd) (S : FnScope N ps (defScope st)) (len : ∀ vs H Q E, sp vs H Q E → vs.length = ps.length)
    (hbody : ∀ (cdv : Value) (A : Around) (outer : List Env) (s : Shared) (H : Hp) (vs : List V) (Q : VK) (E : XK), A.guards = some [] → Room k (A.deeper (envOfC qual (defScope st) s.heap.objs.size f cdv)) → sp vs H Q E →
      ∃ t, PSs (cxOf CX0 P w K mg base N qual (defScope st) f cdv A outer s H E).nox (defBody st) t ∧ t { nx := fun _ H' => Q .non H', rt := Q } (start N vs) H) : FnG P w K mg base CX0 (k + 1) f fd ps sp := by
  obtain ⟨oc, od, kV, doc, pm, an, cdv, ct, osl, rfl, lk, hcd⟩ := F.ex
  refine fnG_of lk hcd S len fun A outer s H vs Q E hgd hr hsp => ?_
  obtain ⟨t, h, q⟩ := hbody cdv A outer s H vs Q E hgd hr hsp
  exact ⟨t, h.nox, q⟩
end
section
variable {X : Cx} {CX : CXT} {k : Nat} {f C : Addr} {fd : FuncData} {ps : List Str} {sp : Sp} {E : XK} {x : Str} {p pos : Pos} {e : Expr} {es : List Expr} {t : TA}
theorem pe_callG (F : FnG X.prog X.w X.K X.mg X.base CX k f fd ps sp) (hgd : X.A.guards = some []) (hr : Room k X.A) (hg : Gl X x) (hm : X.mg x = some (.ref f)) (hk : PySem.W.keepIn X.K (.ref f) = true) (hb : Binds X.K fd ps []) (hx : Passes CX X E)
    (ha : PA X (e :: es) t) (hdb : (x == ("__debug__" : Str)) = false := by decide) (he : starEach (e :: es) X.env = (false, eval e X.env) :: starEach es X.env := by rfl) (hpl : (backTo pos (starEach es X.env)).any (·.1) = false := by rfl) :
    PE X (.Call (.Name x p) (e :: es) [] pos) (tCall sp [] E t) := by
  refine ⟨fun pins s σ H Q I h => ?_⟩
  refine wpAny_Call_Name_kw (ld_glob I hg hm ?_ hdb)
  refine PySem.W.callWith_K (h₀ := X.base) I.ok.mod.kin hk (thn (ha.run pos pins s σ H _ I h) fun us s1 ⟨vs, H1, I1, r, q⟩ => ⟨I1.kIn, ?_⟩) he hpl
  have r2 : Vals (vs ++ []) (us ++ []) := r.append .nil
  have hl : (us ++ []).length = ps.length := by rw [← r2.length]; exact F.len _ _ _ _ q
  refine wpAny_call (codeAny_mono (F.run X.A X.stack s1 H1 ⟨us, []⟩ (us ++ []) (vs ++ []) Q E hgd hr I1.env0 (hb s1 us I1.kIn hl) r2 q) fun r s' hq => ?_)
  cases r with
  | error e => exact hx pins σ H1 s1 e s' I1 hq
  | ok fl =>
    cases fl with
    | ret u => exact I1.after hq
    | next => exact False.elim hq
    | brk => exact False.elim hq
    | cont => exact False.elim hq
/-- X(), an own exception class without own __init__ -/
theorem pe_exc0G {bmB : List Value} {B nid iid : String} (F : ExcBaseFacts B nid iid bmB) (q : PySem.W.excIn X.K C bmB nid = true) (gC : X.mg x = some (.ref C)) (kC : PySem.W.keepIn X.K (.ref C) = true) (hg : Gl X x)
    (hdb : (x == ("__debug__" : Str)) = false := by decide) :
    PE X (.Call (.Name x p) [] [] pos) (fun σ H Q => ∀ a, H a = none → Q (.ref a) (upd H a (exo a C none))) := by
  refine ⟨fun pins s σ H Q I h => ?_⟩
  refine wpAny_Call_Name_kw (ld_glob I hg gC ?_ hdb)
  refine PySem.W.callWith_K0 I.kIn kC ?_
  obtain ⟨bm, N, nm, qn, bs, hdct, sn, sub, ab, col, dd, k0, k1, k2, k3, k5, mN, hC, hN, hni, T⟩ := exc_obj I.kIn q
  refine wpAny_call_exc_subT F T hC hN hni (fun h' a hm => ?_) (by show 0 ≤ sizeLine; exact Nat.zero_le _)
  have hn : H a = none := I.hok.gone hm.new
  obtain ⟨t, ht, _, _⟩ := hm.there
  exact ⟨.ref a, upd H a (exo a C none), I.laidN hm.keeps hm.new hn (exo_ok ht), rfl, h a hn⟩
end
/-- the law's call, its promise where no repr is under way -/
theorem law_callG {P : Program} {w : World} {K : PySem.W.Frag} {mg mb : Str → Option Value} {CX : CXT} {k : Nat} {fa a : Addr} {fd : FuncData} {x : Str} {sp : Sp} {s1 : Shared} {vs : List Value} {ns : List Int}
    (KX : K.In s1.heap) (hns : s1.heap.Ns mainGlobals mg) (hb : s1.heap.Ns builtinsNs mb) (hbb : ∀ x : Str, x ≠ "__name__" → mb x = bootBuiltins x) (hlim : s1.heap.NoLimit) (hg : s1.gens = #[])
    (ha : s1.heap.get? a = some { cls := .type "list", data := .seq vs.toArray }) (hi : IntsAre vs ns) (hl : ns.length ≤ sizeLine) (hr : Room k callerA)
    (F : ∀ base : Heap, K.In base → base.Ns mainGlobals mg → FnG P w K mg base CX k fa fd [x] sp) (hbind : ∀ (s : Shared) (u : Value), BindsTo s fd ⟨[u], []⟩ [(x, u)])
    (hsp : ∀ H : Hp, Only H → SqL K H a (ns.map V.int) → sp [.ref a] H (fun v _ => v = .bl true) fun _ _ _ => False)
    (hCX : ∀ H e s', CX [] H s1 (fun _ _ _ => False) e s' → False) :
    codeAny (model P w) callerA (.call (.ref fa) ⟨[.ref a], []⟩) (fun r s' => r = .ok (.ret (.bool true)) ∧ OldK s1.heap s'.heap ∧ s'.os = s1.os ∧ AllBare s'.gens) s1 := by
  have rv := vals_ints hi
  have lenV := hi.length
  have core : ∀ H : Hp, Only H → SqL K H a (ns.map V.int) → HOk P w H s1.heap → (∀ b, H b ≠ none → b = a) → (H a ≠ none → K.lookup a = none) →
      codeAny (model P w) callerA (.call (.ref fa) ⟨[.ref a], []⟩) (fun r s' => r = .ok (.ret (.bool true)) ∧ OldK s1.heap s'.heap ∧ s'.os = s1.os ∧ AllBare s'.gens) s1 := by
    intro H hO hS hok hA hK
    have isA : ∀ {b : Addr} {u : HO}, H b = some u → b = a := fun {b u} q => hA b (by rw [q]; simp)
    have nod : ∀ {b : Addr} {o : Obj} {es : Array DictEntry} {ep : Nat}, s1.heap.get? b = some o → o.data = .dict es ep → H b = none := fun {b o es ep} e d => by
      cases q : H b with
      | none => rfl
      | some u =>
        have e1 := isA q
        subst e1
        rw [ha] at e
        cases e
        cases (show Data.seq vs.toArray _ = Data.dict es ep from d)
    have nsK : ∀ {b : Addr} {m : Str → Option Value}, s1.heap.Ns b m → (hidT s1.heap H).Ns b m :=
      fun {b m} ⟨o, es, ep, e, d, r⟩ => ⟨o, es, ep, hidT_get e (nod e d), d, r⟩
    have hKb : K.In (hidT s1.heap H) := fun b o e => hidT_get (KX b o e) (by
      cases q : H b with
      | none => rfl
      | some u =>
        have e1 := isA q
        subst e1
        rw [hK (by rw [q]; simp)] at e
        cases e)
    have hM : Mod K mg (hidT s1.heap H) :=
      ⟨hKb, nsK hns, ⟨mb, nsK hb, hbb⟩, let ⟨mc, h1, h2⟩ := hlim; ⟨mc, nsK h1, h2⟩⟩
    have e0 : Env0 P w K mg (hidT s1.heap H) callerA [] s1 H :=
      ⟨rfl, hM, fun b o e => of_hidT e, Nat.le_of_eq (hidT_size _ _), trivial, fun b hb => absurd (show b ∈ ([] : List Addr) from hb) (by simp), hok, .of_eq hg⟩
    refine codeAny_mono ((F _ hKb (nsK hns)).run callerA [] s1 H ⟨[.ref a], []⟩ [.ref a] [.ref a] _ _ rfl hr e0 (hbind s1 (.ref a)) (.cons rfl .nil) (hsp H hO hS)) fun r s' h => ?_
    cases r with
    | error e => exact (hCX H e s' h).elim
    | ok fl =>
      cases fl with
      | next => exact False.elim h
      | brk => exact False.elim h
      | cont => exact False.elim h
      | ret u =>
        obtain ⟨v, H', os, bare, un, hok', r', q⟩ := h
        have qv : v = .bl true := q
        subst qv
        obtain rfl : u = Value.bool true := r'
        refine ⟨rfl, OldK.of_keep fun b o e => ?_, os, bare⟩
        cases q : H b with
        | none => exact un.keep b o e q (by intro z; exact absurd (show b ∈ ([] : List Addr) from z) (by simp)) (by simp)
        | some u =>
          rcases hO b with z | ⟨ob, xs, z⟩
          · rw [q] at z; cases z
          · have z2 := un.frzs b ob _ z
            obtain ⟨e1, _⟩ := hok b _ z
            obtain ⟨e2, _⟩ := hok' b _ z2
            rw [e] at e1
            cases e1
            exact e2
  cases hk : K.lookup a with
  | some o =>
    have e := KX a o hk
    rw [ha] at e
    cases e
    refine core (fun _ => none) (fun _ => .inl rfl) (.inr ⟨_, vs.toArray, _, hk, rfl, rfl, rfl, by rw [List.size_toArray, lenV]; exact hl, by simpa using rv⟩)
      (fun b u z => by cases (show (none : Option HO) = some u from z)) (fun b z => absurd rfl z) fun z => absurd rfl z
  | none =>
    refine core (fun b => if b = a then some (.frz { cls := .type "list", data := .seq vs.toArray } (.lst (ns.map V.int))) else none)
      (fun b => ?_) (.inl (.inr ⟨{ cls := .type "list", data := .seq vs.toArray }, if_pos rfl⟩)) (fun b u z => ?_) (fun b z => ?_) fun _ => hk
    · by_cases hb : b = a
      · exact .inr ⟨_, _, if_pos hb⟩
      · exact .inl (if_neg hb)
    · by_cases hb : b = a
      · have z1 := (if_pos hb).symm.trans z
        cases z1
        subst hb
        exact ⟨ha, by rw [List.length_map]; exact hl, vs, _, rv, ha⟩
      · have z1 := (if_neg hb).symm.trans z
        cases z1
    · by_cases hb : b = a
      · exact hb
      · exact absurd (if_neg hb) z
theorem walk_G {l : PySem.W.OpenLaw} {n k : Nat} {q : Program} {loose : List Str} {XP : (Str → Option Value) → Heap → Prop} {YP : World → Heap → Prop} {d : DefRec} {K : Params → PySem.W.Frag} {sp : PySem.W.Frag → Sp} {x : Str}
    (hn : l.most = some n) (hn2 : n ≤ sizeLine) (hdf : d.params.defaults = []) (hr : Room k callerA)
    (hY : ∀ (w : World) (h : Heap), YP w h → (K w.params).In h)
    (F : ∀ (w : World) (mg : Str → Option Value) (fa : Addr) (h : Heap), (K w.params).In h → h.Ns mainGlobals mg → mg d.name = some (.ref fa) →
      ∃ fd : FuncData, (∀ (s : Shared) (u : Value), BindsTo s fd ⟨[u], []⟩ [(x, u)]) ∧
        ∀ base : Heap, (K w.params).In base → base.Ns mainGlobals mg → FnG l.prog w (K w.params) mg base CX0 k fa fd [x] (sp (K w.params)))
    (hsp : ∀ (K : PySem.W.Frag) (H : Hp) (a : Addr) (ns : List Int), ns.length ≤ n → Only H → SqL K H a (ns.map V.int) → sp K [.ref a] H (fun v _ => v = .bl true) fun _ _ _ => False) :
    PySem.W.WalkO q loose XP YP l.row.toRowW d [] (fun f vs => PySem.call f vs) := by
  refine Att.attach_call hn hdf fun w s₀ s1 mg mb fa o pm cd doc a vs ns G Y ho hd hcd hmg hobj hints hlen hg => ?_
  have KX := hY w _ Y
  obtain ⟨fd, hb, hF⟩ := F w mg fa _ KX G.T.g hmg
  exact law_callG KX G.T.g G.T.b G.T.builtins G.T.nolimit hg hobj hints (Nat.le_trans hlen hn2) hr hF hb (fun H hO hS => hsp (K w.params) H a ns hlen hO hS) fun _ _ _ z => z
end L2
namespace L2
open PySem PySem.Spec PyProof.Rows PySem.GX
/-! sets of texts that can be walked: ys are the members, none twice -/
def keyS (e : Int × Value) : Str := match e.2 with | .str k _ => k | _ => Str.empty
def GoodS (w : World) (e : Int × Value) : Prop := ∃ k tk, e.2 = Value.str k tk ∧ e.1 = hashStr w k
def SetT (w : World) (h : Heap) (a : Addr) (ys : List Str) : Prop :=
  ∃ o es ep t, h.get? a = some o ∧ o.ExactSet ∧ o.data = .set es ep t ∧ (∀ e ∈ es.toList, GoodS w e) ∧ (es.toList.map keyS).Perm ys ∧ ys.Nodup ∧
    es.size < scanBound ∧ t.fits es.size = true ∧ Ris t.place.toList ∧ (w.params.followText "set-order" = true ∨ t.led = true)
/-- one more member -/
def ins (ys : List Str) (k : Str) : List Str := if k ∈ ys then ys else k :: ys
theorem ins_nodup {ys : List Str} {k : Str} (h : ys.Nodup) : (ins ys k).Nodup := by
  unfold ins
  split
  · exact h
  · exact List.nodup_cons.mpr ⟨‹_›, h⟩
theorem ins_len (ys : List Str) (k : Str) : (ins ys k).length ≤ ys.length + 1 := by
  unfold ins
  split
  · omega
  · rw [List.length_cons]; omega
section
variable {P : Program} {w : World} {h h' : Heap} {a : Addr} {ys : List Str}
theorem SetT.at (R : SetT w h a ys) (k : ∀ o, h.get? a = some o → h'.get? a = some o) : SetT w h' a ys := by
  obtain ⟨o, es, ep, t, ho, r⟩ := R
  exact ⟨o, es, ep, t, k o ho, r⟩
theorem goodS_elems {l : List (Int × Value)} (g : ∀ e ∈ l, GoodS w e) : ElemsOf (strKind P w) l := fun e he => by
  obtain ⟨k, tk, h1, h2⟩ := g e he
  exact ⟨⟨k, by rw [h1]; exact strKind_is P w k tk, h2⟩, by rw [h1] <;> rfl⟩
theorem goodS_is {e : Int × Value} (g : GoodS w e) (k : Str) : (strKind P w).is k e.2 = true ↔ keyS e = k := by
  obtain ⟨k0, tk, h1, _⟩ := g
  unfold keyS
  rw [h1]
  constructor
  · intro z
    obtain ⟨t, e2⟩ := Value.isStrOf_shape (x := k) (v := .str k0 tk) z
    cases e2
    rfl
  · intro z
    have z' : k0 = k := z
    rw [z']
    exact strKind_is P w k tk
theorem goodS_mem {l : List (Int × Value)} (g : ∀ e ∈ l, GoodS w e) (k : Str) : k ∈ l.map keyS ↔ ∃ e ∈ l, (strKind P w).is k e.2 = true := by
  rw [List.mem_map]
  constructor
  · rintro ⟨e, he, q⟩
    exact ⟨e, he, (goodS_is (g e he) k).2 q⟩
  · rintro ⟨e, he, q⟩
    exact ⟨e, he, (goodS_is (g e he) k).1 q⟩
end
section
variable {P : Program} {w : World} {A : Around} {E : Value → Shared → Prop} {s : Shared} {a : Addr} {ys : List Str}
theorem setT_tail {g : Bool → Sem Unit} (hg : ∀ (b : Bool) (s₁ : Shared) (Q' : Unit → Shared → Prop), Q' () s₁ → wpAny (model P w) A (g b) Q' E s₁)
    {o : Obj} {es : Array (Int × Value)} {ep : Nat} {t : SetTable} (ho : s.heap.get? a = some o) (hex : o.ExactSet) (hd : o.data = .set es ep t)
    {es1 : Array (Int × Value)} {t2 : SetTable} {zs : List Str} (g1 : ∀ e ∈ es1.toList, GoodS w e) (p1 : (es1.toList.map keyS).Perm zs) (nd1 : zs.Nodup)
    (hb1 : es1.size < scanBound) (hf2 : t2.fits es1.size = true) (hr : Ris t2.place.toList) (hl : w.params.followText "set-order" = true ∨ t2.led = true) {wd : Bool} {R : Option Bool → Shared → Prop}
    (hR : ∀ h', Heap.SameBut a s.heap h' → SetT w h' a zs → R (some true) { s with heap := h' }) :
    wpAny (model P w) A (do
        storeSet a es1 t2
        if (!wd && t2.tooFull) = true then do
            g (relayAll t2 es1 (SetTable.grown es1.size)).2.2
            storeSet a (relayAll t2 es1 (SetTable.grown es1.size)).1 (relayAll t2 es1 (SetTable.grown es1.size)).2.1
            pure (some true)
          else pure (some true)) R E s := by
  refine wpAny_bind (wpAny_storeSet_of ho hd ?_ (fits_of_scanBound hb1))
  have ho1 := store_at (es' := es1) (t' := t2) ho hd
  have sb1 := Heap.SameBut.update s.heap a (Obj.putSet es1 t2)
  split
  · have c1 := relayAll_perm t2 es1 (SetTable.grown es1.size)
    have c2 := relayAll_fits t2 es1 (SetTable.grown es1.size)
    have c3 := relayAll_ris t2 es1 (SetTable.grown es1.size)
    have c4 := relayAll_led t2 es1 (SetTable.grown es1.size)
    generalize relayAll t2 es1 (SetTable.grown es1.size) = Z at c1 c2 c3 c4 ⊢
    obtain ⟨es2, t3, gv⟩ := Z
    dsimp only at c1 c2 c3 c4 ⊢
    have hsz : es2.size = es1.size := by
      rw [← Array.length_toList, c1.length_eq, Array.length_toList]
    have hb2 : es2.size < scanBound := by rw [hsz]; exact hb1
    refine wpAny_bind (hg _ _ _ ?_)
    refine wpAny_bind (wpAny_storeSet_of ho1 rfl ?_ (fits_of_scanBound hb2))
    have ho2 := store_at (es' := es2) (t' := t3) ho1 rfl
    refine wpAny_pure (hR _ (sb1.trans (Heap.SameBut.update _ a _)) ?_)
    exact ⟨_, es2, _, t3, ho2, hex, rfl, fun e he => g1 e (c1.mem_iff.mp he), (c1.map keyS).trans p1, nd1, hb2, c2, c3, hl.imp id fun z => by rw [c4]; exact z⟩
  · exact wpAny_pure (hR _ sb1 ⟨_, es1, _, t2, ho1, hex, rfl, g1, p1, nd1, hb1, hf2, hr, hl⟩)
theorem setT_add {k : Str} {tk : Tok} {Q : Bool → Shared → Prop} (R : SetT w s.heap a ys) (room : ys.length + 1 < scanBound)
    (hQ : ∀ (b : Bool) h', Heap.SameBut a s.heap h' → SetT w h' a (ins ys k) → Q b { s with heap := h' }) :
    wpAny (model P w) A (setAddHashed a (.str k tk) ((strKind P w).hash k)) Q E s := by
  obtain ⟨o, es, ep, t, ho, hex, hd, g, pm0, nd, hb, hf, hr, hl⟩ := R
  have hkey : (strKind P w).is k (.str k tk) = true := strKind_is P w k tk
  have hsc : (Value.str k tk).scannable = true := rfl
  have hel : ElemsOf (strKind P w) es.toList := goodS_elems g
  unfold setAddHashed setAddHashedIn
  refine wpAny_holding (wpAny_bind (wpAny_setState_of ho hd hf ?_))
  dsimp only
  rw [byScan_of hsc hb hel]
  simp only [↓reduceIte]
  unfold setAddByScan
  refine wpAny_bind ?_
  refine wpAny_bind (wpAny_rule ?_)
  refine wpAny_bind (wpAny_setScan_of hkey ho hd hf hel ?_)
  cases hfi : List.findIdx? (fun e => (strKind P w).is k e.2) es.toList with
  | some j =>
    dsimp only
    obtain ⟨hj, pj, _⟩ := List.findIdx?_eq_some_iff_getElem.mp hfi
    have hk : k ∈ ys := pm0.mem_iff.mp ((goodS_mem (P := P) (w := w) g k).2 ⟨es.toList[j], List.getElem_mem hj, pj⟩)
    refine wpAny_pure (wpAny_pure ?_)
    exact hQ _ s.heap (Heap.SameBut.refl a s.heap) ⟨o, es, ep, t, ho, hex, hd, g, by unfold ins; rw [if_pos hk]; exact pm0, ins_nodup nd, hb, hf, hr, hl⟩
  | none =>
    dsimp only
    have hnk : k ∉ ys := fun z => by
      obtain ⟨e, he, q⟩ := (goodS_mem (P := P) (w := w) g k).1 (pm0.mem_iff.mpr z)
      have c := List.findIdx?_eq_none_iff.mp hfi e he
      rw [q] at c
      cases c
    have hgw : ∀ (b : Bool) {s₁ : Shared} {Q' : Unit → Shared → Prop}, Q' () s₁ → wpAny (model P w) A (match b with | true => rule "set.scan.the-table-gave-way" | false => pure ()) Q' E s₁ :=
      fun b s₁ Q' q => by cases b <;> first | exact wpAny_pure q | exact wpAny_rule q
    have c1 := layNew_perm t es ((strKind P w).hash k) (.str k tk)
    have c2 := layNew_fits t es ((strKind P w).hash k) (.str k tk)
    have c3 := layNew_ris t es ((strKind P w).hash k) (.str k tk) hr
    have c4 := layNew_led t es ((strKind P w).hash k) (.str k tk)
    generalize layNew t es ((strKind P w).hash k) (.str k tk) = Z at c1 c2 c3 c4 ⊢
    obtain ⟨es1, t1, wasDummy, gave⟩ := Z
    dsimp only at c1 c2 c3 c4 ⊢
    rw [Array.toList_push] at c1
    have pc : es1.toList.Perm (((strKind P w).hash k, Value.str k tk) :: es.toList) := c1.trans (List.perm_append_singleton _ _)
    have pk : (es1.toList.map keyS).Perm (ins ys k) := by
      unfold ins
      rw [if_neg hnk]
      exact (pc.map keyS).trans (List.Perm.cons k pm0)
    have g1 : ∀ e ∈ es1.toList, GoodS w e := fun e he => by
      rcases List.mem_cons.mp (pc.mem_iff.mp he) with z | z
      · rw [z]; exact ⟨k, tk, rfl, rfl⟩
      · exact g e z
    have hsz : es1.size = ys.length + 1 := by
      rw [← Array.length_toList, pc.length_eq, List.length_cons, ← pm0.length_eq, List.length_map]
    have hb1 : es1.size < scanBound := by rw [hsz]; exact room
    have hled : w.params.followText "set-order" = true ∨ t1.led = true := hl.imp id fun z => by rw [c4]; exact z
    refine wpAny_bind (hgw _ ?_)
    split
    · refine wpAny_bind ?_
      rw [hashByValue_scannable 8 hsc]
      refine wpAny_pure ?_
      refine setT_tail ?_ ho hex hd g1 pk (ins_nodup nd) hb1 ?_ ?_ ?_ ?_
      · intro b s₁ Q' q; cases b <;> first | exact wpAny_pure q | exact wpAny_rule q
      · first | (split <;> first | exact c2 | exact SetTable.fits_plain_off c2) | exact c2
      · first | (split <;> exact c3) | exact c3
      · first | (split <;> exact hled) | exact hled
      · intro h' sb r; dsimp only; exact wpAny_pure (hQ _ h' sb r)
    · refine wpAny_bind (wpAny_pure ?_)
      simp only [↓reduceIte]
      refine setT_tail ?_ ho hex hd g1 pk (ins_nodup nd) hb1 c2 c3 hled ?_
      · intro b s₁ Q' q; cases b <;> first | exact wpAny_pure q | exact wpAny_rule q
      · intro h' sb r; dsimp only; exact wpAny_pure (hQ _ h' sb r)
end
end L2
namespace L2
open PySem PySem.Spec PyProof.Rows PySem.GX
def setFold (xs : List Str) : List Str := xs.foldl ins []
theorem setFold_snoc (xs : List Str) (x : Str) : setFold (xs ++ [x]) = ins (setFold xs) x := by
  unfold setFold
  rw [List.foldl_append]
  rfl
theorem setFold_len : ∀ (n : Nat) (xs : List Str), xs.length = n → (setFold xs).length ≤ n
  | 0, xs, h => by
    have := List.length_eq_zero_iff.mp h
    subst this
    exact Nat.le_refl 0
  | n + 1, xs, h => by
    obtain ⟨ys, y, rfl⟩ : ∃ ys y, xs = ys ++ [y] := ⟨xs.dropLast, xs.getLast (by intro z; rw [z] at h; cases h), (List.dropLast_concat_getLast _).symm⟩
    rw [List.length_append, List.length_singleton] at h
    have h1 := setFold_len n ys (by omega)
    have h2 := ins_len (setFold ys) y
    rw [setFold_snoc]
    omega
section
variable {prog : Program} {w : World} {A : Around} {R : Result → Shared → Prop} {I : Addr} {fp wr : List Addr} {G : Array GenState → Array GenState → Prop} {n : Nat} {Pv : Nat → Value → Prop} {St : Nat → Shared → Prop}
theorem loopT (W : WalksS prog w A.in1 I fp wr G n Pv St) (S : Addr) (hSf : S ∉ fp) (xs : List Str) (hsz : xs.length = n) (hn : n + 1 < scanBound)
    (hval : ∀ i v, Pv i v → ∃ x t, xs[i]? = some x ∧ v = .str x t) :
    ∀ (k i : Nat) (s : Shared), n - i = k → i ≤ n → St i s → SetT w s.heap S (setFold (xs.take i)) →
      (∀ s', Moved (S :: wr) G s s' → SetT w s'.heap S (setFold xs) → R (.ok (.ret .none)) s') →
      codeAny (model prog w) A (.builtin "set.update.loop" ⟨[.ref S, .ref I], []⟩) R s := by
  have hSw : S ∉ wr := fun h => hSf (W.sub _ h)
  have up : ∀ b ∈ wr, b ∈ S :: wr := fun b hb => List.mem_cons_of_mem _ hb
  intro k
  induction k with
  | zero =>
    intro i s hk hi hst hS hR
    have hin : i = n := by omega
    subst hin
    refine codeAny_builtin PyProof.Rows.F.entry_set_update_loop ?_
    rw [Around.under_plainId PyProof.Rows.F.plain_set_update_loop _]
    show wpAny _ A.in1 (pyNext (.ref I) >>= _) _ _ s
    refine wpAny_bind (W.done s _ _ hst fun s' hm => ?_)
    show wpAny _ A.in1 (ret Value.none) _ _ s'
    rw [List.take_of_length_le (by omega)] at hS
    exact wpAny_pure (hR s' (hm.mono up) (hS.at fun o e => hm.heap S _ hSw e))
  | succ k ih =>
    intro i s hk hi hst hS hR
    have hlt : i < n := by omega
    refine codeAny_builtin PyProof.Rows.F.entry_set_update_loop ?_
    rw [Around.under_plainId PyProof.Rows.F.plain_set_update_loop _]
    show wpAny _ A.in1 (pyNext (.ref I) >>= _) _ _ s
    refine wpAny_bind (W.item i s _ _ hlt hst fun v s' hP hst' hm => ?_)
    obtain ⟨x, t, hx, rfl⟩ := hval i v hP
    have hS1 : SetT w s'.heap S (setFold (xs.take i)) := hS.at fun o e => hm.heap S _ hSw e
    show wpAny _ A.in1 (holding [Value.str x t] (setAdd S (.str x t)) >>= _) _ _ s'
    refine wpAny_bind (wpAny_holding ?_)
    unfold setAdd
    refine wpAny_holding ?_
    refine wpAny_bind ((PySem.strKind prog w).pyHash (k := x) (strKind_is _ _ _ _) ?_)
    have lf := setFold_len i (xs.take i) (by rw [List.length_take]; omega)
    refine setT_add (s := { s' with toks := s'.toks + 1 }) hS1 (by omega) fun b h' hsb hS2 => ?_
    have e1 : xs.take (i + 1) = xs.take i ++ [x] := by
      rw [List.take_succ, hx]
      rfl
    have hS3 : SetT w h' S (setFold (xs.take (i + 1))) := by
      rw [e1, setFold_snoc]
      exact hS2
    refine wpAny_pure ⟨plainId_quiet PyProof.Rows.F.plain_set_update_loop _, ih (i + 1) _ (by omega) hlt (W.frame _ s' _ _ hst' (Nat.le_succ _) fun b hb o e => ?_) hS3 fun s'' hm'' hS'' => ?_⟩
    · rw [hsb.2 b (fun h : b = S => hSf (by rw [← h]; exact hb))]
      exact e
    · refine hR s'' (Moved.trans W.gtrans ((hm.mono up).then_heap (Nat.le_succ _) fun b o hb e => ?_) hm'') hS''
      rw [hsb.2 b (fun h : b = S => hb (by rw [h]; exact List.mem_cons_self))]
      exact e
end
section
variable {prog : Program} {w : World} {A : Around} {E : Value → Shared → Prop} {s : Shared}
abbrev newSet (w : World) : Obj := { cls := .type "set", dict := none, data := .set #[] 0 (.fresh 0 0 (!w.params.followText "set-order")) }
theorem setT_fresh {h : Heap} (w : World) : SetT w (h.push (newSet w)) h.objs.size [] :=
  ⟨_, #[], 0, _, Heap.get?_push_size _ rfl, ⟨rfl, rfl, rfl⟩, rfl, (fun e he => by simp at he), List.Perm.refl _, List.nodup_nil, (by decide), (by rfl), List.Pairwise.nil, by
    show _ ∨ (!w.params.followText "set-order") = true
    cases w.params.followText "set-order"
    · exact .inr rfl
    · exact .inl rfl⟩
theorem code_setNew (a : Value) {Q1 : Value → Shared → Prop} (h : Q1 (.ref s.heap.objs.size) { s with heap := s.heap.push (newSet w) }) :
    codeAny (model prog w) A (.call (.builtin "set.__new__") ⟨[.type "set", a], []⟩) (wants Q1 E) s := by
  refine codeAny_of_tree ?_
  show wpAny _ A.in1 (do checkBuiltinCall "set.__new__" ⟨[.type "set", a], []⟩; again (.builtin "set.__new__" ⟨[.type "set", a], []⟩)) _ _ s
  refine wpAny_bind (wpAny_of_eq (F.newCall_set_1 a) (wpAny_pure ⟨plainId_quiet F.plain_set_new _, codeAny_builtin F.entry_set_new ?_⟩))
  rw [Around.under_plainId F.plain_set_new _]
  unfold Builtin.«set.__new__» Builtin.Frozenset.newClass
  have hsub := sub_set_self
  obtain ⟨hp, g, d, tk, os⟩ := s
  dsimp only
  wp_walk
  refine wpAny_askSetting (wpAny_pure ?_)
  dsimp only
  simp only [newObj]
  refine wpAny_bind (wpAny_alloc (wpAny_pure ?_))
  exact wpAny_pure h
theorem sub_str_set : isSubtype (.type "str") (.type "set") = pure false := by
  rw [isSubtype_type]; kernel_rfl
theorem sub_str_frozenset : isSubtype (.type "str") (.type "frozenset") = pure false := by
  rw [isSubtype_type]; kernel_rfl
/-- set(x): the new set, then the iterable's items (hinit: what set.__init__ does) -/
theorem call_set1 {v : Value} {ys : List Str} {Q : Value → Shared → Prop}
    (hinit : ∀ (R : Result → Shared → Prop), (∀ h' tk, SetT w h' s.heap.objs.size ys → (∀ b o, b < s.heap.objs.size → s.heap.get? b = some o → h'.get? b = some o) → R (.ok (.ret .none)) { s with heap := h', toks := tk }) →
      wpAny (model prog w) A.in1.in1 (Builtin.«set.__init__» ⟨[.ref s.heap.objs.size, v], []⟩) (fun fin s' => match fin with | .done f => R (.ok f) s' | .again c => c.quiet = true ∧ codeAny (model prog w) A.in1 c R s')
        (fun e s' => R (.error e) s') { s with heap := s.heap.push (newSet w) })
    (h : ∀ (h' : Heap) (tk : Nat), SetT w h' s.heap.objs.size ys → (∀ b o, b < s.heap.objs.size → s.heap.get? b = some o → h'.get? b = some o) → Q (.ref s.heap.objs.size) { s with heap := h', toks := tk }) :
    wpAny (model prog w) A (call (.type "set") [v]) Q E s := by
  obtain ⟨c, tl, hmro⟩ := PySem.F.called_set.mro
  have z1 := PySem.F.called_set.made
  have z2 := PySem.F.called_set.sub
  refine wpAny_call (codeAny_of_tree ?_)
  show wpAny _ _ (callAny (.type "set") _) _ _ _
  refine wpAny_pure ⟨Code.quiet_builtin _ (by decide +kernel), codeAny_builtin PySem.F.entry_type_call ?_⟩
  rw [Around.under_plain (weight_type_call_type "set" [v] []) rfl]
  have z3 := PySem.F.called_set.notType
  have z4 := PySem.F.called_set.canCreate
  have z5 := F.typeCall_set_1 v
  repeat (any_goals (first | assumption | wp_step))
  refine codeAny_mono (code_setNew v (E := E) (Q1 := fun obj s₁ => obj = .ref s.heap.objs.size ∧ s₁ = { s with heap := s.heap.push (newSet w) }) ⟨rfl, rfl⟩) fun r s₁ hr => ?_
  cases r with
  | error e => exact hr
  | ok fl =>
    cases fl with
    | ret obj =>
      obtain ⟨rfl, rfl⟩ := hr
      have hS : (s.heap.push (newSet w)).get? s.heap.objs.size = some (newSet w) := Heap.get?_push_size _ rfl
      have hT : Shared.TypeIs { s with heap := s.heap.push (newSet w) } (.ref s.heap.objs.size) "set" := ⟨_, hS, rfl⟩
      have z6 := PySem.F.called_set.init.lookup
      have z7 := PySem.F.called_set.init.bind (.ref s.heap.objs.size)
      repeat (any_goals (first | assumption | wp_step))
      refine codeAny_mono (codeAny_call_builtin (R := wants (fun r s₂ => r = .none ∧ ∃ h' tk, s₂ = { s with heap := h', toks := tk } ∧ SetT w h' s.heap.objs.size ys ∧ (∀ b o, b < s.heap.objs.size → s.heap.get? b = some o → h'.get? b = some o)) E)
        PySem.F.called_set.init.plain PySem.F.entry_set_init (check_set_init_1 hT ?_)) fun r₂ s₂ hr₂ => ?_
      · refine hinit (wants (fun r s₂ => r = .none ∧ ∃ h' tk, s₂ = { s with heap := h', toks := tk } ∧ SetT w h' s.heap.objs.size ys ∧ (∀ b o, b < s.heap.objs.size → s.heap.get? b = some o → h'.get? b = some o)) E) ?_
        exact fun h' tk a1 a2 => ⟨rfl, h', tk, rfl, a1, a2⟩
      · cases r₂ with
        | error e => exact hr₂
        | ok fl₂ =>
          cases fl₂ with
          | ret r =>
            obtain ⟨rfl, h', tk, rfl, b1, b2⟩ := hr₂
            repeat (any_goals (first | assumption | wp_step))
            exact h _ _ b1 b2
          | _ => exact hr₂.elim
    | _ => exact hr.elim
end
end L2
namespace L2
open PySem PySem.Spec PyProof.Rows PySem.GX
section
variable {prog : Program} {w : World} {A : Around} {E : Value → Shared → Prop} {s : Shared}
theorem init_str {x : Str} {t : Tok} (hh : A.handled = none) (hz : x.length + 1 < scanBound) (R : Result → Shared → Prop)
    (hR : ∀ h' tk, SetT w h' s.heap.objs.size (setFold (x.cps.toList.map fun c => ⟨#[c]⟩)) → (∀ b o, b < s.heap.objs.size → s.heap.get? b = some o → h'.get? b = some o) → R (.ok (.ret .none)) { s with heap := h', toks := tk }) :
    wpAny (model prog w) A.in1.in1 (Builtin.«set.__init__» ⟨[.ref s.heap.objs.size, .str x t], []⟩) (fun fin s' => match fin with | .done f => R (.ok f) s' | .again c => c.quiet = true ∧ codeAny (model prog w) A.in1 c R s')
      (fun e s' => R (.error e) s') { s with heap := s.heap.push (newSet w) } := by
  have hS : (s.heap.push (newSet w)).get? s.heap.objs.size = some (newSet w) := Heap.get?_push_size _ rfl
  have y1 := sub_str_set
  have y2 := sub_str_frozenset
  have y3 : (Value.type "str" == Value.type "dict") = false := by decide
  have hT0 : Shared.TypeIs { s with heap := s.heap.push (newSet w) } (.str x t) "str" := typeIs_str _ _ _
  unfold Builtin.«set.__init__» noKeywords Builtin.Frozenset.updateFrom
  generalize hPI : pyIter = PI
  wp_walk
  subst hPI
  refine wpAny_pyIter_str (s := { s with heap := s.heap.push (newSet w) }) (fun o St W hst => ?_)
  refine wpAny_bind (wpAny_runValue ?_)
  have z1 : (s.heap.push (newSet w)).objs.size = s.heap.objs.size + 1 := Heap.size_push _ _
  have hSf : s.heap.objs.size ∉ [(s.heap.push (newSet w)).objs.size] := by
    rw [z1]
    simp only [List.mem_singleton]
    omega
  have hsz : (x.cps.toList.map fun c => (⟨#[c]⟩ : Str)).length = x.cps.size := by
    rw [List.length_map, Array.length_toList]
  refine loopT ((W A.in1.in1.in1 (by simp [hh])).toS) s.heap.objs.size hSf (x.cps.toList.map fun c => ⟨#[c]⟩) hsz hz (fun i v hv => ?_) (x.cps.size - 0) 0 _ (by omega) (Nat.zero_le _) hst ?_ ?_
  · obtain ⟨c, u, hc, rfl⟩ := hv
    exact ⟨_, u, by rw [List.getElem?_map, Array.getElem?_toList, hc]; rfl, rfl⟩
  · exact (setT_fresh w).at fun u e => Heap.get?_push_of_some _ e
  · intro s' hm hS'
    obtain ⟨h', g', d', tk', os'⟩ := s'
    have eg : g' = s.gens := hm.gens
    have ed : d' = s.drawn := hm.drawn
    have eo : os' = s.os := hm.os
    subst eg; subst ed; subst eo
    show wpAny _ _ _ _ _ _
    refine wpAny_pure ?_
    show wpAny _ _ (ret Value.none) _ _ _
    refine wpAny_pure (hR h' tk' hS' fun b u hb e => ?_)
    refine hm.heap b u (fun hmem => ?_) (Heap.get?_push_of_some _ (Heap.get?_push_of_some _ e))
    rcases List.mem_cons.mp hmem with q | q
    · exact absurd (q ▸ hb) (Nat.lt_irrefl _)
    · have q2 := List.mem_singleton.mp q
      rw [z1] at q2
      exact absurd (Nat.lt_succ_of_lt (q2 ▸ hb)) (Nat.lt_irrefl _)
theorem init_list {l : Addr} {items : Array Value} {xs : List Str} (hh : A.handled = none) (hl : s.heap.IsList l items) (hi : PyProof.Rows.StrsAre items.toList xs) (hz : xs.length + 1 < scanBound) (R : Result → Shared → Prop)
    (hR : ∀ h' tk, SetT w h' s.heap.objs.size (setFold xs) → (∀ b o, b < s.heap.objs.size → s.heap.get? b = some o → h'.get? b = some o) → R (.ok (.ret .none)) { s with heap := h', toks := tk }) :
    wpAny (model prog w) A.in1.in1 (Builtin.«set.__init__» ⟨[.ref s.heap.objs.size, .ref l], []⟩) (fun fin s' => match fin with | .done f => R (.ok f) s' | .again c => c.quiet = true ∧ codeAny (model prog w) A.in1 c R s')
      (fun e s' => R (.error e) s') { s with heap := s.heap.push (newSet w) } := by
  have hS : (s.heap.push (newSet w)).get? s.heap.objs.size = some (newSet w) := Heap.get?_push_size _ rfl
  obtain ⟨ol, hol, hcl, nl, hdl⟩ := hl
  obtain ⟨ocls, odict, odata, oslots⟩ := ol
  simp only at hcl hdl
  subst hcl; subst hdl
  have hol1 : (s.heap.push (newSet w)).get? l = some { cls := .type "list", dict := odict, data := .seq items nl, slots := oslots } := Heap.get?_push_of_some _ hol
  have y1 := F.sub_list_set
  have y2 := F.sub_list_frozenset
  have y3 : (Value.type "list" == Value.type "dict") = false := by decide
  have hl1 : (s.heap.push (newSet w)).IsList l items := ⟨_, hol1, rfl, nl, rfl⟩
  unfold Builtin.«set.__init__» noKeywords Builtin.Frozenset.updateFrom
  generalize hPI : pyIter = PI
  wp_walk
  subst hPI
  refine wpAny_pyIter_list hl1 ?_
  refine wpAny_bind (wpAny_runValue ?_)
  have z1 : (s.heap.push (newSet w)).objs.size = s.heap.objs.size + 1 := Heap.size_push _ _
  have hlS : l < s.heap.objs.size := Heap.lt_size hol
  have hneI : l ≠ (s.heap.push (newSet w)).objs.size := by
    rw [z1]; exact Nat.ne_of_lt (Nat.lt_succ_of_lt hlS)
  have hSf : s.heap.objs.size ∉ [(s.heap.push (newSet w)).objs.size, l] := by
    rw [z1]
    simp only [List.mem_cons, List.mem_singleton, List.not_mem_nil, or_false, not_or]
    exact ⟨Nat.ne_of_lt (Nat.lt_succ_self _), Nat.ne_of_gt hlS⟩
  have hsz : xs.length = items.size := by
    rw [← StrsAre.len_eq hi, Array.length_toList]
  have hval : ∀ (i : Nat) (v : Value), items[i]? = some v → ∃ x t, xs[i]? = some x ∧ v = .str x t := fun i v hv => by
    have hlt : i < items.size := (Array.getElem?_eq_some_iff.mp hv).1
    obtain ⟨t, e⟩ := SS.strs_at hi i v (by rw [Array.getElem?_toList]; exact hv)
    have hx : xs[i]? = some (xs.getD i Str.empty) := by
      rw [List.getD_eq_getElem?_getD, List.getElem?_eq_getElem (by omega)]
      rfl
    exact ⟨_, t, hx, e⟩
  refine loopT ((Walks.list (A := A.in1.in1.in1) (by simp [hh]) _ l hneI items).toS) s.heap.objs.size hSf xs hsz (by omega) hval (items.size - 0) 0 _ (by omega) (Nat.zero_le _) ⟨⟨_, Heap.get?_push_size _ rfl, rfl, rfl⟩, (hl1.push _)⟩ ?_ ?_
  · exact (setT_fresh w).at fun u e => Heap.get?_push_of_some _ e
  · intro s' hm hS'
    obtain ⟨h', g', d', tk', os'⟩ := s'
    have eg : g' = s.gens := hm.gens
    have ed : d' = s.drawn := hm.drawn
    have eo : os' = s.os := hm.os
    subst eg; subst ed; subst eo
    show wpAny _ _ _ _ _ _
    refine wpAny_pure ?_
    show wpAny _ _ (ret Value.none) _ _ _
    refine wpAny_pure (hR h' tk' hS' fun b u hb e => ?_)
    refine hm.heap b u (fun hmem => ?_) (Heap.get?_push_of_some _ (Heap.get?_push_of_some _ e))
    rcases List.mem_cons.mp hmem with q | q
    · exact absurd (q ▸ hb) (Nat.lt_irrefl _)
    · have q2 := List.mem_singleton.mp q
      rw [z1] at q2
      exact absurd (Nat.lt_succ_of_lt (q2 ▸ hb)) (Nat.lt_irrefl _)
end
end L2
namespace L2
open PySem PySem.Spec PyProof.Rows PySem.GX
/-- the signs of a text, each as a text -/
def signsOf (x : Str) : List Str := x.cps.toList.map fun c => ⟨#[c]⟩
/-- the set of texts at a, its members ys -/
def SetTx (w : World) (a : Addr) (ys : List Str) : HO := .ext fun h => SetT w h a ys
theorem setTx_new {w : World} {P : Program} {H : Hp} {h : Heap} {a : Addr} {ys : List Str} (R : SetT w h a ys) : ObjOk P w H h a (SetTx w a ys) := by
  have ⟨o, _, _, _, ho, _⟩ := R
  exact ⟨R, ⟨o, ho⟩, fun h1 h2 p k => p.at k⟩
theorem strs_list : ∀ {l : List Value}, (∀ v ∈ l, ∃ k tk, v = Value.str k tk) → ∃ ss, StrsAre l ss ∧ ss = l.map (fun v => keyS (0, v))
  | [], _ => ⟨[], .nil, rfl⟩
  | v :: l, h => by
    obtain ⟨k, tk, rfl⟩ := h v List.mem_cons_self
    obtain ⟨ss, a, b⟩ := strs_list (l := l) fun u hu => h u (List.mem_cons_of_mem _ hu)
    exact ⟨k :: ss, .cons k tk a, by rw [b]; rfl⟩
section
variable {P : Program} {w : World} {A : Around} {E : Value → Shared → Prop} {s : Shared} {a : Addr} {ys : List Str}
theorem sorted_setT {Q : Value → Shared → Prop} (R : SetT w s.heap a ys) (hh : A.handled = none)
    (hQ : ∀ s' p (out : Array Value) (c : Nat) (zs : List Str), (∀ b o, s.heap.get? b = some o → s'.heap.get? b = some o) → s'.gens = s.gens → s'.os = s.os → s.heap.objs.size ≤ p →
      s'.heap.get? p = some (seqObj "list" out c) → StrsAre out.toList zs → zs.Perm ys → sortedS zs = true → Q (.ref p) s') :
    wpAny (model P w) A (call (.builtin "sorted") [.ref a]) Q E s := by
  obtain ⟨o, es, ep, t, ho, hex, hd, g, pm0, nd, hb, hf, hr, hl⟩ := R
  refine Calls.call_function_entry kind_sorted plain_sorted entry_sorted (args_sorted1 _) ?_
  unfold Builtin.«sorted»
  refine wpAny_bind (m := checkCount "sorted" 1 1 _) (wpAny_pure ?_)
  refine wpAny_bind (collect_set (A := A.in1) hh ⟨o, ho, hex.1, hd⟩ hf hb hr hl fun s1 vs k1 hz g1 o1 pm => ?_)
  have hvl : vs.length = es.size := by
    rw [pm.length_eq, List.length_map, Array.length_toList]
  obtain ⟨ss, hS, hss⟩ := strs_list (l := vs) fun v hv => by
    obtain ⟨e, he, q⟩ := List.mem_map.mp (pm.mem_iff.mp hv)
    obtain ⟨k, tk, h1, _⟩ := g e he
    exact ⟨k, tk, by rw [← q]; exact h1⟩
  have ps : ss.Perm ys := by
    have q := pm.map (fun v => keyS (0, v))
    rw [List.map_map, ← hss] at q
    exact q.trans pm0
  have small : vs.length ≤ sizeLine := by
    rw [hvl]
    exact fits_of_scanBound hb
  refine wpAny_bind (wpAny_newList ?_ small)
  have hoL : (s1.heap.push (seqObj "list" vs.toArray 0)).get? s1.heap.objs.size = some (seqObj "list" vs.toArray 0) := Heap.get?_push_size _ rfl
  refine wpAny_bind (wpAny_holding (wpAny_call_entry slot_list_sort ⟨_, hoL, rfl⟩ entry_list_sort
    (list_sort_treeKAny PyProof.Rows.strKind_oneLt hoL hS.keysOf (fun v₁ v₂ rest e => keyKind_strs (by rw [← e]; exact hS)) small fun st' a1 a2 => ⟨_, rfl, ?_⟩) (args_list_sort _)))
  obtain ⟨zs, h1, h2, h3⟩ := sorted_out_str hS a1 a2
  obtain ⟨c, hc⟩ := sortedHeap_at (vs := vs) (out := (arrOf st').map (·.2)) hoL
  refine wpAny_pure ⟨_, rfl, hQ _ s1.heap.objs.size _ c zs (fun b u e => ?_) g1 o1 hz hc h1 (h2.trans ps) h3⟩
  have q := k1 b u e
  have hlt := Heap.lt_size q
  show (sortedHeap (s1.heap.push (seqObj "list" vs.toArray 0)) s1.heap.objs.size vs _).get? b = some u
  rw [sortedHeap_old (Nat.ne_of_lt hlt) (by rw [size_push']; exact Nat.lt_succ_of_lt hlt)]
  exact Heap.get?_push_of_some _ q
end
section
variable {X : Cx}
/-- set(text) -/
def rSetS (w : World) : List V → Hp → VK → Prop := fun xs H Q => ∃ x : Str, xs = [.str x] ∧ x.length < 4000 ∧ ∀ p, H p = none → Q (.ref p) (upd H p (SetTx w p (setFold (signsOf x))))
theorem cr_setS (hc : X.calm = true) : CallR X (.type "set") (rSetS X.w) := by
  intro pins s σ H xs us Q I r h
  obtain ⟨x, rfl, hz, q⟩ := h
  obtain ⟨u, rfl, t, rfl⟩ := vals1 r
  refine call_set1 (ys := setFold (signsOf x)) (fun R hR => init_str (I.ok.hd hc) (by unfold scanBound; omega) R hR) fun h' tk hS k => ?_
  exact ⟨.ref _, upd H s.heap.objs.size (SetTx X.w s.heap.objs.size (setFold (signsOf x))), I.laid (t' := tk) (fun b u e => k b u (Heap.lt_size e) e) (Nat.le_refl _) (setTx_new hS), rfl, q _ (I.hok.fresh (Nat.le_refl _))⟩
/-- set(list of texts) -/
def rSetTxL (K : PySem.W.Frag) (w : World) : List V → Hp → VK → Prop := fun vs H Q => ∃ (l : Addr) (xs : List Str), vs = [.ref l] ∧ SqL K H l (xs.map V.str) ∧ xs.length < 4000 ∧ ∀ p, H p = none → Q (.ref p) (upd H p (SetTx w p (setFold xs)))
theorem cr_setL (hc : X.calm = true) : CallR X (.type "set") (rSetTxL X.K X.w) := by
  intro pins s σ H vs us Q I r h
  obtain ⟨l, xs, rfl, hq, hz, q⟩ := h
  obtain ⟨its, rv, pl, _⟩ := I.list hq
  rw [Vals.ref1 r]
  refine call_set1 (ys := setFold xs) (fun R hR => init_list (I.ok.hd hc) pl.isList (by simpa using strsAre_of rv) (by unfold scanBound; omega) R hR) fun h' tk hS k => ?_
  exact ⟨.ref _, upd H s.heap.objs.size (SetTx X.w s.heap.objs.size (setFold xs)), I.laid (t' := tk) (fun b u e => k b u (Heap.lt_size e) e) (Nat.le_refl _) (setTx_new hS), rfl, q _ (I.hok.fresh (Nat.le_refl _))⟩
/-- len(set of texts) -/
def rLenSet (w : World) : List V → Hp → VK → Prop := fun vs H Q => ∃ (a : Addr) (ys : List Str), vs = [.ref a] ∧ H a = some (SetTx w a ys) ∧ Q (.int ys.length) H
theorem cr_lenSet : CallR X (.builtin "len") (rLenSet X.w) := by
  intro pins s σ H vs us Q I r h
  obtain ⟨a, ys, rfl, ha, q⟩ := h
  rw [Vals.ref1 r]
  obtain ⟨o, es, ep, t, ho, hex, hd, g, pm0, nd, hb, hf, hr, hl⟩ := (I.hok a _ ha).1
  have hn : es.size = ys.length := by
    rw [← pm0.length_eq, List.length_map, Array.length_toList]
  refine call_len_set ho hex hd hf (by unfold scanBound at hb; omega) ⟨.int ys.length, H, I.tok _, ⟨_, by rw [hn]⟩, q⟩
/-- sorted(set of texts) -/
def rSortedTx (w : World) : List V → Hp → VK → Prop := fun vs H Q => ∃ (a : Addr) (ys : List Str), vs = [.ref a] ∧ H a = some (SetTx w a ys) ∧
  ∀ (zs : List Str) (p : Addr), zs.Perm ys → sortedS zs = true → H p = none → Q (.ref p) (upd H p (.lst (zs.map V.str)))
theorem cr_sortedTx (hc : X.calm = true) : CallR X (.builtin "sorted") (rSortedTx X.w) := by
  intro pins s σ H vs us Q I r h
  obtain ⟨a, ys, rfl, ha, q⟩ := h
  rw [Vals.ref1 r]
  have R : SetT X.w s.heap a ys := (I.hok a _ ha).1
  have small : ys.length ≤ sizeLine := by
    obtain ⟨o, es, ep, t, ho, hex, hd, g, pm0, nd, hb, _⟩ := R
    rw [← pm0.length_eq, List.length_map, Array.length_toList]
    exact fits_of_scanBound hb
  refine sorted_setT R (I.ok.hd hc) fun s' p out c zs k g1 o1 hp he hS pm so => ?_
  obtain ⟨h', g', d', tk', os'⟩ := s'
  have hlen : (zs.map V.str).length ≤ sizeLine := by
    rw [List.length_map, pm.length_eq]; exact small
  have J : Inv X pins σ (upd H p (.lst (zs.map V.str))) ⟨h', g', d', tk', os'⟩ := by
    have hn := I.hok.fresh hp
    have u : Un (frs X.stack) [] H (upd H p (.lst (zs.map V.str))) s.heap h' := Un.laid k hp hn
    refine I.call' (ch := []) o1 u ?_ ?_ (fun b z => absurd z (by simp))
    · exact I.hok.laid k hp ⟨hlen, out.toList, c, vals_of_strs hS, he⟩
    · have e : g' = s.gens := g1
      rw [e]; exact I.bare
  exact ⟨.ref p, _, J, rfl, q zs p pm so (I.hok.fresh hp)⟩
end
end L2
namespace L2
open PySem PySem.Spec PyProof.Rows PySem.GX
/-! a dict comprehension whose keys are tuples of ints and texts -/
section
variable {X : Cx} {pl : List (Addr × Obj)} {σ : St} {H : Hp} {s : Shared} {D t : Addr} {kvs : List (List Key × V)} {k : List Key} {v : V}
/-- the store of one turn -/
theorem dictSet_tup {Er : Value → Shared → Prop} {kv vv : Value} {Q : Unit → Shared → Prop} (room : X.A.units < cLine) (I : Inv X pl σ H s) (eD : H D = some (.dT kvs)) (et : H t = some (.tup (k.map kV))) (few : kvs.length < sizeLine)
    (rk : RelV (.ref t) kv) (rv : RelV v vv) (go : ∀ s', Inv X pl σ (upd H D (.dT (putK kvs k v))) s' → Q () s') : wpAny (model X.prog X.w) X.A (dictSet D kv vv) Q Er s := by
  have ekv : kv = Value.ref t := rk
  subst ekv
  obtain ⟨len0, nosys, xs, rel, dict⟩ := dt_of I.hok eD
  have len1 : xs.length ≤ sizeLine := by
    rw [← Paired.length rel]
    exact len0
  have len2 : (putK kvs k v).length ≤ sizeLine := by
    have grows := length_putK kvs k v
    omega
  have hroom : (tupleKind (mixKind X.prog X.w)).room X.A := room
  refine wpAny_dictSet_heap (hsz := len1) hroom (key_of I.hok et) dict fun h' dict' same => go _ ?_
  obtain ⟨o, es, ep, ho, c1, c2, c3, _, c4⟩ := dict'
  refine d_write I (by rw [eD]; trivial) same ⟨o, ho⟩ ⟨len2, nosys, _, (rel.put k et rv).keeps fun c ys ec => ?_, o, es, ep, ho, c1, c2, c3, c4⟩
  rw [upd_ne (ne_of ec eD (fun z => nomatch z))]
  exact ec
end
/-- {(..): v for target in iter if ..}: D is the new dict -/
def tDcT (wi : TI) (g : TG) (tt : TT) (tk tv : TE) (vs : List Nat) : TE := fun σ H Q => wi σ H fun J H1 => ∀ D, H1 D = none → ∃ W : Nat → Nat → Hp → Prop, (∃ m, W 0 m (upd H1 D (.dT []))) ∧ ∀ i m H, W i m H →
  (J.stop i H ∧ Q (.ref D) H) ∨ (J.go i H ∧ ∃ On : Hp → Prop, (∀ H', On H' → ∃ m', m' < m ∧ W (i + 1) m' H') ∧ ∀ x H', J.yld i H x H' → g x (wipe σ vs) H' fun σ2 H2 => wipe σ2 vs = wipe σ vs ∧ tt σ2 H2 fun b H3 =>
    if b = true then tk σ2 H3 fun y H4 => tv σ2 H4 fun z H5 => ∃ kvs k t, y = .ref t ∧ H5 t = some (.tup (k.map kV)) ∧ H5 D = some (.dT kvs) ∧ kvs.length < sizeLine ∧ On (upd H5 D (.dT (putK kvs k z))) else On H3)
section
variable {X : Cx} {kx vx tg iter : Expr} {ifs : List Expr} {scope : Scope} {own : List (Str × Nat)} {pos : Pos} {wi : TI} {g : TG} {tt : TT} {tk tv : TE}
theorem pe_dcT (hr : X.A.units + 64 < cLine) (calm : X.calm = true) (hN : X.N.Nodup) (hi : PI X tg iter wi) (ok : BlkOk X.N X.env.scope scope own)
    (hg : ∀ (s : Shared) (H : Hp) (C : Addr) (cl : List (Str × Addr)) (fp : List Addr), PG (X.blk s H scope (compEnvC scope cl C X.env) fp) tg g)
    (ht : ∀ (s : Shared) (H : Hp) (C : Addr) (cl : List (Str × Addr)) (fp : List Addr), PTs (X.blk s H scope (compEnvC scope cl C X.env) fp) ifs tt)
    (hk : ∀ (s : Shared) (H : Hp) (C : Addr) (cl : List (Str × Addr)) (fp : List Addr), PE (X.blk s H scope (compEnvC scope cl C X.env) fp) kx tk)
    (hv : ∀ (s : Shared) (H : Hp) (C : Addr) (cl : List (Str × Addr)) (fp : List Addr), PE (X.blk s H scope (compEnvC scope cl C X.env) fp) vx tv)
    (hs : ∀ x, foldedSetIterable iter X.env x = pure x := by intro _; rfl) :
    PE X (.DictComp kx vx [⟨tg, iter, ifs, 0⟩] scope pos) (tDcT wi g tt tk tv (own.map (·.2))) := by
  refine ⟨fun pl s σ H Q I h => ?_⟩
  rw [arm_eval_DictComp]
  have frees : ∀ y ∈ scope.names, y.2 = .free → ∃ c, X.env.cells.lookup y.1 = some c := fun y hy e => by
    rcases ok.free y hy e with k | k
    · exact I.ok.has _ (.inl k)
    · exact I.ok.has _ (.inr k)
  refine wpAny_comprehension_free rfl hs (closure_ok frees) ok.kind (fun y hy e => by rw [ok.uniq y hy, e]) (thn (hi.run pl s σ H _ I h) fun _ sa ha => thn ha fun _ sb hb => ?_)
  obtain ⟨it, fp, tn, J, Hb, rfl, Ib, T, tb, okb, want⟩ := hb
  refine wpAny_newObj_type (newEnv_comp ?_)
  -- the new dict
  generalize eD : sb.heap.objs.size = D
  have freeD : Hb D = none := Ib.hok.fresh (Nat.le_of_eq eD)
  obtain ⟨W, ⟨m0, begins⟩, turn⟩ := want D freeD
  generalize esc : ({ sb with heap := sb.heap.push { cls := .type "dict", data := .dict #[] } } : Shared) = sc
  have hsc : sc.heap = sb.heap.push { cls := .type "dict", data := .dict #[] } := by rw [← esc]
  have Ic : Inv X pl σ (upd Hb D (.dT [])) sc := by
    rw [← esc]
    refine Ib.laid (t' := sb.toks) (fun b o e => Heap.get?_push_of_some _ e) (Nat.le_of_eq eD) ?_
    rw [← eD]
    exact dt_empty sb.heap Ib.big
  have old : ∀ b ∈ fp, b < sb.heap.objs.size := fun b hb => by
    obtain ⟨o, e, _⟩ := T.obj _ _ tb b hb
    exact Heap.lt_size e
  have okc : ∀ b ∈ fp, FpOk X pl (upd Hb D (.dT [])) b ∧ b < sc.heap.objs.size := fun b hb => by
    have lt := old b hb
    refine ⟨⟨?_, (okb b hb).2⟩, ?_⟩
    · rw [upd_ne (by rw [← eD]; exact Nat.ne_of_lt lt)]
      exact (okb b hb).1
    · rw [hsc, Heap.size_push]
      exact Nat.lt_succ_of_lt lt
  have tc : tn 0 sc.heap := T.keep _ _ _ tb fun b _ o e => by
    rw [hsc]
    exact Heap.get?_push_of_some _ e
  -- the block
  have Id := block_start Ic ok hN okc
  have g1 := hg sc (upd Hb D (.dT [])) sc.heap.objs.size (cellsFrom (sc.heap.objs.size + 1) scope.names (cloFrom X.env.cells scope.names [])) fp
  have g2 := ht sc (upd Hb D (.dT [])) sc.heap.objs.size (cellsFrom (sc.heap.objs.size + 1) scope.names (cloFrom X.env.cells scope.names [])) fp
  have g3 := hk sc (upd Hb D (.dT [])) sc.heap.objs.size (cellsFrom (sc.heap.objs.size + 1) scope.names (cloFrom X.env.cells scope.names [])) fp
  have g4 := hv sc (upd Hb D (.dT [])) sc.heap.objs.size (cellsFrom (sc.heap.objs.size + 1) scope.names (cloFrom X.env.cells scope.names [])) fp
  show codeAny _ _ (.compStart (.DictComp kx vx [⟨tg, iter, ifs, 0⟩] scope pos) 0 (.ref it) (.ref D) (compEnvC scope (cellsFrom (sc.heap.objs.size + 1) scope.names (cloFrom X.env.cells scope.names [])) sc.heap.objs.size X.env)) _
    { sc with heap := pushCells (sc.heap.push { cls := .type "dict", data := .dict #[] }) scope.names }
  have hid : ∀ b ∈ fp, (upd Hb D (.dT [])) b = none := fun b hb => (okc b hb).1.1
  generalize eenv : compEnvC scope (cellsFrom (sc.heap.objs.size + 1) scope.names (cloFrom X.env.cells scope.names [])) sc.heap.objs.size X.env = env at Id g1 g2 g3 g4 ⊢
  have eloc : env.locals = sc.heap.objs.size := by subst eenv; rfl
  generalize eHc : upd Hb D (.dT []) = Hc at Ic Id g1 g2 g3 g4 begins hid okc
  generalize esd : ({ sc with heap := pushCells (sc.heap.push { cls := .type "dict", data := .dict #[] }) scope.names } : Shared) = sd at Id ⊢
  have td : tn 0 sd.heap := T.keep _ _ _ tc fun b _ o e => by
    rw [← esd]
    exact pushCells_keeps _ _ _ _ (Heap.get?_push_of_some _ e)
  have fpOk : ∀ {σ' : St} {H' : Hp} {s' : Shared}, Inv (X.blk sc Hc scope env fp) [] σ' H' s' → (∀ b ∈ fp, H' b = none) → ∀ b ∈ fp, FpOk (X.blk sc Hc scope env fp) [] H' b := fun {σ' H' s'} I' free b hb => by
    refine ⟨free b hb, (I'.ok.exf b hb).1, I'.ok.exfs b hb, .inl hb, fun x c e => (I'.ok.exf b hb).2 x c e, fun p hp => ?_⟩
    exact absurd (show p ∈ ([] : List (Addr × Obj)) ++ [] from hp) (by simp)
  refine codeAny_compStart_dict ?lp (T.self X.A 0 _ _ _ td ?lp)
  refine compLoop_anyD (fun n s' => ∃ i H', Inv (X.blk sc Hc scope env fp) [] (wipe σ (own.map (·.2))) H' s' ∧ tn i s'.heap ∧ (∀ b ∈ fp, H' b = none) ∧ W i n H') ?_ m0 ⟨0, Hc, Id, td, hid, begins⟩
  rintro n se ⟨i, He, Ie, te, free, at_⟩
  rcases turn i n He at_ with ⟨stop, wish⟩ | ⟨goes, On, next, step⟩
  · refine thnF (T.done (X.blk sc Hc scope env fp) rfl rfl rfl calm i [] se _ He (fun _ _ => False) Ie (fpOk Ie free) te stop) fun r sf ⟨hr, If⟩ => ?_
    subst hr
    have back : Inv X pl σ He sf := Ic.call' (ch := fp) If.os If.base If.hok If.bare fun b hb => ⟨(okc b hb).1.2.2.2.1, (okc b hb).1.2.1, (okc b hb).1.2.2.2.2.1, (okc b hb).1.2.2.2.2.2⟩
    have noC : He sc.heap.objs.size = none := by
      have z : He env.locals = none := If.free
      rw [eloc] at z
      exact z
    obtain ⟨m, hn, _⟩ := If.loc
    have hn' : sf.heap.Ns env.locals m := hn
    rw [eloc] at hn'
    obtain ⟨f0, f1, f2, f3, f4, f5⟩ := Ic.fpOk (Nat.le_refl _) noC
    exact ⟨m, hn', fun h'' sb' => ⟨.ref D, He, back.turned (t' := sf.toks) (fun b o hb e => (sb'.2 b hb).trans e) f0 f1 f3 f4 f5, rfl, wish⟩⟩
  · refine thnF (T.item (X.blk sc Hc scope env fp) rfl rfl rfl calm i [] se _ He (fun _ _ => False) Ie (fpOk Ie free) te goes) fun r sf ⟨u, hr, hf⟩ => ?_
    subst hr
    refine thnF hf fun _ sg ⟨x, Hg, Ig, rg, yg, tg', freeg⟩ => ?_
    have pinned := Ig.pinned (fpOk Ig freeg) (T.obj _ _ tg')
    refine thnF (g1.run _ sg _ Hg x u _ pinned rg (step x Hg yg)) fun _ sh ⟨σh, Hh, Ih, wh, qh⟩ => ?_
    refine thnF (g2.run _ sh σh Hh _ Ih qh) fun b si ⟨Hi, Ii, qi⟩ => ?_
    have ends : ∀ {s' : Shared} {H' : Hp}, Inv (X.blk sc Hc scope env fp) ([] ++ pinsAt fp sg.heap) σh H' s' → On H' →
        ∃ m, m < n ∧ ∃ i H', Inv (X.blk sc Hc scope env fp) [] (wipe σ (own.map (·.2))) H' s' ∧ tn i s'.heap ∧ (∀ b ∈ fp, H' b = none) ∧ W i m H' := fun {s' H'} I' on => by
      obtain ⟨m', lt, at'⟩ := next H' on
      have kept : ∀ b ∈ fp, ∀ o, sg.heap.get? b = some o → s'.heap.get? b = some o ∧ H' b = none := fun b hb o e => by
        have z := I'.pin (b, o) (List.mem_append_right _ (List.mem_append_right _ (mem_pinsAt hb e)))
        exact ⟨z.1, z.2.1⟩
      have len : (wipe σ (own.map (·.2))).length = σh.length := by
        rw [← wh, wipe_length]
      refine ⟨m', lt, i + 1, H', (I'.unpinned (pins := [])).weak len (fun j y e => ?_), T.keep _ _ _ tg' fun b hb o e => (kept b hb o e).1, fun b hb => ?_, at'⟩
      · rw [← wh] at e
        exact (wipe_some e).1
      · obtain ⟨o, e, _⟩ := T.obj _ _ tg' b hb
        exact (kept b hb o e).2
    cases b with
    | false =>
      simp only [Bool.false_eq_true, if_false] at qi ⊢
      exact ends Ii qi
    | true =>
      simp only [if_true] at qi ⊢
      refine thnF (g3.run _ si σh Hi _ Ii qi) fun _ sj ⟨yk, Hj, Ij, rj, qj⟩ => ?_
      refine thnF (g4.run _ sj σh Hj _ Ij qj) fun _ sk ⟨yv, Hk, Ik, rk, kvs, k, t, ek, et, eDk, few, on⟩ => ?_
      subst ek
      exact dictSet_tup (X := X.blk sc Hc scope env fp) (by show X.A.units < cLine; omega) Ik eDk et few rj rk fun _ Il => ends Il on
end
end L2
namespace L2
open PySem PySem.Spec PyProof.Rows PySem.GX
theorem same_new {H : Hp} {p : Addr} {o : HO} (h : H p = none) : Same H (upd H p o) := fun b u e => by
  rw [upd_ne (ne_of_none e h)]
  exact e
theorem keep1 {H : Hp} {q t : Addr} {o u : HO} (e : H t = some u) (h : H q = none) : upd H q o t = some u := by
  rw [upd_ne (ne_of_none e h)]
  exact e
section
variable {J : It} {n : Nat} {G : Hp → Prop} {Y : Nat → Hp → V → Hp → Prop} {g : TG} {tt : TT} {te : TE} {vs : List Nat} {σ : St} {H1 : Hp} {D : Addr} {Qd : Hp → Prop}
theorem same_del {H H' : Hp} {p : Addr} (s : Same H H') : Same (del H p) (del H' p) := fun b o e => by
  by_cases hb : b = p
  · rw [hb, del_same] at e; cases e
  · rw [del_ne hb] at e ⊢
    exact s b o e
theorem del_upd (H : Hp) (p : Addr) (o : HO) : del (upd H p o) p = del H p := by
  funext b
  by_cases hb : b = p
  · rw [hb, del_same, del_same]
  · rw [del_ne hb, del_ne hb, upd_ne hb]
theorem del_none {H : Hp} {p : Addr} (h : H p = none) : del H p = H := by
  funext b
  by_cases hb : b = p
  · rw [hb, del_same, h]
  · rw [del_ne hb]
/-- what the turn asks of the new list -/
def lcK (I : List V → Hp → Prop) (H1 : Hp) (D : Addr) (Nx : Hp → Prop) (ys : List V) : Option V → Hp → Prop
  | some y, H4 => ∃ acc, H4 D = some (.lst acc) ∧ acc.length < sizeLine ∧ Nx (upd H4 D (.lst (acc ++ [y])))
  | none, H4 => Nx H4
/-- [e for x in .. if t]: I says of the items so far and of the other objects what stays true -/
theorem lcR (w : Walk J n G Y) (I : Nat → List V → Hp → Prop) (st : ∀ i ys H H', Same H H' → I i ys H → I i ys H') (i0 : I 0 [] H1) (hz : n ≤ 16000000) (hD : H1 D = none) (hY : ∀ i H x H', Y i H x H' → Same H H') (hG : ∀ H', Same H1 H' → G H')
    (turn : ∀ (i : Nat) (x : V) (ys : List V) (H' H'' : Hp) (k : Option V → Hp → Prop), i < n → Same H1 H' → H' D = some (.lst ys) → I i ys (del H' D) → Y i H' x H'' → (∀ y H4, Same H'' H4 → I (i + 1) (ys ++ [y]) (del H4 D) → k (some y) H4) →
      (∀ H4, Same H'' H4 → I (i + 1) ys (del H4 D) → k none H4) → g x (wipe σ vs) H'' fun σ2 H2 => wipe σ2 vs = wipe σ vs ∧ tt σ2 H2 fun b H3 => if b = true then te σ2 H3 fun y H4 => k (some y) H4 else k none H3)
    (hd : ∀ ys H', ys.length ≤ n → Same H1 H' → H' D = some (.lst ys) → I n ys (del H' D) → Qd H') :
    ∃ W : Nat → Nat → Hp → Prop, (∃ m, W 0 m (upd H1 D (.lst []))) ∧ ∀ i m H, W i m H →
      (J.stop i H ∧ Qd H) ∨ (J.go i H ∧ ∃ Nx : Hp → Prop, (∀ H', Nx H' → ∃ m', m' < m ∧ W (i + 1) m' H') ∧ ∀ x H', J.yld i H x H' → g x (wipe σ vs) H' fun σ2 H2 => wipe σ2 vs = wipe σ vs ∧ tt σ2 H2 fun b H3 =>
        if b = true then te σ2 H3 fun y H4 => ∃ acc, H4 D = some (.lst acc) ∧ acc.length < sizeLine ∧ Nx (upd H4 D (.lst (acc ++ [y]))) else Nx H3) := by
  refine lc_it w (fun i H' => ∃ ys : List V, ys.length ≤ i ∧ Same H1 H' ∧ H' D = some (.lst ys) ∧ I i ys (del H' D)) ⟨[], Nat.le_refl _, same_new hD, upd_same, by rw [del_upd, del_none hD]; exact i0⟩ (fun i H' _ ⟨_, _, s, _⟩ => hG H' s) (fun i x H' H'' hi h hy => ?_) (fun H' ⟨ys, l, s, e, h⟩ => hd ys H' l s e h)
  obtain ⟨ys, l, s, e, h⟩ := h
  have sy := hY _ _ _ _ hy
  refine turn i x ys H' H'' (lcK (I i) H1 D _ ys) hi s e h hy (fun y H4 s4 h4 => ?_) (fun H4 s4 h4 => ?_)
  · have e4 := s4 _ _ (sy _ _ e)
    refine ⟨_, e4, by rw [sizeLine_eq]; omega, _, ?_, fun b o z => ?_, upd_same, by rw [del_upd]; exact h4⟩
    · rw [List.length_append]; simp; omega
    · rw [upd_ne (ne_of_none z hD)]
      exact s4 _ _ (sy _ _ (s b o z))
  · exact ⟨ys, by omega, (s.trans sy).trans s4, s4 _ _ (sy _ _ e), h4⟩
/-- [e for x in .. if t]: the i-th item is taken (as f i says) or not; what was tracked stays -/
theorem lcS (w : Walk J n G Y) (f : Nat → Option V) (hz : n ≤ 16000000) (hD : H1 D = none) (hY : ∀ i H x H', Y i H x H' → Same H H') (hG : ∀ H', Same H1 H' → G H')
    (turn : ∀ (i : Nat) (x : V) (H' H'' : Hp) (k : Option V → Hp → Prop), i < n → Same H1 H' → Y i H' x H'' → (∀ H4, Same H'' H4 → k (f i) H4) →
      g x (wipe σ vs) H'' fun σ2 H2 => wipe σ2 vs = wipe σ vs ∧ tt σ2 H2 fun b H3 => if b = true then te σ2 H3 fun y H4 => k (some y) H4 else k none H3)
    (hd : ∀ H', Same H1 H' → H' D = some (.lst ((List.range n).filterMap f)) → Qd H') :
    ∃ W : Nat → Nat → Hp → Prop, (∃ m, W 0 m (upd H1 D (.lst []))) ∧ ∀ i m H, W i m H →
      (J.stop i H ∧ Qd H) ∨ (J.go i H ∧ ∃ Nx : Hp → Prop, (∀ H', Nx H' → ∃ m', m' < m ∧ W (i + 1) m' H') ∧ ∀ x H', J.yld i H x H' → g x (wipe σ vs) H' fun σ2 H2 => wipe σ2 vs = wipe σ vs ∧ tt σ2 H2 fun b H3 =>
        if b = true then te σ2 H3 fun y H4 => ∃ acc, H4 D = some (.lst acc) ∧ acc.length < sizeLine ∧ Nx (upd H4 D (.lst (acc ++ [y]))) else Nx H3) := by
  refine lcR w (fun i ys _ => ys = (List.range i).filterMap f) (fun _ _ _ _ _ h => h) rfl hz hD hY hG (fun i x ys H' H'' k hi s e h hy k1 k2 => ?_) (fun ys H' _ s e h => hd H' s (by rw [e, h]))
  refine turn i x H' H'' k hi s hy fun H4 s4 => ?_
  cases ef : f i with
  | some y =>
    refine k1 y H4 s4 ?_
    rw [h, List.range_succ, List.filterMap_append]
    simp [ef]
  | none =>
    refine k2 H4 s4 ?_
    rw [h, List.range_succ, List.filterMap_append]
    simp [ef]
end
section
variable {X : Cx} {o : Expr} {to : TE} {f : Str} {pos : Pos}
/-- the target o.f of an own instance -/
def gFld (K : PySem.W.Frag) (to : TE) (f : Str) : TG := fun v σ H Q => to σ H fun x H1 => ∃ (p C dx : Addr) (fs : List (Str × V)), x = .ref p ∧ H1 p = some (.ins C dx fs) ∧ Cls K C ∧ NoAttr K C f ∧ fs.length < 1000 ∧ Q σ (upd H1 p (.ins C dx (putF f v fs)))
theorem pg_fld (ho : PE X o to) : PG X (.Attribute o f pos) (gFld X.K to f) := by
  refine ⟨fun pl s σ H v u Q I r h => ?_⟩
  rw [arm_assign_Attribute]
  refine wpAny_bind (wpAny_holding (thn (ho.run pl s σ H _ I h) fun ov s1 ⟨x, H1, I1, r1, p, C, dx, fs, ex, ep, c, n, l, q⟩ => ?_))
  subst ex
  obtain rfl : ov = Value.ref p := r1
  refine wpAny_bind (wpAny_standAt (wpAny_bind (wpAny_holding (setattr_ok I1 ep c n l r fun s3 I3 => ?_))))
  exact wpAny_release ⟨σ, _, I3, q⟩
end
end L2
namespace L2
open PySem PySem.Spec PyProof.Rows PySem.GX
theorem range_fm {α β : Type} (g : α → Option β) : ∀ xs : List α, (List.range xs.length).filterMap (fun i => xs[i]?.bind g) = xs.filterMap g := by
  intro xs
  have e : (List.range xs.length).filterMap (fun i => xs[i]?) = xs := by
    induction xs with
    | nil => rfl
    | cons a t ih =>
      rw [List.length_cons, List.range_succ_eq_map, List.filterMap_cons, List.filterMap_map]
      simp only [List.getElem?_cons_zero]
      congr 1
  conv => rhs; rw [← e, List.filterMap_filterMap]
section
variable {α : Type} {J : It} {G : Hp → Prop} {Y : Nat → Hp → V → Hp → Prop} {g : TG} {tt : TT} {te tk tv : TE} {vs : List Nat} {σ : St} {H1 : Hp} {D : Addr} {Qd : Hp → Prop}
/-- [e for x in .. if t] over things that stand for the items of xs -/
theorem lcG (xs : List α) (f : α → Option V) (w : Walk J xs.length G Y) (hz : xs.length ≤ 16000000) (hD : H1 D = none) (hY : ∀ i H x H', Y i H x H' → Same H H') (hG : ∀ H', Same H1 H' → G H')
    (turn : ∀ (i : Nat) (a : α) (x : V) (H' H'' : Hp) (k : Option V → Hp → Prop), xs[i]? = some a → Same H1 H' → Y i H' x H'' → (∀ H4, Same H'' H4 → k (f a) H4) →
      g x (wipe σ vs) H'' fun σ2 H2 => wipe σ2 vs = wipe σ vs ∧ tt σ2 H2 fun b H3 => if b = true then te σ2 H3 fun y H4 => k (some y) H4 else k none H3)
    (hd : ∀ H', Same H1 H' → H' D = some (.lst (xs.filterMap f)) → Qd H') :
    ∃ W : Nat → Nat → Hp → Prop, (∃ m, W 0 m (upd H1 D (.lst []))) ∧ ∀ i m H, W i m H →
      (J.stop i H ∧ Qd H) ∨ (J.go i H ∧ ∃ Nx : Hp → Prop, (∀ H', Nx H' → ∃ m', m' < m ∧ W (i + 1) m' H') ∧ ∀ x H', J.yld i H x H' → g x (wipe σ vs) H' fun σ2 H2 => wipe σ2 vs = wipe σ vs ∧ tt σ2 H2 fun b H3 =>
        if b = true then te σ2 H3 fun y H4 => ∃ acc, H4 D = some (.lst acc) ∧ acc.length < sizeLine ∧ Nx (upd H4 D (.lst (acc ++ [y]))) else Nx H3) := by
  refine lcS w (fun i => xs[i]?.bind f) hz hD hY hG (fun i x H' H'' k hi s hy k1 => ?_) (fun H' s e => hd H' s (by rw [e, range_fm]))
  have ei : xs[i]? = some xs[i] := List.getElem?_eq_getElem hi
  refine turn i xs[i] x H' H'' k ei s hy fun H4 s4 => ?_
  have := k1 H4 s4
  rw [ei] at this
  exact this
/-- the generic walk of a dict comprehension, of either sort -/
theorem dc_it {n : Nat} (w : Walk J n G Y) {nx : Nat → Hp → Prop} {body : Nat → V → Hp → (Hp → Prop) → Prop} (h0 : nx 0 H1) (hG : ∀ i H, i ≤ n → nx i H → G H)
    (hs : ∀ i x H H', i < n → nx i H → Y i H x H' → body i x H' (nx (i + 1))) (hd : ∀ H, nx n H → Qd H) :
    ∃ W : Nat → Nat → Hp → Prop, (∃ m, W 0 m H1) ∧ ∀ i m H, W i m H →
      (J.stop i H ∧ Qd H) ∨ (J.go i H ∧ ∃ Nx : Hp → Prop, (∀ H', Nx H' → ∃ m', m' < m ∧ W (i + 1) m' H') ∧ ∀ x H', J.yld i H x H' → body i x H' Nx) := by
  refine ⟨fun i m H => m = n - i ∧ i ≤ n ∧ nx i H, ⟨n, by simp, Nat.zero_le _, h0⟩, ?_⟩
  rintro i m H ⟨rfl, hi, p⟩
  have q := hG i H hi p
  by_cases hlt : i < n
  · exact .inr ⟨w.goes i H hlt q, nx (i + 1), fun H' p' => ⟨n - (i + 1), by omega, rfl, hlt, p'⟩, fun x H' y => hs i x H H' hlt p (w.yields i H x H' hlt q y)⟩
  · have e : i = n := by omega
    subst e
    exact .inl ⟨w.stops H q, hd H p⟩
end
section
variable {α κ : Type} [DecidableEq κ]
/-- the entries of {key a: val a for a in xs} -/
def dOf (key : α → κ) (val : α → V) (xs : List α) : List (κ × V) := xs.foldl (fun kvs a => putK kvs (key a) (val a)) []
theorem dOf_snoc (key : α → κ) (val : α → V) (xs : List α) (a : α) : dOf key val (xs ++ [a]) = putK (dOf key val xs) (key a) (val a) := by
  unfold dOf
  rw [List.foldl_append]
  rfl
theorem dOf_take {key : α → κ} {val : α → V} {xs : List α} {i : Nat} {a : α} (h : xs[i]? = some a) : dOf key val (xs.take (i + 1)) = putK (dOf key val (xs.take i)) (key a) (val a) := by
  rw [List.take_add_one, h]
  exact dOf_snoc _ _ _ _
theorem dOf_len (key : α → κ) (val : α → V) (xs : List α) : (dOf key val xs).length ≤ xs.length := by
  suffices h : ∀ (ys : List α) (kvs : List (κ × V)), (ys.foldl (fun kvs a => putK kvs (key a) (val a)) kvs).length ≤ kvs.length + ys.length by
    have := h xs []
    simpa [dOf] using this
  intro ys
  induction ys with
  | nil => intro kvs; simp
  | cons a t ih =>
    intro kvs
    have h1 := ih (putK kvs (key a) (val a))
    have h2 := length_putK kvs (key a) (val a)
    rw [List.foldl_cons, List.length_cons]
    omega
theorem dOf_val (key : α → κ) (val : α → V) : ∀ (xs : List α) (k : κ), (valV (dOf key val xs) k).isSome = decide (k ∈ xs.map key) := by
  suffices h : ∀ (n : Nat) (xs : List α) (k : κ), xs.length = n → (valV (dOf key val xs) k).isSome = decide (k ∈ xs.map key) from fun xs k => h _ xs k rfl
  intro n
  induction n with
  | zero =>
    intro xs k h
    have : xs = [] := List.eq_nil_of_length_eq_zero h
    subst this
    rfl
  | succ n ih =>
    intro xs k h
    have hne : xs ≠ [] := by intro z; subst z; cases h
    obtain ⟨ys, a, rfl⟩ : ∃ ys a, xs = ys ++ [a] := ⟨xs.dropLast, xs.getLast hne, (List.dropLast_concat_getLast hne).symm⟩
    have hl : ys.length = n := by rw [List.length_append] at h; simpa using h
    rw [dOf_snoc, valV_put]
    by_cases e : k = key a
    · rw [if_pos e, e]; simp
    · rw [if_neg e, ih ys k hl, List.map_append]
      simp [e]
/-- keys that differ: the entries stand as they come -/
theorem dOf_nodup (key : α → κ) (val : α → V) : ∀ (xs : List α), (xs.map key).Nodup → dOf key val xs = xs.map fun a => (key a, val a) := by
  suffices h : ∀ (n : Nat) (xs : List α), xs.length = n → (xs.map key).Nodup → dOf key val xs = xs.map fun a => (key a, val a) from fun xs => h _ xs rfl
  intro n
  induction n with
  | zero =>
    intro xs h _
    have : xs = [] := List.eq_nil_of_length_eq_zero h
    subst this
    rfl
  | succ n ih =>
    intro xs h nd
    have hne : xs ≠ [] := by intro z; subst z; cases h
    obtain ⟨ys, a, rfl⟩ : ∃ ys a, xs = ys ++ [a] := ⟨xs.dropLast, xs.getLast hne, (List.dropLast_concat_getLast hne).symm⟩
    have hl : ys.length = n := by rw [List.length_append] at h; simpa using h
    rw [List.map_append, List.nodup_append] at nd
    have hn : valV (dOf key val ys) (key a) = none := by
      have := dOf_val key val ys (key a)
      rw [decide_eq_false (fun z => nd.2.2 _ z (key a) (by simp) rfl)] at this
      exact Option.isNone_iff_eq_none.mp (by simpa using this)
    rw [dOf_snoc, putK_new _ hn, ih ys hl nd.1, List.map_append]
    rfl
end
section
variable {α : Type} {J : It} {G : Hp → Prop} {Y : Nat → Hp → V → Hp → Prop} {g : TG} {tt : TT} {tk tv : TE} {vs : List Nat} {σ : St} {H1 : Hp} {D : Addr} {Qd : Hp → Prop}
/-- {k: v for x in ..}, keys ints or texts -/
theorem dcG (xs : List α) (key : α → Key) (val : α → V) (w : Walk J xs.length G Y) (hz : xs.length ≤ 16000000) (hD : H1 D = none) (hY : ∀ i H x H', Y i H x H' → Same H H') (hG : ∀ H', Same H1 H' → G H')
    (turn : ∀ (i : Nat) (a : α) (x : V) (H' H'' : Hp) (k : V → V → Hp → Prop) (k0 : Hp → Prop), xs[i]? = some a → Same H1 H' → Y i H' x H'' → (∀ H4, Same H'' H4 → k (kV (key a)) (val a) H4) →
      g x (wipe σ vs) H'' fun σ2 H2 => wipe σ2 vs = wipe σ vs ∧ tt σ2 H2 fun b H3 => if b = true then tk σ2 H3 fun y H4 => tv σ2 H4 fun z H5 => k y z H5 else k0 H3)
    (hd : ∀ H', Same H1 H' → H' D = some (.dK (dOf key val xs)) → Qd H') :
    ∃ W : Nat → Nat → Hp → Prop, (∃ m, W 0 m (upd H1 D (.dK []))) ∧ ∀ i m H, W i m H →
      (J.stop i H ∧ Qd H) ∨ (J.go i H ∧ ∃ Nx : Hp → Prop, (∀ H', Nx H' → ∃ m', m' < m ∧ W (i + 1) m' H') ∧ ∀ x H', J.yld i H x H' → g x (wipe σ vs) H' fun σ2 H2 => wipe σ2 vs = wipe σ vs ∧ tt σ2 H2 fun b H3 =>
        if b = true then tk σ2 H3 fun y H4 => tv σ2 H4 fun z H5 => ∃ kvs k, y = kV k ∧ H5 D = some (.dK kvs) ∧ kvs.length < sizeLine ∧ Nx (upd H5 D (.dK (putK kvs k z))) else Nx H3) := by
  refine dc_it w (nx := fun i H' => Same H1 H' ∧ H' D = some (.dK (dOf key val (xs.take i)))) (body := fun i x H' Nx => g x (wipe σ vs) H' fun σ2 H2 => wipe σ2 vs = wipe σ vs ∧ tt σ2 H2 fun b H3 =>
        if b = true then tk σ2 H3 fun y H4 => tv σ2 H4 fun z H5 => ∃ kvs k, y = kV k ∧ H5 D = some (.dK kvs) ∧ kvs.length < sizeLine ∧ Nx (upd H5 D (.dK (putK kvs k z))) else Nx H3)
    ⟨same_new hD, upd_same⟩ (fun i H _ h => hG H h.1) (fun i x H H' hi h hy => ?_) (fun H h => hd H h.1 (by rw [h.2, List.take_length]))
  have ei : xs[i]? = some xs[i] := List.getElem?_eq_getElem hi
  have sy := hY _ _ _ _ hy
  refine turn i xs[i] x H H' (fun y z H5 => ∃ kvs k, y = kV k ∧ H5 D = some (.dK kvs) ∧ kvs.length < sizeLine ∧ _) _ ei h.1 hy fun H4 s4 => ⟨_, _, rfl, s4 _ _ (sy _ _ h.2), ?_, fun b o z => ?_, ?_⟩
  · have := dOf_len key val (xs.take i)
    rw [List.length_take] at this
    rw [sizeLine_eq]
    omega
  · rw [upd_ne (ne_of_none z hD)]
    exact s4 _ _ (sy _ _ (h.1 b o z))
  · rw [upd_same, dOf_take ei]
/-- {(..): v for x in ..}, keys tuples -/
theorem dcGT (xs : List α) (key : α → List Key) (val : α → V) (w : Walk J xs.length G Y) (hz : xs.length ≤ 16000000) (hD : H1 D = none) (hY : ∀ i H x H', Y i H x H' → Same H H') (hG : ∀ H', Same H1 H' → G H')
    (turn : ∀ (i : Nat) (a : α) (x : V) (H' H'' : Hp) (k : V → V → Hp → Prop) (k0 : Hp → Prop), xs[i]? = some a → Same H1 H' → Y i H' x H'' → (∀ t H4, Same H'' H4 → H4 t = some (.tup ((key a).map kV)) → k (.ref t) (val a) H4) →
      g x (wipe σ vs) H'' fun σ2 H2 => wipe σ2 vs = wipe σ vs ∧ tt σ2 H2 fun b H3 => if b = true then tk σ2 H3 fun y H4 => tv σ2 H4 fun z H5 => k y z H5 else k0 H3)
    (hd : ∀ H', Same H1 H' → H' D = some (.dT (dOf key val xs)) → Qd H') :
    ∃ W : Nat → Nat → Hp → Prop, (∃ m, W 0 m (upd H1 D (.dT []))) ∧ ∀ i m H, W i m H →
      (J.stop i H ∧ Qd H) ∨ (J.go i H ∧ ∃ Nx : Hp → Prop, (∀ H', Nx H' → ∃ m', m' < m ∧ W (i + 1) m' H') ∧ ∀ x H', J.yld i H x H' → g x (wipe σ vs) H' fun σ2 H2 => wipe σ2 vs = wipe σ vs ∧ tt σ2 H2 fun b H3 =>
        if b = true then tk σ2 H3 fun y H4 => tv σ2 H4 fun z H5 => ∃ kvs k t, y = .ref t ∧ H5 t = some (.tup (k.map kV)) ∧ H5 D = some (.dT kvs) ∧ kvs.length < sizeLine ∧ Nx (upd H5 D (.dT (putK kvs k z))) else Nx H3) := by
  refine dc_it w (nx := fun i H' => Same H1 H' ∧ H' D = some (.dT (dOf key val (xs.take i)))) (body := fun i x H' Nx => g x (wipe σ vs) H' fun σ2 H2 => wipe σ2 vs = wipe σ vs ∧ tt σ2 H2 fun b H3 =>
        if b = true then tk σ2 H3 fun y H4 => tv σ2 H4 fun z H5 => ∃ kvs k t, y = .ref t ∧ H5 t = some (.tup (k.map kV)) ∧ H5 D = some (.dT kvs) ∧ kvs.length < sizeLine ∧ Nx (upd H5 D (.dT (putK kvs k z))) else Nx H3)
    ⟨same_new hD, upd_same⟩ (fun i H _ h => hG H h.1) (fun i x H H' hi h hy => ?_) (fun H h => hd H h.1 (by rw [h.2, List.take_length]))
  have ei : xs[i]? = some xs[i] := List.getElem?_eq_getElem hi
  have sy := hY _ _ _ _ hy
  refine turn i xs[i] x H H' (fun y z H5 => ∃ (kvs : List (List Key × V)) (k : List Key) (t : Addr), y = .ref t ∧ H5 t = some (.tup (k.map kV)) ∧ H5 D = some (.dT kvs) ∧ kvs.length < sizeLine ∧ _) _ ei h.1 hy fun t H4 s4 et => ⟨_, _, t, rfl, et, s4 _ _ (sy _ _ h.2), ?_, fun b o z => ?_, ?_⟩
  · have := dOf_len key val (xs.take i)
    rw [List.length_take] at this
    rw [sizeLine_eq]
    omega
  · rw [upd_ne (ne_of_none z hD)]
    exact s4 _ _ (sy _ _ (h.1 b o z))
  · rw [upd_same, dOf_take ei]
end
/-! lists of texts, lists of lists of texts, as data -/
abbrev dTx (ws : List Str) : PyData := .list (ws.map .str)
abbrev dTab (rs : List (List Str)) : PyData := .list (rs.map dTx)
theorem eqv_strs : ∀ a b : List Str, PyData.eqvAll (a.map .str) (b.map .str) = decide (a = b)
  | [], [] => rfl
  | [], _ :: _ => rfl
  | _ :: _, [] => rfl
  | x :: xs, y :: ys => by
    show (PyData.eqv (.str x) (.str y) && PyData.eqvAll (xs.map .str) (ys.map .str)) = _
    rw [eqv_strs xs ys]
    show ((x == y) && _) = _
    by_cases h : x = y
    · subst h; simp
    · simp [h]
theorem eqv_dTx (a b : List Str) : PyData.eqv (dTx a) (dTx b) = decide (a = b) := eqv_strs a b
theorem eqv_tabs : ∀ a b : List (List Str), PyData.eqvAll (a.map dTx) (b.map dTx) = decide (a = b)
  | [], [] => rfl
  | [], _ :: _ => rfl
  | _ :: _, [] => rfl
  | x :: xs, y :: ys => by
    show (PyData.eqv (dTx x) (dTx y) && PyData.eqvAll (xs.map dTx) (ys.map dTx)) = _
    rw [eqv_tabs xs ys, eqv_dTx]
    by_cases h : x = y
    · subst h; simp
    · simp [h]
theorem eqv_dTab (a b : List (List Str)) : PyData.eqv (dTab a) (dTab b) = decide (a = b) := eqv_tabs a b
theorem lay_strs : ∀ {a : List Str}, (∀ x ∈ a, PyData.strOk x = true) → PyData.canLayAll0 (a.map .str) = true ∧ PyData.depthAll (a.map .str) = 0
  | [], _ => ⟨rfl, rfl⟩
  | x :: xs, h => by
    have ih := lay_strs (a := xs) fun y hy => h y (List.mem_cons_of_mem _ hy)
    refine ⟨?_, ?_⟩
    · show (PyData.strOk x && PyData.canLayAll0 (xs.map .str)) = true
      rw [h x (List.mem_cons_self ..), ih.1]
      rfl
    · show max 0 (PyData.depthAll (xs.map .str)) = 0
      rw [ih.2]
      rfl
theorem shaped_dTx {a : List Str} (h : ∀ x ∈ a, PyData.strOk x = true) : SeqAt.shaped (dTx a) = true := by
  have l := lay_strs h
  have d1 : (dTx a).canLay0 = true := l.1
  have d2 : (dTx a).depth = 1 := by
    show PyData.depthAll _ + 1 = 1
    rw [l.2]
  unfold SeqAt.shaped
  rw [d1, d2]
  rfl
theorem lay_tabs : ∀ {a : List (List Str)}, (∀ r ∈ a, ∀ x ∈ r, PyData.strOk x = true) → PyData.canLayAll0 (a.map dTx) = true ∧ PyData.depthAll (a.map dTx) ≤ 1
  | [], _ => ⟨rfl, Nat.zero_le _⟩
  | r :: rs, h => by
    have ih := lay_tabs (a := rs) fun y hy => h y (List.mem_cons_of_mem _ hy)
    have l := lay_strs (h r (List.mem_cons_self ..))
    refine ⟨?_, ?_⟩
    · show (PyData.canLayAll0 (r.map .str) && PyData.canLayAll0 (rs.map dTx)) = true
      rw [l.1, ih.1]
      rfl
    · show max (PyData.depthAll (r.map .str) + 1) (PyData.depthAll (rs.map dTx)) ≤ 1
      rw [l.2]
      have := ih.2
      omega
theorem shaped_dTab {a : List (List Str)} (h : ∀ r ∈ a, ∀ x ∈ r, PyData.strOk x = true) : SeqAt.shaped (dTab a) = true := by
  have l := lay_tabs h
  have d1 : (dTab a).canLay0 = true := l.1
  have d2 : (dTab a).depth ≤ 2 := by
    show PyData.depthAll _ + 1 ≤ 2
    have := l.2
    omega
  unfold SeqAt.shaped
  rw [d1]
  simp
  omega
theorem dpStrs {K : PySem.W.Frag} {H : Hp} : ∀ ws : List Str, DpAll K H (ws.map V.str) (ws.map PyData.str)
  | [] => .nil
  | x :: xs => .cons (.str x) (dpStrs xs)
theorem dp_dTx {K : PySem.W.Frag} {H : Hp} {p : Addr} {ws : List Str} (h : H p = some (.lst (ws.map V.str))) : Dp K H (.ref p) (dTx ws) := .lst (SqL.of h) (dpStrs ws)
/-- the lists at as hold the rows -/
inductive Rw (H : Hp) : List Addr → List (List Str) → Prop
  | nil : Rw H [] []
  | cons {a : Addr} {r : List Str} {as : List Addr} {rs : List (List Str)} : H a = some (.lst (r.map V.str)) → Rw H as rs → Rw H (a :: as) (r :: rs)
theorem Rw.same {H H' : Hp} (s : Same H H') : ∀ {as : List Addr} {rs : List (List Str)}, Rw H as rs → Rw H' as rs
  | _, _, .nil => .nil
  | _, _, .cons e t => .cons (s _ _ e) (Rw.same s t)
theorem Rw.len {H : Hp} : ∀ {as : List Addr} {rs : List (List Str)}, Rw H as rs → as.length = rs.length
  | _, _, .nil => rfl
  | _, _, .cons _ t => by simp [Rw.len t]
theorem Rw.snoc {H : Hp} {a : Addr} {r : List Str} (e : H a = some (.lst (r.map V.str))) : ∀ {as : List Addr} {rs : List (List Str)}, Rw H as rs → Rw H (as ++ [a]) (rs ++ [r])
  | _, _, .nil => .cons e .nil
  | _, _, .cons e1 t => .cons e1 (Rw.snoc e t)
theorem Rw.get {H : Hp} : ∀ {as : List Addr} {rs : List (List Str)} {i : Nat} {a : Addr} {r : List Str}, Rw H as rs → as[i]? = some a → rs[i]? = some r → H a = some (.lst (r.map V.str))
  | _, _, _, _, _, .nil, e, _ => by simp at e
  | _, _, 0, _, _, .cons e _, e1, e2 => by simp at e1 e2; subst e1; subst e2; exact e
  | _, _, i + 1, a, r, .cons _ t, e1, e2 => Rw.get (i := i) t (by simpa using e1) (by simpa using e2)
theorem Rw.drop {H : Hp} : ∀ {as : List Addr} {rs : List (List Str)} (n : Nat), Rw H as rs → Rw H (as.drop n) (rs.drop n)
  | _, _, 0, t => t
  | _, _, _ + 1, .nil => .nil
  | _, _, n + 1, .cons _ t => Rw.drop n t
theorem Rw.take {H : Hp} : ∀ {as : List Addr} {rs : List (List Str)} (n : Nat), Rw H as rs → Rw H (as.take n) (rs.take n)
  | _, _, 0, _ => .nil
  | _, _, _ + 1, .nil => .nil
  | _, _, n + 1, .cons e t => .cons e (Rw.take n t)
theorem dpTabs {K : PySem.W.Frag} {H : Hp} : ∀ {as : List Addr} {rs : List (List Str)}, Rw H as rs → DpAll K H (as.map V.ref) (rs.map dTx)
  | _, _, .nil => .nil
  | _, _, .cons e t => .cons (dp_dTx e) (dpTabs t)
theorem dp_dTab {K : PySem.W.Frag} {H : Hp} {p : Addr} {as : List Addr} {rs : List (List Str)} (h : H p = some (.lst (as.map V.ref))) (t : Rw H as rs) : Dp K H (.ref p) (dTab rs) := .lst (SqL.of h) (dpTabs t)
end L2
namespace My
open PySem PySem.Spec PyProof.Rows L2
def top (i : Nat) : Stmt := PySem.Challenge.pw_shortlooks_k03_texts_refused.main.body.getD i (.Pass ⟨0, 0, 0, 0⟩)
abbrev cInvalidText : Stmt := top 3
abbrev cInvalidRow : Stmt := top 4
abbrev cInvalidKind : Stmt := top 5
abbrev cInvalidNumber : Stmt := top 6
abbrev cInvalidMood : Stmt := top 7
abbrev cInvalidSign : Stmt := top 8
abbrev cInvalidPaper : Stmt := top 9
abbrev cNotARule : Stmt := top 10
abbrev cTooMany : Stmt := top 14
abbrev sMade : Stmt := top 23
abbrev sRowOf : Stmt := top 24
abbrev sWord : Stmt := top 25
abbrev sSigns : Stmt := top 26
abbrev sMoods : Stmt := top 27
abbrev sGood : Stmt := top 28
abbrev sGoals : Stmt := top 29
abbrev sRead : Stmt := top 30
abbrev sRule : Stmt := top 32
abbrev sWell : Stmt := top 34
abbrev sDip : Stmt := top 35
abbrev sPick : Stmt := top 36
abbrev sTerms : Stmt := top 37
abbrev sSketch : Stmt := top 38
abbrev sText : Stmt := top 39
abbrev sOdd : Stmt := top 41
abbrev sError : Stmt := top 42
abbrev sClass : Stmt := top 43
abbrev sField : Stmt := top 44
abbrev sRight : Stmt := top 48
abbrev sLaw : Stmt := top 49
end My
namespace My
open PySem PySem.Spec PyProof.Rows L2
/-- the def x is there, and keeps the promise -/
structure Hv (P : Program) (w : World) (K : PySem.W.Frag) (mg : Str → Option Value) (base : Heap) (k : Nat) (x : Str) (ps : List Str) (sp : Sp) : Prop where
  ex : ∃ (f : Addr) (fd : FuncData), FnOk P w K mg base CX0 k f fd ps sp ∧ Binds K fd ps [] ∧ mg x = some (.ref f) ∧ PySem.W.keepIn K (.ref f) = true
theorem pe_cl {X : Cx} {k : Nat} {x : Str} {ps : List Str} {sp : Sp} {p pos : Pos} {e : Expr} {es : List Expr} {t : TA} {E : XK} (h : Hv X.prog X.w X.K X.mg X.base k x ps sp) (hr : Room k X.A) (hg : Gl X x) (hx : Passes CX0 X E) (ha : PA X (e :: es) t)
    (hdb : (x == ("__debug__" : Str)) = false := by decide) (he : starEach (e :: es) X.env = (false, eval e X.env) :: starEach es X.env := by rfl) (hpl : (backTo pos (starEach es X.env)).any (·.1) = false := by rfl) :
    PE X (.Call (.Name x p) (e :: es) [] pos) (tCall sp [] E t) := by
  obtain ⟨f, fd, F, b, g, kp⟩ := h.ex
  exact pe_call F hr hg g kp b .nil hx ha hdb he hpl
abbrev abc : Str := "abcdefghijklmnopqrstuvwxyz"
def madeL (x y : Str) : Bool := (x.cps.toList.map fun c => decide (c ∈ y.cps.toList)).all id
def spMade : Sp := fun vs H Q _ => ∃ x y : Str, vs = [.str x, .str y] ∧ x.length ≤ 16000000 ∧ ∀ H', Same H H' → Q (.bl (madeL x y)) H'
section
variable {P : Program} {w : World} {K : PySem.W.Frag} {mg : Str → Option Value} {base : Heap}
theorem scMade : FnScope ["text", "letters", "letter"] ["text", "letters"] (defScope sMade) := ⟨rfl, rfl, rfl, by decide +kernel, rfl, by decide +kernel, by decide +kernel⟩
theorem ok_made {f : Addr} {fd : FuncData} (F : Fun K "made_of" "made_of" sMade f fd) (hA : mg "all" = none) : FnOk P w K mg base CX0 1 f fd ["text", "letters"] spMade := by
  refine F.ok scMade (fun vs H Q E h => ?_) (fun cdv A outer s H vs Q E hr h => ?_)
  · obtain ⟨x, y, rfl, _⟩ := h
    rfl
  · obtain ⟨x, y, rfl, hx, k⟩ := h
    refine ⟨_, pss_one (ps_ret (pe_callB (cr_all rfl) (by rfl) hA (by decide +kernel) (pa_cons (pe_lc (own := [("letter", 2)]) (g := gName 2) (tt := tYes) rfl scMade.nd (pi_str (pv 0))
      (blkOk_by (N := ["text", "letters", "letter"]) (sc := defScope sMade) (by decide +kernel)) (fun _ _ _ _ _ => pg_name (i := 2) scMade.nd rfl (Or.inl rfl)) (fun _ _ _ _ _ => pts_nil) (fun _ _ _ _ _ => pe_cmpR op_in_sign (pv 2) (pv 1) (by rfl))) pa_nil))), ?_⟩
    refine ⟨_, rfl, x, rfl, fun D hD => ?_⟩
    refine lcG (x.cps.toList) (fun c => some (.bl (decide (c ∈ y.cps.toList)))) (by rw [Array.length_toList]; exact walk_str) (by rw [Array.length_toList]; exact hx) hD (fun i H x H' h => by rw [h.1]; exact Same.refl _) (fun _ _ => trivial) (fun i c z H' H'' k1 hc _ hy k2 => ?_) (fun H' s' e => ?_)
    · obtain ⟨rfl, c', hc', rfl⟩ := hy
      rw [← Array.getElem?_toList, hc] at hc'
      cases hc'
      exact ⟨rfl, _, rfl, _, rfl, c, _, rfl, rfl, k2 _ (Same.refl _)⟩
    · refine ⟨D, x.cps.toList.map fun c => decide (c ∈ y.cps.toList), rfl, SqL.of ?_, k _ s'⟩
      rw [e, List.filterMap_eq_map', List.map_map]
      rfl
end
end My
namespace My
open PySem PySem.Spec PyProof.Rows L2
/-- a well stands at p -/
def Wl (H : Hp) (p : Addr) : Prop := ∃ w0 w1 w2 : Int, 0 ≤ w0 ∧ 0 ≤ w1 ∧ H p = some (.lst [.int w0, .int w1, .int w2])
def spDip : Sp := fun vs H Q _ => ∃ (p : Addr) (n : Int), vs = [.ref p, .int n] ∧ Wl H p ∧ 0 < n ∧ n < 1073741824 ∧
  ∀ (d : Int) (o : HO), 0 ≤ d → d < n → Wl (upd H p o) p → Q (.int d) (upd H p o)
section
variable {P : Program} {w : World} {K : PySem.W.Frag} {mg : Str → Option Value} {base : Heap}
theorem scD : FnScope ["_law_well_here", "_law_size", "_law_digit"] ["_law_well_here", "_law_size"] (defScope sDip) :=
  ⟨rfl, rfl, rfl, by decide +kernel, rfl, by decide +kernel, by decide +kernel⟩
theorem ok_dip {f : Addr} {fd : FuncData} (F : Fun K "_law_dip" "_law_dip" sDip f fd) (hI : mg "int" = none) : FnOk P w K mg base CX0 1 f fd ["_law_well_here", "_law_size"] spDip := by
  refine F.ok scD (fun vs H Q E h => ?_) (fun cdv A outer s H vs Q E hr h => ?_)
  · obtain ⟨p, n, rfl, _⟩ := h
    rfl
  · obtain ⟨p, n, rfl, ⟨w0, w1, w2, h0, h1, hp⟩, n0, n1, k⟩ := h
    refine ⟨_, pss_cons (ps_asg (pe_op op_add (pe_ix ix_list (pv 0) pe_int (fun _ _ => rfl)) pe_int) (pg_sub (pv 0) pe_int set_list))
      (pss_cons (ps_if (pt_cmpR op_gt (pe_ix ix_list (pv 0) pe_int (fun _ _ => rfl)) pe_int (nomark _))
        (pss_cons (ps_set (i := 2) scD.nd rfl (Or.inl rfl) (pe_op op_modN (pe_callTy call_int1 (by rfl) hI (by decide +kernel) (pa_cons (pe_ix ix_list (pv 0) pe_int (fun _ _ => rfl)) pa_nil)) (pv 1)))
        (pss_cons (ps_asg (pe_op op_fdivN (pe_callTy call_int1 (by rfl) hI (by decide +kernel) (pa_cons (pe_ix ix_list (pv 0) pe_int (fun _ _ => rfl)) pa_nil)) (pv 1)) (pg_sub (pv 0) pe_int set_list))
        (pss_one (ps_ret (pv 2))))) pss_nil)
      (pss_cons (ps_asg (pe_op op_mod (pe_callTy call_int1 (by rfl) hI (by decide +kernel) (pa_cons (pe_op op_add (pe_op op_add (pe_op op_mul (pe_ix ix_list (pv 0) pe_int (fun _ _ => rfl)) pe_int)
          (pe_op op_mul pe_int (pe_ix ix_list (pv 0) pe_int (fun _ _ => rfl)))) pe_int) pa_nil)) pe_int) (pg_sub (pv 0) pe_int set_list))
      (pss_one (ps_ret (pe_op op_modN (pe_callTy call_int1 (by rfl) hI (by decide +kernel) (pa_cons (pe_op op_fdiv (pe_ix ix_list (pv 0) pe_int (fun _ _ => rfl)) pe_int) pa_nil)) (pv 1)))))), ?_⟩
    -- well[2] = well[2] + 1
    refine ⟨_, rfl, p, _, _, _, rfl, rfl, SqL.of hp, atI_nat (j := 2) rfl, _, _, rfl, rfl, _, rfl, p, _, _, 2, rfl, rfl, hp, rfl, ?_⟩
    have hp1 : ∀ o, upd H p o p = some o := fun o => upd_same
    refine ⟨_, rfl, p, _, _, _, rfl, rfl, SqL.of (hp1 _), atI_nat (j := 0) rfl, _, _, rfl, rfl, _, rfl, ?_⟩
    refine ite2 (fun c => ?_) (fun c => ?_)
    · have c' : (0 : Int) < w0 := of_decide_eq_true c
      refine ⟨_, rfl, p, _, _, _, rfl, rfl, SqL.of (hp1 _), atI_nat (j := 0) rfl, .inl ⟨_, rfl, _, rfl, _, _, rfl, rfl, (by show n ≠ 0; omega), ?_⟩⟩
      refine ⟨_, rfl, p, _, _, _, rfl, rfl, SqL.of (hp1 _), atI_nat (j := 0) rfl, .inl ⟨_, rfl, _, rfl, _, _, rfl, rfl, ⟨(by omega), (by omega)⟩, _, rfl, p, _, _, 0, rfl, rfl, hp1 _, rfl, ?_⟩⟩
      refine ⟨_, rfl, ?_⟩
      rw [upd_upd]
      refine k _ _ (Int.fmod_nonneg_of_pos _ n0) (Int.fmod_lt_of_pos _ n0) ⟨_, _, _, ?_, h1, upd_same⟩
      rw [Int.fdiv_eq_ediv_of_nonneg _ (by omega)]
      exact Int.ediv_nonneg h0 (by omega)
    · refine ⟨_, rfl, p, _, _, _, rfl, rfl, SqL.of (hp1 _), atI_nat (j := 1) rfl, _, _, rfl, rfl, .inr ⟨by decide, by decide⟩, _, rfl, p, _, _, _, rfl, rfl, SqL.of (hp1 _), atI_nat (j := 2) rfl, _, _, rfl, rfl, .inl ⟨by decide, by decide⟩,
        _, _, rfl, rfl, _, _, rfl, rfl, .inl ⟨_, rfl, _, _, rfl, rfl, (by show (0 : Int) < 2147483647; decide), _, rfl, p, _, _, 1, rfl, rfl, hp1 _, rfl, ?_⟩⟩
      rw [upd_upd]
      refine ⟨_, rfl, p, _, _, _, rfl, rfl, SqL.of (hp1 _), atI_nat (j := 1) rfl, _, _, rfl, rfl, ⟨by decide, by decide⟩, .inl ⟨_, rfl, _, rfl, _, _, rfl, rfl, (by show n ≠ 0; omega), ?_⟩⟩
      exact k _ _ (Int.fmod_nonneg_of_pos _ n0) (Int.fmod_lt_of_pos _ n0) ⟨_, _, _, h0, Int.emod_nonneg _ (by decide), upd_same⟩
end
end My
namespace My
open PySem PySem.Spec PyProof.Rows L2
def spWell (K : PySem.W.Frag) : Sp := fun vs H Q _ => ∃ (a : Addr) (ns : List Int) (t : Int), vs = [.ref a, .int t] ∧ SqL K H a (ns.map V.int) ∧ 0 ≤ t ∧ t ≤ 1000 ∧
  ∀ (p : Addr) (H' : Hp), Same H H' → H p = none → Wl H' p → Q (.ref p) H'
theorem cut_ints (ns : List Int) (lo hi : Option Int) : ∃ ms : List Int, cutV (ns.map V.int) lo hi = ms.map V.int := by
  unfold cutV
  rw [← List.map_drop, ← List.map_take]
  exact ⟨_, rfl⟩
theorem map_int_get {ns : List Int} {i : Nat} {y : V} (h : (ns.map V.int)[i]? = some y) : ∃ z, ns[i]? = some z ∧ y = V.int z := by
  rw [List.getElem?_map] at h
  cases e : ns[i]? with
  | none => rw [e] at h; cases h
  | some z => rw [e] at h; exact ⟨z, rfl, (Option.some.inj h).symm⟩
section
variable {P : Program} {w : World} {K : PySem.W.Frag} {mg : Str → Option Value} {base : Heap}
theorem scW : FnScope ["_law_script", "_law_turn", "_law_entry", "_law_stirred", "_law_each"] ["_law_script", "_law_turn"] (defScope sWell) :=
  ⟨rfl, rfl, rfl, by decide +kernel, rfl, by decide +kernel, by decide +kernel⟩
theorem ok_well {f : Addr} {fd : FuncData} (F : Fun K "_law_well" "_law_well" sWell f fd) (hI : mg "int" = none) (hL : mg "len" = none) (hA : mg "abs" = none) : FnOk P w K mg base CX0 1 f fd ["_law_script", "_law_turn"] (spWell K) := by
  refine F.ok scW (fun vs H Q E h => ?_) (fun cdv A outer s H vs Q E hr h => ?_)
  · obtain ⟨a, ns, t, rfl, _⟩ := h
    rfl
  · obtain ⟨a, ns, t, rfl, hS, t0, t1, k⟩ := h
    refine ⟨_, pss_cons (ps_set (i := 2) scW.nd rfl (Or.inl rfl) (pe_ifExp (pt_cmpR op_lt (pv 1) (pe_callB call_len_seq (by rfl) hL PySem.boot_len (pa_cons (pv 0) pa_nil)) (nomark _))
        (pe_callTy call_int1 (by rfl) hI (by decide +kernel) (pa_cons (pe_ix ix_list (pv 0) (pv 1) (fun _ _ => rfl)) pa_nil)) (pe_op op_add (pe_op op_mul pe_int (pv 1)) pe_int)))
      (pss_cons (ps_set (i := 3) scW.nd rfl (Or.inl rfl) (pe_op op_add pe_int (pe_op op_mul pe_int (pv 1))))
      (pss_cons (ps_for PassesOwn.never rfl (pi_list (pe_slice sl_list (pv 0) po_none (po_some pe_int))) (pg_name (i := 4) scW.nd rfl (Or.inl rfl))
        (pss_one (ps_set (i := 3) scW.nd rfl (Or.inl rfl) (pe_op op_mod (pe_callTy call_int1 (by rfl) hI (by decide +kernel) (pa_cons (pe_op op_add (pe_op op_add (pe_op op_mul (pv 3) pe_int)
          (pe_op op_mod (pe_callTy call_int1 (by rfl) hI (by decide +kernel) (pa_cons (pv 4) pa_nil)) pe_int)) (pv 1)) pa_nil)) pe_int))))
      (pss_cons (ps_set (i := 3) scW.nd rfl (Or.inl rfl) (pe_op op_mod (pe_callTy call_int1 (by rfl) hI (by decide +kernel) (pa_cons (pe_op op_add (pe_op op_mul (pv 3) pe_int)
          (pe_op op_mod (pe_callTy call_int1 (by rfl) hI (by decide +kernel) (pa_cons (pv 2) pa_nil)) pe_int)) pa_nil)) pe_int))
      (pss_one (ps_ret (pe_lst (pa_cons (pe_ifExp (pt_cmpR op_ge (pe_callB call_abs (by rfl) hA (by decide +kernel) (pa_cons (pv 2) pa_nil)) (pe_op op_pow pe_int pe_int) (nomark _))
          (pe_callB call_abs (by rfl) hA (by decide +kernel) (pa_cons (pv 2) pa_nil)) pe_int) (pa_cons (pv 3) (pa_cons pe_int pa_nil))))))))), ?_⟩
    refine ⟨_, rfl, _, rfl, a, _, rfl, .inl hS, _, _, rfl, rfl, _, rfl, ?_⟩
    refine ite2 (fun c => ?a1) (fun c => ?a2)
    case' a1 =>
      have c1 : t < ((ns.map V.int).length : Int) := of_decide_eq_true c
      rw [List.length_map] at c1
      obtain ⟨z, hz⟩ : ∃ z, ns[t.toNat]? = some z := ⟨_, List.getElem?_eq_getElem (by omega : t.toNat < ns.length)⟩
      have et : t = ((t.toNat : Nat) : Int) := by omega
      refine ⟨_, rfl, _, rfl, a, _, _, V.int z, rfl, rfl, hS, ?_, .inl ⟨_, rfl, ?_⟩⟩
      · rw [et]
        exact atI_nat (by rw [List.getElem?_map, hz]; rfl)
    case' a2 => refine ⟨_, rfl, _, _, rfl, rfl, .inl ⟨by decide, by decide⟩, _, _, rfl, rfl, ?_⟩
    all_goals
      refine ⟨_, rfl, _, _, rfl, rfl, .inl ⟨by decide, by decide⟩, _, _, rfl, rfl, ?_⟩
      refine ⟨_, rfl, 8, rfl, a, _, rfl, hS, fun q hq => ⟨q, rfl, ⟨_, SqL.of upd_same⟩, ?_⟩⟩
      obtain ⟨ms, hms⟩ := cut_ints ns none (some 8)
      refine for_list (K := K) (a := q) (xs := cutV (ns.map V.int) none (some 8)) (fun i σ H' => ∃ (en st : Int) (v : Option V), σ = [some (.ref a), some (.int t), some (.int en), some (.int st), v] ∧ H' = upd H q (.lst (cutV (ns.map V.int) none (some 8))))
        ⟨_, _, none, rfl, rfl⟩ (fun i σ H' _ ⟨_, _, _, _, e⟩ => by rw [e]; exact SqL.of upd_same) ?_ ?_
      · rintro i y σ H' hi ⟨en, st, v, rfl, rfl⟩
        rw [hms] at hi
        obtain ⟨z, _, rfl⟩ := map_int_get hi
        exact ⟨_, rfl, _, _, rfl, rfl, .inr ⟨by decide, by decide⟩, _, rfl, .inl ⟨_, rfl, _, _, rfl, rfl, (by show (0 : Int) < 999979; decide), _, _, rfl, rfl, _, rfl, _, _, rfl, rfl, .inl ⟨_, rfl, _, _, rfl, rfl,
          (by show (0 : Int) < 2147483647; decide), en, _, _, rfl, rfl⟩⟩⟩
      · rintro σ H' ⟨en, st, v, rfl, rfl⟩
        refine ⟨_, rfl, _, _, rfl, rfl, .inr ⟨by decide, by decide⟩, _, rfl, .inl ⟨_, rfl, _, _, rfl, rfl, (by show (0 : Int) < 999979; decide), _, _, rfl, rfl, .inl ⟨_, rfl, _, _, rfl, rfl, (by show (0 : Int) < 2147483647; decide), ?_⟩⟩⟩
        refine ⟨_, rfl, _, rfl, _, _, rfl, rfl, ⟨by decide, by decide, by decide⟩, _, _, rfl, rfl, _, rfl, ?_⟩
        refine ite2 (fun c => ⟨_, rfl, _, rfl, ?_⟩) (fun c => ?_)
        all_goals
          refine ⟨_, rfl, (by show 3 ≤ sizeLine; decide), fun r hr => ?_⟩
          refine k r _ (fun b o e => ?_) ((same_new hq).free hr) ⟨_, _, _, ?_, Int.emod_nonneg _ (by decide), upd_same⟩
          · exact same_new hr b o (same_new hq b o e)
          · first | exact Int.le_refl 0 | (split <;> omega)
end
end My
namespace L2
open PySem PySem.Spec PyProof.Rows PySem.GX
theorem del_same_of (H : Hp) (p : Addr) : Same (del H p) H := fun b o e => by
  by_cases hb : b = p
  · rw [hb, del_same] at e; cases e
  · rw [del_ne hb] at e
    exact e
/-- the new list D holds new lists with these rows; all that was in H1 stands -/
structure Pr (H1 : Hp) (D : Addr) (H' : Hp) (rs : List (List Str)) : Prop where
  ex : ∃ as : List Addr, Same H1 H' ∧ H' D = some (.lst (as.map V.ref)) ∧ Rw (del H' D) as rs
section
variable {H1 H' H'' : Hp} {D p : Addr} {rs : List (List Str)} {r : List Str}
theorem Pr.zero (hD : H1 D = none) : Pr H1 D (upd H1 D (.lst [])) [] := ⟨[], same_new hD, upd_same, .nil⟩
theorem Pr.keeps (h : Pr H1 D H' rs) : Same H1 H' := let ⟨_, s, _, _⟩ := h.ex; s
theorem Pr.same (h : Pr H1 D H' rs) (s : Same H' H'') : Pr H1 D H'' rs := by
  obtain ⟨as, s1, e, t⟩ := h.ex
  exact ⟨as, s1.trans s, s _ _ e, t.same (same_del s)⟩
theorem Pr.push (h : Pr H1 D H' rs) (hD : H1 D = none) (hp : H' p = none) (hl : rs.length < 16000000) :
    ∃ acc, (upd H' p (.lst (r.map V.str))) D = some (.lst acc) ∧ acc.length < sizeLine ∧ Pr H1 D (upd (upd H' p (.lst (r.map V.str))) D (.lst (acc ++ [.ref p]))) (rs ++ [r]) := by
  obtain ⟨as, s1, e, t⟩ := h.ex
  have ne : D ≠ p := ne_of_none e hp
  refine ⟨as.map V.ref, by rw [upd_ne ne]; exact e, ?_, ⟨as ++ [p], fun b o z => ?_, ?_, ?_⟩⟩
  · rw [List.length_map, t.len, sizeLine_eq]
    omega
  · rw [upd_ne (ne_of_none z hD), upd_ne (ne_of_none (s1 _ _ z) hp)]
    exact s1 _ _ z
  · rw [upd_same, List.map_append]
    rfl
  · rw [del_upd]
    refine Rw.snoc ?_ (t.same (same_del (same_new hp)))
    rw [del_ne ne.symm, upd_same]
theorem Pr.rw_ (h : Pr H1 D H' rs) : ∃ as : List Addr, Same H1 H' ∧ H' D = some (.lst (as.map V.ref)) ∧ Rw H' as rs := by
  obtain ⟨as, s1, e, t⟩ := h.ex
  exact ⟨as, s1, e, t.same (del_same_of _ _)⟩
end
theorem cut_to (ws : List Str) (n : Nat) (hn : n < 2 ^ 62) : cutV (ws.map V.str) none (some (n : Int)) = (ws.take n).map V.str := by
  unfold cutV
  have e0 : HT.sIx (ws.map V.str).length 0 none = 0 := rfl
  have e1 : HT.sIx (ws.map V.str).length (ws.map V.str).length (some (n : Int)) = min n (ws.map V.str).length := by
    unfold HT.sIx
    simp
    omega
  rw [e0, e1, List.drop_zero, Nat.sub_zero, List.map_take]
  apply List.ext_getElem?
  intro i
  simp only [List.getElem?_take]
  by_cases h : i < n
  · by_cases h2 : i < (ws.map V.str).length
    · rw [if_pos h, if_pos (by omega)]
    · rw [if_pos h, if_neg (by omega), List.getElem?_eq_none (by omega)]
  · rw [if_neg h, if_neg (by omega)]
theorem cut_fromV (xs : List V) (n : Nat) (hn : n < 2 ^ 62) : cutV xs (some (n : Int)) none = xs.drop n := by
  unfold cutV
  have e1 : HT.sIx xs.length xs.length none = xs.length := rfl
  have e0 : HT.sIx xs.length 0 (some (n : Int)) = min n xs.length := by
    unfold HT.sIx
    simp
    omega
  rw [e0, e1]
  apply List.ext_getElem?
  intro i
  simp only [List.getElem?_take, List.getElem?_drop]
  by_cases h : i < xs.length - min n xs.length
  · rw [if_pos h]
    congr 1
    omega
  · rw [if_neg h, List.getElem?_eq_none (by omega)]
theorem cut_toV (xs : List V) (n : Nat) (hn : n < 2 ^ 62) : cutV xs none (some (n : Int)) = xs.take n := by
  unfold cutV
  have e0 : HT.sIx xs.length 0 none = 0 := rfl
  have e1 : HT.sIx xs.length xs.length (some (n : Int)) = min n xs.length := by
    unfold HT.sIx
    simp
    omega
  rw [e0, e1, List.drop_zero, Nat.sub_zero]
  apply List.ext_getElem?
  intro i
  simp only [List.getElem?_take]
  by_cases h : i < n
  · by_cases h2 : i < xs.length
    · rw [if_pos h, if_pos (by omega)]
    · rw [if_pos h, if_neg (by omega), List.getElem?_eq_none (by omega)]
  · rw [if_neg h, if_neg (by omega)]
end L2
namespace My
open PySem PySem.Spec PyProof.Rows L2
/-- all but the well stays -/
def Sb (p : Addr) (H H' : Hp) : Prop := ∀ b o, b ≠ p → H b = some o → H' b = some o
theorem Sb.refl (p : Addr) (H : Hp) : Sb p H H := fun _ _ _ h => h
theorem Sb.trans {p : Addr} {H H1 H2 : Hp} (a : Sb p H H1) (b : Sb p H1 H2) : Sb p H H2 := fun c o n h => b c o n (a c o n h)
theorem Sb.of {p : Addr} {H H' : Hp} (s : Same H H') : Sb p H H' := fun b o _ h => s b o h
theorem Sb.upd_ {p : Addr} {H : Hp} {o : HO} : Sb p H (upd H p o) := fun b u n h => by rw [upd_ne n]; exact h
theorem Sb.free {p : Addr} {H H' : Hp} (s : Sb p H H') {q : Addr} (n : q ≠ p) (h : H' q = none) : H q = none := by
  cases e : H q with
  | none => rfl
  | some o => rw [s q o n e] at h; cases h
theorem Wl.same {H H' : Hp} {p : Addr} (w : Wl H p) (s : Same H H') : Wl H' p := by
  obtain ⟨w0, w1, w2, a0, a1, e⟩ := w
  exact ⟨w0, w1, w2, a0, a1, s _ _ e⟩
theorem Wl.new {H : Hp} {p q : Addr} (w : Wl H p) (h : H q = none) : q ≠ p := by
  obtain ⟨w0, w1, w2, a0, a1, e⟩ := w
  exact (ne_of_none e h).symm
theorem Wl.ne {H : Hp} {p q : Addr} {o : HO} (w : Wl H p) (h : H q = some o) (n : ∀ a b c : Int, o ≠ .lst [.int a, .int b, .int c]) : q ≠ p := by
  obtain ⟨w0, w1, w2, a0, a1, e⟩ := w
  exact ne_of h e (n _ _ _)
theorem Wl.neS {H : Hp} {p q : Addr} {ws : List Str} (w : Wl H p) (h : H q = some (.lst (ws.map V.str))) : q ≠ p := w.ne h fun a b c z => by
  cases ws with
  | nil => cases z
  | cons x t => cases z
theorem Wl.upd_ {H : Hp} {p q : Addr} {o : HO} (w : Wl H p) (n : q ≠ p) : Wl (upd H q o) p := by
  obtain ⟨w0, w1, w2, a0, a1, e⟩ := w
  exact ⟨w0, w1, w2, a0, a1, by rw [upd_ne n.symm]; exact e⟩
def spPickL : Sp := fun vs H Q _ => ∃ (p m : Addr) (xs : List V), vs = [.ref p, .ref m] ∧ Wl H p ∧ m ≠ p ∧ H m = some (.lst xs) ∧ 0 < xs.length ∧ xs.length ≤ 1000 ∧
  ∀ (i : Nat) (x : V) (o : HO), xs[i]? = some x → Wl (upd H p o) p → Q x (upd H p o)
/-- rules whose readings speak of a K that is the context's -/
theorem ix_listK {X : Cx} {K : PySem.W.Frag} (h : X.K = K) : IxR X (rIxL K) := by subst h; exact ix_list
theorem sl_listK {X : Cx} {K : PySem.W.Frag} (h : X.K = K) : SlR X (rSlL K) := by subst h; exact sl_list
section
variable {P : Program} {w : World} {K : PySem.W.Frag} {mg : Str → Option Value} {base : Heap}
theorem scPick : FnScope ["_law_well_here", "_law_menu"] ["_law_well_here", "_law_menu"] (defScope sPick) := ⟨rfl, rfl, rfl, by decide +kernel, rfl, by decide +kernel, by decide +kernel⟩
theorem ok_pickL {f : Addr} {fd : FuncData} (F : Fun K "_law_pick" "_law_pick" sPick f fd) (hD : Hv P w K mg base 1 "_law_dip" ["_law_well_here", "_law_size"] spDip) (hL : mg "len" = none) : FnOk P w K mg base CX0 2 f fd ["_law_well_here", "_law_menu"] spPickL := by
  refine F.ok scPick (fun vs H Q E h => ?_) (fun cdv A outer s H vs Q E hr h => ?_)
  · obtain ⟨p, m, xs, rfl, _⟩ := h
    rfl
  · obtain ⟨p, m, xs, rfl, hW, hn, hm, z0, z1, k⟩ := h
    refine ⟨_, pss_one (ps_ret (pe_ix ix_list (pv 1) (pe_cl hD hr rfl pass0 (pa_cons (pv 0) (pa_cons (pe_callB call_len_seq (by rfl) hL PySem.boot_len (pa_cons (pv 1) pa_nil)) pa_nil))) (fun _ _ => rfl))), ?_⟩
    refine ⟨_, rfl, _, rfl, _, rfl, m, _, rfl, .inl (SqL.of hm), p, _, rfl, hW, (by omega), (by omega), fun d o d0 d1 hW' => ?_⟩
    obtain ⟨j, rfl⟩ := Int.eq_ofNat_of_zero_le d0
    have hj : j < xs.length := by omega
    have ei : xs[j]? = some xs[j] := List.getElem?_eq_getElem hj
    exact ⟨m, xs, _, _, rfl, rfl, SqL.of (by rw [upd_ne hn]; exact hm), atI_nat ei, k j _ o ei hW'⟩
end
end My
namespace My
open PySem PySem.Spec PyProof.Rows L2
abbrev menuW : List Str := ["out", "in", "good", "moods", "signs", "a", "maa", "mab", "last"]
def spTerms : Sp := fun vs H Q _ => ∃ (p : Addr) (n : Nat), vs = [.ref p, .int (n : Int)] ∧ Wl H p ∧ n ≤ 9 ∧
  ∀ (l : Addr) (ws : List Str) (H' : Hp), ws.length = n → ws.Nodup → (∀ x ∈ ws, x ∈ menuW) → H l = none → Sb p H H' → Wl H' p → H' l = some (.lst (ws.map V.str)) → Q (.ref l) H'
def termsL (b far n : Nat) : List Str := (List.range n).map fun k => menuW.getD ((b + far * k) % 9) Str.empty
theorem terms_ok : ∀ n, n < 10 → ∀ b, b < 9 → ∀ far ∈ [1, 2, 4, 5], (termsL b far n).Nodup := by decide +kernel
theorem terms_mem (b far n : Nat) : ∀ x ∈ termsL b far n, x ∈ menuW := fun x hx => by
  obtain ⟨k, _, rfl⟩ := List.mem_map.mp hx
  have h : (b + far * k) % 9 < menuW.length := Nat.mod_lt _ (by decide)
  rw [List.getD_eq_getElem?_getD, List.getElem?_eq_getElem h]
  exact List.getElem_mem h
section
variable {P : Program} {w : World} {K : PySem.W.Frag} {mg : Str → Option Value} {base : Heap}
abbrev nTerms : List Str := ["_law_well_here", "_law_size", "_law_begin", "_law_far", "_law_menu", "_law_k"]
theorem scTerms : FnScope nTerms ["_law_well_here", "_law_size"] (defScope sTerms) := ⟨rfl, rfl, rfl, by decide +kernel, rfl, by decide +kernel, by decide +kernel⟩
theorem ok_terms {f : Addr} {fd : FuncData} (F : Fun K "_law_terms" "_law_terms" sTerms f fd) (hD : Hv P w K mg base 1 "_law_dip" ["_law_well_here", "_law_size"] spDip) (hP : Hv P w K mg base 2 "_law_pick" ["_law_well_here", "_law_menu"] spPickL) (hI : mg "int" = none) (hR : mg "range" = none) :
    FnOk P w K mg base CX0 3 f fd ["_law_well_here", "_law_size"] spTerms := by
  refine F.ok scTerms (fun vs H Q E h => ?_) (fun cdv A outer s H vs Q E hr h => ?_)
  · obtain ⟨p, n, rfl, _⟩ := h
    rfl
  · obtain ⟨p, n, rfl, hW, zn, k⟩ := h
    refine ⟨_, pss_cons (ps_asg (pe_tup (pa_cons (pe_cl hD (hr.mono (by decide)) rfl pass0 (pa_cons (pv 0) (pa_cons pe_int pa_nil))) (pa_cons (pe_cl hP hr rfl pass0 (pa_cons (pv 0) (pa_cons (pe_lst (pa_cons pe_int (pa_cons pe_int (pa_cons pe_int (pa_cons pe_int pa_nil))))) pa_nil))) pa_nil)))
          (pg_tup (by rfl) (pgs_cons (pg_name (i := 2) scTerms.nd rfl (Or.inr rfl)) (pgs_cons (pg_name (i := 3) scTerms.nd rfl (Or.inr rfl)) pgs_nil))))
      (pss_cons (ps_set (i := 4) scTerms.nd rfl (Or.inr rfl) (pe_lst (pa_cons pe_str (pa_cons pe_str (pa_cons pe_str (pa_cons pe_str (pa_cons pe_str (pa_cons pe_str (pa_cons pe_str (pa_cons pe_str (pa_cons pe_str pa_nil)))))))))))
      (pss_one (ps_ret (pe_lc (own := [("_law_k", 5)]) (g := gName 5) (tt := tYes) rfl scTerms.nd (pi_range1 rfl hR (pa_cons (pv 1) pa_nil)) (blkOk_by (N := nTerms) (sc := defScope sTerms) (by decide +kernel))
          (fun _ _ _ _ _ => pg_name (i := 5) scTerms.nd rfl (Or.inl rfl)) (fun _ _ _ _ _ => pts_nil) (fun _ _ _ _ _ => pe_ix (ix_listK (K := K) rfl) (pv 4) (pe_op op_mod (pe_callTy call_int1 (by rfl) hI (by decide +kernel) (pa_cons (pe_op op_add (pv 2) (pe_op op_mul (pv 3) (pv 5))) pa_nil)) pe_int) (fun _ _ => rfl)))))), ?_⟩
    refine ⟨_, rfl, p, 9, rfl, hW, (by decide), (by decide), fun d o d0 d1 hW1 => ?_⟩
    have s1 : Sb p H (upd H p o) := Sb.upd_
    generalize upd H p o = H1 at hW1 s1 ⊢
    refine ⟨_, rfl, (by show 4 ≤ sizeLine; decide), fun q hq => ?_⟩
    have hW2 := hW1.same (same_new (o := .lst [.int 1, .int 2, .int 4, .int 5]) hq)
    have s2 := s1.trans (Sb.of (same_new (o := .lst [.int 1, .int 2, .int 4, .int 5]) hq))
    refine ⟨p, q, _, rfl, hW2, hW1.new hq, upd_same, by decide, by decide, fun i x o2 hx hW3 => ?_⟩
    have s3 := s2.trans (Sb.upd_ (p := p) (o := o2))
    obtain ⟨far, hfar, rfl⟩ : ∃ far : Nat, far ∈ [1, 2, 4, 5] ∧ x = .int (far : Int) := by
      match i, hx with
      | 0, hx => exact ⟨1, by decide, (Option.some.inj hx).symm⟩
      | 1, hx => exact ⟨2, by decide, (Option.some.inj hx).symm⟩
      | 2, hx => exact ⟨4, by decide, (Option.some.inj hx).symm⟩
      | 3, hx => exact ⟨5, by decide, (Option.some.inj hx).symm⟩
      | _ + 4, hx => simp at hx
    generalize upd (upd H1 q (.lst [.int 1, .int 2, .int 4, .int 5])) p o2 = H3 at hW3 s3 ⊢
    obtain ⟨b, rfl⟩ := Int.eq_ofNat_of_zero_le d0
    have hb : b < 9 := by omega
    refine ⟨(by show 2 ≤ sizeLine; decide), fun t ht => ?_⟩
    have hW4 := hW3.same (same_new (o := .tup [.int (b : Int), .int (far : Int)]) ht)
    have s4 := s3.trans (Sb.of (same_new (o := .tup [.int (b : Int), .int (far : Int)]) ht))
    refine ⟨t, _, rfl, SqT.of upd_same, rfl, _, _, rfl, _, _, rfl, rfl, ?_⟩
    generalize upd H3 t (.tup [.int (b : Int), .int (far : Int)]) = H4 at hW4 s4 ⊢
    refine ⟨(by show 9 ≤ sizeLine; decide), fun m hm => ?_⟩
    have hW5 := hW4.same (same_new (o := .lst (menuW.map V.str)) hm)
    have s5 := s4.trans (Sb.of (same_new (o := .lst (menuW.map V.str)) hm))
    have em : upd H4 m (.lst (menuW.map V.str)) m = some (.lst (menuW.map V.str)) := upd_same
    refine ⟨_, rfl, n, rfl, by omega, by omega, fun D hD' => ?_⟩
    have hfar5 : far ≤ 5 := by
      simp at hfar
      omega
    refine lcG (List.range n) (fun j => some (V.str (menuW.getD ((b + far * j) % 9) Str.empty))) (by rw [List.length_range, Int.toNat_natCast]; exact walk_range) (by rw [List.length_range]; omega) hD' (fun i H x H' h => by rw [h.1]; exact Same.refl _) (fun _ _ => trivial) (fun i j y H' H'' k1 hj sj hy k2 => ?_) (fun H6 s6 e6 => ?_)
    · obtain ⟨rfl, rfl⟩ := hy
      have hi : i < n := by
        have := (List.getElem?_eq_some_iff.mp hj).1
        rw [List.length_range] at this
        exact this
      have ej : j = i := by
        rw [List.getElem?_range hi] at hj
        exact (Option.some.inj hj).symm
      subst ej
      refine ⟨rfl, _, rfl, _, rfl, _, rfl, _, rfl, _, _, rfl, rfl, .inl ⟨by omega, by omega⟩, _, _, rfl, rfl, .inl ⟨_, rfl, _, _, rfl, rfl, (by show (0 : Int) < 9; decide), ?_⟩⟩
      have ez : ((b : Int) + (far : Int) * (0 + (j : Int))) % 9 = (((b + far * j) % 9 : Nat) : Int) := by
        rw [Int.zero_add]
        push_cast
        rfl
      show rIxL K (V.ref m) (V.int (((b : Int) + (far : Int) * (0 + (j : Int))) % 9)) H'' fun y H4 => k1 (some y) H4
      rw [ez]
      have hlt : (b + far * j) % 9 < menuW.length := Nat.mod_lt _ (by decide)
      refine ⟨m, _, _, V.str (menuW.getD ((b + far * j) % 9) Str.empty), rfl, rfl, SqL.of (sj _ _ em), atI_nat ?_, k2 _ (Same.refl _)⟩
      rw [List.getElem?_map, List.getD_eq_getElem?_getD, List.getElem?_eq_getElem hlt]
      rfl
    · refine k D (termsL b far n) H6 (by unfold termsL; rw [List.length_map, List.length_range]) (terms_ok n (by omega) b hb far hfar) (terms_mem _ _ _) ?_ (s5.trans (Sb.of s6)) (hW5.same s6) ?_
      · exact s5.free (hW5.new hD') hD'
      · rw [e6, List.filterMap_eq_map']
        unfold termsL
        rw [List.map_map]
        rfl
end
end My
namespace My
open PySem PySem.Spec PyProof.Rows L2
/-! what the program says of texts, as plain functions -/
def isWordL (x : Str) : Bool := decide (1 ≤ x.length) && decide (x.length ≤ 8) && madeL x abc
def spWord : Sp := fun vs H Q _ => ∃ x : Str, vs = [.str x] ∧ x.length ≤ 16000000 ∧ ∀ H', Same H H' → Q (.bl (isWordL x)) H'
section
variable {P : Program} {w : World} {K : PySem.W.Frag} {mg : Str → Option Value} {base : Heap}
theorem scWord : FnScope ["text"] ["text"] (defScope sWord) := ⟨rfl, rfl, rfl, by decide +kernel, rfl, by decide +kernel, by decide +kernel⟩
theorem ok_word {f : Addr} {fd : FuncData} {tA tB : Tok} (F : Fun K "is_word" "is_word" sWord f fd) (hO : Hv P w K mg base 1 "made_of" ["text", "letters"] spMade) (hL : mg "len" = none) (gL : mg "LONGEST_WORD" = some (.int 8 tA)) (gA : mg "LETTERS" = some (.str abc tB)) : FnOk P w K mg base CX0 2 f fd ["text"] spWord := by
  refine F.ok scWord (fun vs H Q E h => ?_) (fun cdv A outer s H vs Q E hr h => ?_)
  · obtain ⟨x, rfl, _⟩ := h
    rfl
  · obtain ⟨x, rfl, hx, k⟩ := h
    refine ⟨_, pss_one (ps_ret (pe_and (pe_chain op_le op_le pe_int (pe_callB call_len_str (by rfl) hL PySem.boot_len (pa_cons (pv 0) pa_nil)) (pe_glob (v := .int 8) rfl gL ⟨_, rfl⟩)) (pe_one (pe_cl hO hr rfl pass0 (pa_cons (pv 0) (pa_cons (pe_glob (v := .str abc) rfl gA ⟨_, rfl⟩) pa_nil)))))), ?_⟩
    refine ⟨_, rfl, x, rfl, (by rw [sizeLine_eq]; omega), _, _, rfl, rfl, _, rfl, ?_⟩
    refine ite2 (fun c1 => ?_) (fun c1 => ?_)
    · refine ⟨_, _, rfl, rfl, _, rfl, ite2 (fun c2 => ⟨_, rfl, x, abc, rfl, hx, fun H' s => ?_⟩) (fun c2 => ?_)⟩
      · have e : isWordL x = madeL x abc := by
          have h1 := of_decide_eq_true c1
          have h2 := of_decide_eq_true c2
          unfold isWordL
          rw [decide_eq_true (by omega), decide_eq_true (by omega)]
          simp
        rw [← e]
        exact k _ s
      · have e : isWordL x = false := by
          have h2 := of_decide_eq_false (Bool.eq_false_iff.mpr c2)
          unfold isWordL
          rw [decide_eq_false (by omega : ¬ x.length ≤ 8)]
          simp
        rw [e] at k
        exact k _ (Same.refl _)
    · have e : isWordL x = false := by
        have h2 := of_decide_eq_false (Bool.eq_false_iff.mpr c1)
        unfold isWordL
        rw [decide_eq_false (by omega : ¬ 1 ≤ x.length)]
        simp
      rw [e] at k
      exact ⟨_, rfl, iteF (k _ (Same.refl _))⟩
end
end My
namespace My
open PySem PySem.Spec PyProof.Rows L2 PySem.GX
theorem mem_ins {ys : List Str} {k z : Str} : z ∈ ins ys k ↔ z = k ∨ z ∈ ys := by
  unfold ins
  by_cases h : k ∈ ys
  · rw [if_pos h]
    constructor
    · intro m; exact .inr m
    · rintro (rfl | m)
      · exact h
      · exact m
  · rw [if_neg h, List.mem_cons]
theorem setFold_all : ∀ (n : Nat) (xs : List Str), xs.length = n → (setFold xs).Nodup ∧ (∀ z, z ∈ setFold xs ↔ z ∈ xs) ∧ (xs.Nodup → (setFold xs).Perm xs) ∧ (¬ xs.Nodup → (setFold xs).length < xs.length) := by
  intro n
  induction n with
  | zero =>
    intro xs h
    have : xs = [] := List.eq_nil_of_length_eq_zero h
    subst this
    exact ⟨List.nodup_nil, fun _ => Iff.rfl, fun _ => List.Perm.refl _, fun h => absurd List.nodup_nil h⟩
  | succ n ih =>
    intro xs h
    have hne : xs ≠ [] := by intro z; subst z; cases h
    obtain ⟨ys, a, rfl⟩ : ∃ ys a, xs = ys ++ [a] := ⟨xs.dropLast, xs.getLast hne, (List.dropLast_concat_getLast hne).symm⟩
    have hl : ys.length = n := by rw [List.length_append] at h; simpa using h
    obtain ⟨i1, i2, i3, i4⟩ := ih ys hl
    have len := setFold_len n ys hl
    rw [setFold_snoc]
    refine ⟨ins_nodup i1, fun z => ?_, fun nd => ?_, fun nd => ?_⟩
    · rw [mem_ins, i2, List.mem_append]
      simp
      constructor
      · rintro (h | h) <;> simp [h]
      · rintro (h | h) <;> simp [h]
    · rw [List.nodup_append] at nd
      have ha : a ∉ setFold ys := fun z => nd.2.2 a ((i2 a).mp z) a (by simp) rfl
      unfold ins
      rw [if_neg ha]
      exact ((i3 nd.1).cons a).trans (List.perm_append_singleton a ys).symm
    · unfold ins
      by_cases ha : a ∈ setFold ys
      · rw [if_pos ha, List.length_append]
        simp; omega
      · rw [if_neg ha, List.length_append]
        have : ¬ ys.Nodup := fun z => nd (by
          rw [List.nodup_append]
          refine ⟨z, by simp, fun b hb c hc e => ?_⟩
          simp at hc
          subst hc; subst e
          exact ha ((i2 b).mpr hb))
        have := i4 this
        simp; omega
theorem setFold_eqlen (xs : List Str) : decide ((setFold xs).length = xs.length) = decide xs.Nodup := by
  obtain ⟨_, _, i3, i4⟩ := setFold_all _ xs rfl
  by_cases h : xs.Nodup
  · rw [decide_eq_true h, decide_eq_true (i3 h).length_eq]
  · rw [decide_eq_false h, decide_eq_false (Nat.ne_of_lt (i4 h))]
/-- the sign c as a text -/
abbrev sg (c : Nat) : Str := ⟨#[c]⟩
theorem sg_inj {a b : Nat} (h : sg a = sg b) : a = b := by
  have := congrArg (fun s : Str => s.cps.toList) h
  simpa using this
theorem str_ext {x y : Str} (h : x.cps.toList = y.cps.toList) : x = y := by
  cases x; cases y
  simp at h
  rw [h]
theorem asc_eq : ∀ {a b : List Nat}, a.Pairwise (· < ·) → b.Pairwise (· < ·) → (∀ z, z ∈ a ↔ z ∈ b) → a = b
  | [], [], _, _, _ => rfl
  | [], y :: _, _, _, h => by have := (h y).mpr (by simp); simp at this
  | x :: _, [], _, _, h => by have := (h x).mp (by simp); simp at this
  | x :: xs, y :: ys, h1, h2, h => by
    rw [List.pairwise_cons] at h1 h2
    have e : x = y := by
      have m1 := (h x).mp (by simp)
      have m2 := (h y).mpr (by simp)
      simp at m1 m2
      rcases m1 with m1 | m1
      · exact m1
      · rcases m2 with m2 | m2
        · exact m2.symm
        · have a1 := h1.1 _ m2
          have a2 := h2.1 _ m1
          omega
    subst e
    congr 1
    refine asc_eq h1.2 h2.2 fun z => ?_
    constructor
    · intro m
      have := (h z).mp (by simp [m])
      simp at this
      rcases this with rfl | t
      · exact absurd (h1.1 _ m) (Nat.lt_irrefl _)
      · exact t
    · intro m
      have := (h z).mpr (by simp [m])
      simp at this
      rcases this with rfl | t
      · exact absurd (h2.1 _ m) (Nat.lt_irrefl _)
      · exact t
theorem rising_asc : ∀ (cs : List Nat) (p : Nat), risingS (sg p) (cs.map sg) = true → (p :: cs).Nodup → (p :: cs).Pairwise (· < ·)
  | [], p, _, _ => by simp
  | c :: cs, p, h, nd => by
    unfold risingS at h
    rw [List.map_cons] at h
    simp only [Bool.and_eq_true] at h
    have nd' := (List.nodup_cons.mp nd)
    have ih := rising_asc cs c h.2 nd'.2
    have h1 : ¬ c < p := by
      have := h.1
      simp [ltCps] at this
      omega
    have h2 : p ≠ c := fun z => nd'.1 (by simp [z])
    rw [List.pairwise_cons] at ih ⊢
    refine ⟨fun z hz => ?_, List.pairwise_cons.mpr ih⟩
    simp at hz
    rcases hz with rfl | hz
    · omega
    · have := ih.1 z hz
      omega
theorem join_signs : ∀ cs : List Nat, (Str.join Str.empty (cs.map sg)).cps.toList = cs
  | [] => rfl
  | [c] => rfl
  | c :: d :: cs => by
    have ih := join_signs (d :: cs)
    show ((sg c ++ Str.empty ++ Str.join Str.empty ((d :: cs).map sg)).cps).toList = _
    show (((#[c] ++ #[]) ++ (Str.join Str.empty ((d :: cs).map sg)).cps)).toList = _
    rw [Array.toList_append, ih]
    rfl
/-- the text is its own signs in their order, each once -/
theorem asc_join {x : Str} {zs : List Str} (hp : zs.Perm (setFold (signsOf x))) (hs : sortedS zs = true) : decide (V.str x = V.str (Txt.join Str.empty zs)) = decide (x.cps.toList.Pairwise (· < ·)) := by
  obtain ⟨i1, i2, i3, i4⟩ := setFold_all _ (signsOf x) rfl
  have nd : zs.Nodup := hp.nodup_iff.mpr i1
  have hm : ∀ z, z ∈ zs ↔ z ∈ signsOf x := fun z => (hp.mem_iff).trans (i2 z)
  obtain ⟨cs, rfl⟩ : ∃ cs : List Nat, zs = cs.map sg := by
    have all : ∀ z ∈ zs, ∃ c, z = sg c := fun z hz => by
      have := (hm z).mp hz
      unfold signsOf at this
      obtain ⟨c, _, rfl⟩ := List.mem_map.mp this
      exact ⟨c, rfl⟩
    clear hp hs nd hm i1 i2 i3 i4
    induction zs with
    | nil => exact ⟨[], rfl⟩
    | cons z t ih =>
      obtain ⟨c, rfl⟩ := all z (by simp)
      obtain ⟨cs, e⟩ := ih fun y hy => all y (by simp [hy])
      exact ⟨c :: cs, by rw [e]; rfl⟩
  have ndc : cs.Nodup := by
    unfold List.Nodup at nd
    rw [List.pairwise_map] at nd
    exact nd.imp fun h z => h (congrArg sg z)
  have asc : cs.Pairwise (· < ·) := by
    cases cs with
    | nil => simp
    | cons c t => exact rising_asc t c hs ndc
  have mem : ∀ c, c ∈ cs ↔ c ∈ x.cps.toList := fun c => by
    have := hm (sg c)
    unfold signsOf at this
    constructor
    · intro h
      obtain ⟨d, hd, e⟩ := List.mem_map.mp (this.mp (List.mem_map.mpr ⟨c, h, rfl⟩))
      rw [← sg_inj e]; exact hd
    · intro h
      obtain ⟨d, hd, e⟩ := List.mem_map.mp (this.mpr (List.mem_map.mpr ⟨c, h, rfl⟩))
      rw [← sg_inj e]; exact hd
  have ej : (Txt.join Str.empty (cs.map sg)).cps.toList = cs := by rw [TL.join_eq, join_signs]
  by_cases h : x.cps.toList.Pairwise (· < ·)
  · rw [decide_eq_true h, decide_eq_true]
    congr 1
    exact str_ext (by rw [ej]; exact asc_eq h asc fun z => (mem z).symm)
  · rw [decide_eq_false h, decide_eq_false]
    intro e
    have e' : x = _ := V.str.inj e
    apply h
    rw [e', ej]
    exact asc
end My
namespace My
open PySem PySem.Spec PyProof.Rows L2 PySem.GX
def areSignsL : List Str → Bool
  | [x] => decide (1 ≤ x.length) && decide (x.length ≤ 3) && madeL x abc && decide (x.cps.toList.Pairwise (· < ·))
  | _ => false
def areMoodsL (ws : List Str) : Bool := decide (1 ≤ ws.length) && decide (ws.length ≤ 300) && ws.all isWordL && decide ws.Nodup
def areGoodL (ws ms : List Str) : Bool := decide (ws = ms.filter fun m => decide (m ∈ ws))
end My
namespace My
open PySem PySem.Spec PyProof.Rows L2 PySem.GX
theorem areS1 (x : Str) : areSignsL [x] = (decide (1 ≤ x.length) && decide (x.length ≤ 3) && madeL x abc && decide (x.cps.toList.Pairwise (· < ·))) := rfl
def spSigns (K : PySem.W.Frag) : Sp := fun vs H Q _ => ∃ (l : Addr) (ws : List Str), vs = [.ref l] ∧ H l = some (.lst (ws.map V.str)) ∧ (∀ x ∈ ws, x.length ≤ 16000000) ∧ ∀ H', Same H H' → Q (.bl (areSignsL ws)) H'
def spMoods (K : PySem.W.Frag) : Sp := fun vs H Q _ => ∃ (l : Addr) (ws : List Str), vs = [.ref l] ∧ H l = some (.lst (ws.map V.str)) ∧ (∀ x ∈ ws, x.length ≤ 16000000) ∧ ∀ H', Same H H' → Q (.bl (areMoodsL ws)) H'
section
variable {P : Program} {w : World} {K : PySem.W.Frag} {mg : Str → Option Value} {base : Heap}
theorem scSigns : FnScope ["words"] ["words"] (defScope sSigns) := ⟨rfl, rfl, rfl, by decide +kernel, rfl, by decide +kernel, by decide +kernel⟩
theorem ok_signs {f : Addr} {fd : FuncData} {tA tB : Tok} (F : Fun K "are_signs" "are_signs" sSigns f fd) (hO : Hv P w K mg base 1 "made_of" ["text", "letters"] spMade) (gA : mg "LETTERS" = some (.str abc tB)) (hL : mg "len" = none) (hS : mg "set" = none) (hT : mg "sorted" = none) (gM : mg "MOST_SIGNS" = some (.int 3 tA)) :
    FnOk P w K mg base CX0 2 f fd ["words"] (spSigns K) := by
  refine F.ok scSigns (fun vs H Q E h => ?_) (fun cdv A outer s H vs Q E hr h => ?_)
  · obtain ⟨l, ws, rfl, _⟩ := h
    rfl
  · obtain ⟨l, ws, rfl, hl, hx, k⟩ := h
    refine ⟨_, pss_cons (ps_if (PW.pt (pw_or (pt_cmpR op_ne (pe_callB call_len_seq (by rfl) hL PySem.boot_len (pa_cons (pv 0) pa_nil)) pe_int (nomark _))
        (pw_or1 (pt_not (pt_chain op_le op_le pe_int (pe_callB call_len_str (by rfl) hL PySem.boot_len (pa_cons (pe_ix ix_list (pv 0) pe_int (fun _ _ => rfl)) pa_nil)) (pe_glob (v := .int 3) rfl gM ⟨_, rfl⟩))))))
        (pss_one (ps_ret pe_bl)) pss_nil)
      (pss_one (ps_ret (pe_and (pe_cl hO hr rfl pass0 (pa_cons (pe_ix ix_list (pv 0) pe_int (fun _ _ => rfl)) (pa_cons (pe_glob (v := .str abc) rfl gA ⟨_, rfl⟩) pa_nil)))
        (pe_one (pe_cmpR op_eq (pe_ix ix_list (pv 0) pe_int (fun _ _ => rfl)) (pe_join pe_str (pe_callB (cr_sortedTx rfl) (by rfl) hT (by decide +kernel) (pa_cons (pe_callTy (cr_setS rfl) (by rfl) hS (by decide +kernel) (pa_cons (pe_ix ix_list (pv 0) pe_int (fun _ _ => rfl)) pa_nil)) pa_nil))) (nomark _)))))), ?_⟩
    refine ⟨_, rfl, l, _, rfl, .inl (SqL.of hl), rfl, _, rfl, ?_⟩
    rw [List.length_map]
    match ws, hl, hx, k with
    | [], hl, hx, k => exact iteT (iteT (k _ (Same.refl _)))
    | _ :: _ :: _, hl, hx, k =>
      refine ite2 (fun c => iteT (k _ (Same.refl _))) (fun c => ?_)
      exfalso
      apply c
      simp
      omega
    | [x], hl, hx, k =>
      refine iteF ?_
      have hz := hx x (by simp)
      refine ⟨_, rfl, l, _, _, _, rfl, rfl, SqL.of hl, atI_nat (j := 0) rfl, x, rfl, (by rw [sizeLine_eq]; omega), _, _, rfl, rfl, _, rfl, ?_⟩
      refine ite2 (fun c1 => ?_) (fun c1 => ?_)
      · refine ⟨_, _, rfl, rfl, _, rfl, ?_⟩
        have h1 := of_decide_eq_true c1
        refine ite2 (fun c2 => ?_) (fun c2 => ?_)
        · have e : areSignsL [x] = false := by
            have h2 : (3 : Int) < (x.length : Int) := by simpa using c2
            rw [areS1]
            rw [decide_eq_false (by omega : ¬ x.length ≤ 3)]
            simp
          rw [e] at k
          exact k _ (Same.refl _)
        · have h2 : (x.length : Int) ≤ 3 := by simpa using c2
          have e : areSignsL [x] = (madeL x abc && decide (x.cps.toList.Pairwise (· < ·))) := by
            rw [areS1, decide_eq_true (show 1 ≤ x.length by omega), decide_eq_true (show x.length ≤ 3 by omega)]
            simp
          rw [e] at k
          refine ⟨_, rfl, l, _, _, _, rfl, rfl, SqL.of hl, atI_nat (j := 0) rfl, x, abc, rfl, hz, fun H1 s1 => ⟨_, rfl, ite2 (fun c3 => ?_) (fun c3 => ?_)⟩⟩
          · have hl1 := s1 _ _ hl
            refine ⟨_, rfl, l, _, _, _, rfl, rfl, SqL.of hl1, atI_nat (j := 0) rfl, ⟨_, rfl⟩, _, rfl, l, _, _, _, rfl, rfl, SqL.of hl1, atI_nat (j := 0) rfl, x, rfl, (by omega), fun p hp => ⟨p, _, rfl, upd_same, fun zs q pz sz hq => ?_⟩⟩
            have hlen : zs.length ≤ 3 := by
              rw [pz.length_eq]
              have := setFold_len _ (signsOf x) rfl
              have e2 : (signsOf x).length = x.length := by unfold signsOf; rw [List.length_map, Array.length_toList]; rfl
              omega
            have hone : ∀ z ∈ zs, z.length = 1 := fun z hz => by
              have := (setFold_all _ (signsOf x) rfl).2.1 z |>.mp (pz.mem_iff.mp hz)
              unfold signsOf at this
              obtain ⟨c, _, rfl⟩ := List.mem_map.mp this
              rfl
            refine ⟨_, q, zs, rfl, rfl, .inl (SqL.of upd_same), ?_, rfl, ?_⟩
            · have : (zs.map (·.length)).sum = zs.length := by
                clear pz sz hq hlen
                induction zs with
                | nil => rfl
                | cons z t ih => 
                  rw [List.map_cons, List.sum_cons, ih (fun y hy => hone y (by simp [hy])), hone z (by simp), List.length_cons]
                  omega
              rw [this]
              have e0 : (Str.ofString "").length = 0 := rfl
              rw [e0]
              omega
            · have := asc_join pz sz
              rw [c3, Bool.true_and] at k
              rw [← this] at k
              exact k _ ((s1.trans (same_new hp)).trans (same_new hq))
          · rw [Bool.eq_false_iff.mpr c3] at k
            exact k _ s1
      · refine ⟨_, rfl, iteT ?_⟩
        have e : areSignsL [x] = false := by
          have h2 := of_decide_eq_false (Bool.eq_false_iff.mpr c1)
          rw [areS1]
          rw [decide_eq_false (by omega : ¬ 1 ≤ x.length)]
          simp
        rw [e] at k
        exact k _ (Same.refl _)
end
end My
namespace My
open PySem PySem.Spec PyProof.Rows L2
theorem len_app (a b : Str) : (a ++ b).length = a.length + b.length := Str.length_append a b
theorem cps_app (a b : Str) : (a ++ b).cps.toList = a.cps.toList ++ b.cps.toList := by
  show (a.cps ++ b.cps).toList = _
  exact Array.toList_append
theorem ok_low {y : Str} (h : ∀ c ∈ y.cps.toList, c < 256) : PyData.strOk y = true := by
  unfold PyData.strOk
  rw [Array.all_eq_true_iff_forall_mem]
  intro c hc
  have := h c (by simpa using hc)
  simp
  omega
theorem yat_same (xs : List V) : ∀ i H x H', YAt xs i H x H' → Same H H' := fun i H x H' h => by rw [h.1]; exact Same.refl _
theorem map_get {α : Type} {xs : List α} {f : α → V} {i : Nat} {a : α} {x : V} (ha : xs[i]? = some a) (h : (xs.map f)[i]? = some x) : x = f a := by
  rw [List.getElem?_map, ha] at h
  exact (Option.some.inj h).symm
theorem walk_listL {K : PySem.W.Frag} {a : Addr} {α : Type} (xs : List α) (f : α → V) : Walk (Itl K a) xs.length (fun H => SqL K H a (xs.map f)) (YAt (xs.map f)) := by
  have := walk_list (K := K) (a := a) (xs := xs.map f)
  rw [List.length_map] at this
  exact this
theorem in_strs (x : Str) : ∀ ys : List Str, inV (.str x) (ys.map V.str) = decide (x ∈ ys)
  | [] => rfl
  | y :: t => by
    have ih := in_strs x t
    unfold inV at ih ⊢
    rw [List.map_cons, List.any_cons, ih]
    have e : eqV (.str y) (.str x) = decide (y = x) := by
      show (y == x) = _
      by_cases h : y = x
      · subst h; simp
      · simp [h]
    rw [e]
    by_cases h : y = x
    · subst h; simp
    · simp [h, Ne.symm h]
theorem flat_strs (ys : List Str) : (ys.map V.str).all flatV = true := by
  rw [List.all_map]
  exact List.all_eq_true.mpr fun _ _ => rfl
end My
namespace My
open PySem PySem.Spec PyProof.Rows L2 PySem.GX
section
variable {P : Program} {w : World} {K : PySem.W.Frag} {mg : Str → Option Value} {base : Heap}
theorem scMoods : FnScope ["words", "word"] ["words"] (defScope sMoods) := ⟨rfl, rfl, rfl, by decide +kernel, rfl, by decide +kernel, by decide +kernel⟩
theorem ok_moods {f : Addr} {fd : FuncData} {tA : Tok} (F : Fun K "are_moods" "are_moods" sMoods f fd) (hW : Hv P w K mg base 2 "is_word" ["text"] spWord) (hL : mg "len" = none) (hS : mg "set" = none) (hA : mg "all" = none) (gM : mg "MOST_MOODS" = some (.int 300 tA)) :
    FnOk P w K mg base CX0 3 f fd ["words"] (spMoods K) := by
  refine F.ok scMoods (fun vs H Q E h => ?_) (fun cdv A outer s H vs Q E hr h => ?_)
  · obtain ⟨l, ws, rfl, _⟩ := h
    rfl
  · obtain ⟨l, ws, rfl, hl, hx, k⟩ := h
    refine ⟨_, pss_cons (ps_if (pt_not (pt_chain op_le op_le pe_int (pe_callB call_len_seq (by rfl) hL PySem.boot_len (pa_cons (pv 0) pa_nil)) (pe_glob (v := .int 300) rfl gM ⟨_, rfl⟩)))
        (pss_one (ps_ret pe_bl)) pss_nil)
      (pss_one (ps_ret (pe_and (pe_callB (cr_all rfl) (by rfl) hA (by decide +kernel) (pa_cons (pe_lc (own := [("word", 1)]) (g := gName 1) (tt := tYes) rfl scMoods.nd (pi_list (pv 0))
          (blkOk_by (N := ["words", "word"]) (sc := defScope sMoods) (by decide +kernel)) (fun _ _ _ _ _ => pg_name (i := 1) scMoods.nd rfl (Or.inl rfl)) (fun _ _ _ _ _ => pts_nil) (fun _ _ _ _ _ => pe_cl hW hr rfl pass0 (pa_cons (pv 1) pa_nil))) pa_nil))
        (pe_one (pe_cmpR op_eq (pe_callB cr_lenSet (by rfl) hL PySem.boot_len (pa_cons (pe_callTy (cr_setL rfl) (by rfl) hS (by decide +kernel) (pa_cons (pv 0) pa_nil)) pa_nil)) (pe_callB call_len_seq (by rfl) hL PySem.boot_len (pa_cons (pv 0) pa_nil)) (nomark _)))))), ?_⟩
    refine ⟨_, rfl, l, _, rfl, .inl (SqL.of hl), _, _, rfl, rfl, _, rfl, ?_⟩
    rw [List.length_map]
    refine ite2 (fun c1 => ?_) (fun c1 => ?_)
    · refine ⟨_, _, rfl, rfl, _, rfl, ?_⟩
      have h1 := of_decide_eq_true c1
      refine ite2 (fun c2 => ?_) (fun c2 => ?_)
      · have e : areMoodsL ws = false := by
          have h2 : (300 : Int) < (ws.length : Int) := by simpa using c2
          unfold areMoodsL
          rw [decide_eq_false (by omega : ¬ ws.length ≤ 300)]
          simp
        rw [e] at k
        exact k _ (Same.refl _)
      · have h2 : (ws.length : Int) ≤ 300 := by simpa using c2
        have e : areMoodsL ws = (ws.all isWordL && decide ws.Nodup) := by
          unfold areMoodsL
          rw [decide_eq_true (show 1 ≤ ws.length by omega), decide_eq_true (show ws.length ≤ 300 by omega)]
          simp
        rw [e] at k
        refine ⟨_, rfl, l, rfl, ⟨_, SqL.of hl⟩, fun D hD => ?_⟩
        refine lcG ws (fun x => some (.bl (isWordL x))) (by have := walk_list (K := K) (a := l) (xs := ws.map V.str); rw [List.length_map] at this; exact this) (by omega) hD (yat_same _) (fun H' s => SqL.of (s _ _ hl)) (fun i x y H' H'' k1 hx' s1 hy k2 => ?_) (fun H1 s1 e1 => ?_)
        · obtain ⟨rfl, hy⟩ := hy
          obtain rfl := map_get hx' hy
          refine ⟨rfl, _, rfl, x, rfl, hx x (List.mem_of_getElem? hx'), fun H4 s4 => k2 _ s4⟩
        · refine ⟨D, ws.map isWordL, rfl, SqL.of ?_, _, rfl, ?_⟩
          · rw [e1, List.filterMap_eq_map', List.map_map]
            rfl
          · have ea : (ws.map isWordL).all id = ws.all isWordL := by rw [List.all_map]; rfl
            rw [ea]
            refine ite2 (fun c3 => ?_) (fun c3 => ?_)
            · have hl1 := s1 _ _ hl
              refine ⟨_, rfl, l, ws, rfl, SqL.of hl1, (by omega), fun p hp => ⟨p, _, rfl, upd_same, _, rfl, l, _, rfl, .inl (SqL.of (keep1 hl1 hp)), rfl, ?_⟩⟩
              rw [c3, Bool.true_and, ← setFold_eqlen] at k
              rw [List.length_map]
              have ed : decide (V.int ((setFold ws).length : Nat) = V.int (ws.length : Nat)) = decide ((setFold ws).length = ws.length) := by
                rw [dec_int]
                by_cases hc : (setFold ws).length = ws.length
                · rw [hc]; simp
                · rw [decide_eq_false hc]
                  simp
                  omega
              rw [ed]
              exact k _ (s1.trans (same_new hp))
            · rw [Bool.eq_false_iff.mpr c3] at k
              exact k _ s1
    · have e : areMoodsL ws = false := by
        have h2 := of_decide_eq_false (Bool.eq_false_iff.mpr c1)
        unfold areMoodsL
        rw [decide_eq_false (by omega : ¬ 1 ≤ ws.length)]
        simp
      rw [e] at k
      exact ⟨_, rfl, iteT (k _ (Same.refl _))⟩
end
end My
namespace My
open PySem PySem.Spec PyProof.Rows L2 PySem.GX
def spGood (K : PySem.W.Frag) : Sp := fun vs H Q _ => ∃ (l m : Addr) (ws ms : List Str), vs = [.ref l, .ref m] ∧ H l = some (.lst (ws.map V.str)) ∧ H m = some (.lst (ms.map V.str)) ∧ ws.length ≤ 16000000 ∧ ms.length ≤ 16000000 ∧
  (∀ x ∈ ws, PyData.strOk x = true) ∧ (∀ x ∈ ms, PyData.strOk x = true) ∧ ∀ H', Same H H' → Q (.bl (areGoodL ws ms)) H'
/-- the dict {x: True for x in ws} -/
abbrev dTrue (ws : List Str) : List (Key × V) := dOf (fun x => (Sum.inr x : Key)) (fun _ => V.bl true) ws
theorem dTrue_val (ws : List Str) (m : Str) : (valV (dTrue ws) (Sum.inr m)).isSome = decide (m ∈ ws) := by
  rw [dOf_val]
  congr 1
  simp
theorem fm_filter (p : Str → Bool) : ∀ ms : List Str, (ms.filterMap fun m => if p m = true then some (V.str m) else none) = (ms.filter p).map V.str
  | [] => rfl
  | m :: t => by
    rw [List.filterMap_cons, List.filter_cons]
    cases h : p m with
    | true => simp [fm_filter p t]
    | false => simp [fm_filter p t]
section
variable {P : Program} {w : World} {K : PySem.W.Frag} {mg : Str → Option Value} {base : Heap}
theorem scGood : FnScope ["words", "moods", "chosen", "word", "mood"] ["words", "moods"] (defScope sGood) := ⟨rfl, rfl, rfl, by decide +kernel, rfl, by decide +kernel, by decide +kernel⟩
theorem ok_good {f : Addr} {fd : FuncData} (F : Fun K "are_good" "are_good" sGood f fd) : FnOk P w K mg base CX0 1 f fd ["words", "moods"] (spGood K) := by
  refine F.ok scGood (fun vs H Q E h => ?_) (fun cdv A outer s H vs Q E hr h => ?_)
  · obtain ⟨l, m, ws, ms, rfl, _⟩ := h
    rfl
  · obtain ⟨l, m, ws, ms, rfl, hl, hm, z1, z2, o1, o2, k⟩ := h
    refine ⟨_, pss_cons (ps_set (i := 2) scGood.nd rfl (Or.inr rfl) (pe_dc (own := [("word", 3)]) (g := gName 3) (tt := tYes) rfl scGood.nd (pi_list (pv 0))
          (blkOk_by (N := ["words", "moods", "chosen", "word", "mood"]) (sc := defScope sGood) (by decide +kernel)) (fun _ _ _ _ _ => pg_name (i := 3) scGood.nd rfl (Or.inl rfl)) (fun _ _ _ _ _ => pts_nil) (fun _ _ _ _ _ => pv 3) (fun _ _ _ _ _ => pe_bl)))
      (pss_one (ps_ret (pe_cmpR (op_eqD hr.units) (pv 0) (pe_lc (own := [("mood", 4)]) (g := gName 4) rfl scGood.nd (pi_list (pv 1))
          (blkOk_by (N := ["words", "moods", "chosen", "word", "mood"]) (sc := defScope sGood) (by decide +kernel)) (fun _ _ _ _ _ => pg_name (i := 4) scGood.nd rfl (Or.inl rfl)) (fun _ _ _ _ _ => pts_one (pt_cmp (pc_din (hu_of hr) (pv 4) (pv 2)))) (fun _ _ _ _ _ => pv 4)) (nomark _)))), ?_⟩
    refine ⟨_, rfl, l, rfl, ⟨_, SqL.of hl⟩, fun D hD => ?_⟩
    refine dcG ws (fun x => (Sum.inr x : Key)) (fun _ => V.bl true) (by have := walk_list (K := K) (a := l) (xs := ws.map V.str); rw [List.length_map] at this; exact this) z1 hD (yat_same _) (fun H' s => SqL.of (s _ _ hl)) (fun i x y H' H'' k1 k0 hx s1 hy k2 => ?_) (fun H1 s1 e1 => ?_)
    · obtain ⟨rfl, hy⟩ := hy
      obtain rfl := map_get hx hy
      exact ⟨rfl, _, rfl, k2 _ (Same.refl _)⟩
    · have hl1 := s1 _ _ hl
      have hm1 := s1 _ _ hm
      refine ⟨_, rfl, _, rfl, m, rfl, ⟨_, SqL.of hm1⟩, fun E' hE => ?_⟩
      refine lcG ms (fun x => if decide (x ∈ ws) = true then some (V.str x) else none) (by have := walk_list (K := K) (a := m) (xs := ms.map V.str); rw [List.length_map] at this; exact this) z2 hE (yat_same _) (fun H' s => SqL.of (s _ _ hm1)) (fun i x y H' H'' k1 hx s2 hy k2 => ?_) (fun H2 s2 e2 => ?_)
      · obtain ⟨rfl, hy⟩ := hy
        obtain rfl := map_get hx hy
        have kk := k2 _ (Same.refl _)
        refine ⟨rfl, _, rfl, _, rfl, D, _, rfl, DGet.k (k := Sum.inr x) (s2 _ _ e1), _, rfl, ?_⟩
        rw [dTrue_val]
        refine ite2 (fun c => ?_) (fun c => ?_)
        · rw [if_pos c] at kk
          exact ⟨_, rfl, kk⟩
        · rw [if_neg c] at kk
          exact kk
      · rw [fm_filter] at e2
        refine ⟨dTx ws, dTx (ms.filter fun x => decide (x ∈ ws)), dp_dTx (s2 _ _ hl1), dp_dTx e2, shaped_dTx o1, shaped_dTx fun x hx => o2 x ((List.mem_filter.mp hx).1), ?_⟩
        rw [eqv_dTx]
        exact k _ (s1.trans s2)
end
end My
namespace My
open PySem PySem.Spec PyProof.Rows L2 PySem.GX
/-- the beginnings of the rows of goals, in their order -/
def pairsL (x : Str) (ms : List Str) : List (List Str) := ms.flatMap fun m => x.cps.toList.map fun c => [m, sg c]
def rowOkL (ms : List Str) (r : List Str) : Bool := decide (r.length = 3) && decide (r.getD 2 Str.empty ∈ ms)
def goalsOkL (x : Str) (ms : List Str) (rs : List (List Str)) : Bool := decide (rs.map (List.take 2) = pairsL x ms) && rs.all (rowOkL ms)
/-- the dict that the rows write -/
def goalsD (rs : List (List Str)) : List (List Key × V) := dOf (fun r => [Sum.inr (r.getD 0 Str.empty), Sum.inr (r.getD 1 Str.empty)]) (fun r => V.str (r.getD 2 Str.empty)) rs
def spGoals : Sp := fun vs H Q _ => ∃ (x : Str) (m l : Addr) (ms : List Str) (as : List Addr) (rs : List (List Str)), vs = [.str x, .ref m, .ref l] ∧ H m = some (.lst (ms.map V.str)) ∧ H l = some (.lst (as.map V.ref)) ∧ Rw H as rs ∧
  x.length ≤ 3 ∧ ms.length ≤ 300 ∧ rs.length ≤ 16000000 ∧ PyData.strOk x = true ∧ (∀ y ∈ ms, PyData.strOk y = true) ∧ (∀ r ∈ rs, ∀ y ∈ r, PyData.strOk y = true) ∧
  (goalsOkL x ms rs = false → ∀ H', Same H H' → Q .non H') ∧ (goalsOkL x ms rs = true → ∀ D H', H D = none → Same H H' → H' D = some (.dT (goalsD rs)) → Q (.ref D) H')
theorem pairs_take {x : Str} {ms : List Str} {i : Nat} {m : Str} (h : ms[i]? = some m) : pairsL x (ms.take (i + 1)) = pairsL x (ms.take i) ++ x.cps.toList.map fun c => [m, sg c] := by
  unfold pairsL
  rw [List.take_add_one, h, List.flatMap_append]
  simp
theorem pairs_len (x : Str) (ms : List Str) : (pairsL x ms).length = ms.length * x.length := by
  unfold pairsL
  induction ms with
  | nil => simp
  | cons m t ih =>
    rw [List.flatMap_cons, List.length_append, ih, List.length_map, Array.length_toList, List.length_cons, Nat.succ_mul]
    show x.length + _ = _
    omega
theorem pairs_ok {x : Str} {ms : List Str} (hx : PyData.strOk x = true) (hm : ∀ y ∈ ms, PyData.strOk y = true) : ∀ r ∈ pairsL x ms, ∀ y ∈ r, PyData.strOk y = true := by
  intro r hr y hy
  unfold pairsL at hr
  obtain ⟨m, h1, h2⟩ := List.mem_flatMap.mp hr
  obtain ⟨c, h3, rfl⟩ := List.mem_map.mp h2
  simp at hy
  rcases hy with rfl | rfl
  · exact hm _ h1
  · unfold PyData.strOk at hx ⊢
    rw [Array.all_eq_true_iff_forall_mem] at hx
    have := hx c (by simpa using h3)
    simpa using this
def rLenK (K : PySem.W.Frag) : List V → Hp → VK → Prop := fun xs H Q => ∃ p ys, xs = [.ref p] ∧ (SqL K H p ys ∨ SqT K H p ys) ∧ Q (.int ys.length) H
section
variable {P : Program} {w : World} {K : PySem.W.Frag} {mg : Str → Option Value} {base : Heap}
abbrev nGoals : List Str := ["signs", "moods", "rows", "known", "mood", "row", "sign", "goal"]
theorem scGoals : FnScope nGoals ["signs", "moods", "rows"] (defScope sGoals) := ⟨rfl, rfl, rfl, by decide +kernel, rfl, by decide +kernel, by decide +kernel⟩
theorem ok_goals {f : Addr} {fd : FuncData} (F : Fun K "read_goals" "read_goals" sGoals f fd) (hL : mg "len" = none) (hA : mg "all" = none) : FnOk P w K mg base CX0 1 f fd ["signs", "moods", "rows"] spGoals := by
  refine F.ok scGoals (fun vs H Q E h => ?_) (fun cdv A outer s H vs Q E hr h => ?_)
  · obtain ⟨x, m, l, ms, as, rs, rfl, _⟩ := h
    rfl
  · obtain ⟨x, m, l, ms, as, rs, rfl, hm, hl, hR, z1, z2, z3, o1, o2, o3, kN, kY⟩ := h
    refine ⟨_, pss_cons (ps_set (i := 3) scGoals.nd rfl (Or.inr rfl) (pe_dc (own := [("mood", 4)]) (g := gName 4) (tt := tYes) rfl scGoals.nd (pi_list (pv 1))
          (blkOk_by (N := nGoals) (sc := defScope sGoals) (by decide +kernel)) (fun _ _ _ _ _ => pg_name (i := 4) scGoals.nd rfl (Or.inl rfl)) (fun _ _ _ _ _ => pts_nil) (fun _ _ _ _ _ => pv 4) (fun _ _ _ _ _ => pe_bl)))
      (pss_cons (ps_if (pt_cmpR (op_neD hr.units) (pe_lc (own := [("row", 5)]) (g := gName 5) (tt := tYes) rfl scGoals.nd (pi_list (pv 2))
            (blkOk_by (N := nGoals) (sc := defScope sGoals) (by decide +kernel)) (fun _ _ _ _ _ => pg_name (i := 5) scGoals.nd rfl (Or.inl rfl)) (fun _ _ _ _ _ => pts_nil) (te := tSl (rSlL K) (tVar 5) tNoPart (tPart (tC (.int 2)))) (fun _ _ _ _ _ => pe_slice sl_list (pv 5) po_none (po_some pe_int)))
          (pe_lc2 (own := [("mood", 4), ("sign", 6)]) (vs1 := [6]) (g := gName 4) (tt := tYes) (g1 := gName 6) (tt1 := tYes) rfl scGoals.nd (pi_list (pv 1)) (blkOk_by (N := nGoals) (sc := defScope sGoals) (by decide +kernel)) (by decide)
            (fun _ _ _ _ _ => pg_name (i := 4) scGoals.nd rfl (Or.inl rfl)) (fun _ _ _ _ _ => pts_nil) (fun _ _ _ _ _ => pi_str (pv 0)) (fun _ _ _ _ _ => pg_name (i := 6) scGoals.nd rfl (Or.inl rfl)) (fun _ _ _ _ _ => pts_nil) (fun _ _ _ _ _ => pe_lst (pa_cons (pv 4) (pa_cons (pv 6) pa_nil)))) (nomark _))
        (pss_one (ps_ret pe_non)) pss_nil)
      (pss_cons (ps_if (pt_not (pt_val (pe_callB (cr_all rfl) (by rfl) hA (by decide +kernel) (pa_cons (pe_lc (own := [("row", 5)]) (g := gName 5) (tt := tYes) rfl scGoals.nd (pi_list (pv 2))
            (blkOk_by (N := nGoals) (sc := defScope sGoals) (by decide +kernel)) (fun _ _ _ _ _ => pg_name (i := 5) scGoals.nd rfl (Or.inl rfl)) (fun _ _ _ _ _ => pts_nil)
            (te := tAndV (tOp rEq (tCB (rLenK K) (tCons (tVar 5) tNil)) (tC (.int 3))) (tDIn (tOp (rIxL K) (tVar 5) (tC (.int 2))) (tVar 3))) (fun _ _ _ _ _ => pe_and (pe_cmpR op_eq (pe_callB call_len_seq (by rfl) hL PySem.boot_len (pa_cons (pv 5) pa_nil)) pe_int (nomark _)) (pe_one (pe_cmp (pc_din (hu_of hr) (pe_ix ix_list (pv 5) pe_int (fun _ _ => rfl)) (pv 3)) rfl)))) pa_nil))))
        (pss_one (ps_ret pe_non)) pss_nil)
      (pss_one (ps_ret (pe_dcT (own := [("mood", 4), ("sign", 6), ("goal", 7)]) (g := gUnl K 3 (gCons (gName 4) (gCons (gName 6) (gCons (gName 7) gNil)))) (tt := tYes) hr.units rfl scGoals.nd (pi_list (pv 2)) (blkOk_by (N := nGoals) (sc := defScope sGoals) (by decide +kernel))
            (fun _ _ _ _ _ => pg_unl (n := 3) rfl (pgs_cons (pg_name (i := 4) scGoals.nd rfl (Or.inl rfl)) (pgs_cons (pg_name (i := 6) scGoals.nd rfl (Or.inl rfl)) (pgs_cons (pg_name (i := 7) scGoals.nd rfl (Or.inl rfl)) pgs_nil))))
            (fun _ _ _ _ _ => pts_nil) (fun _ _ _ _ _ => pe_tup (pa_cons (pv 4) (pa_cons (pv 6) pa_nil))) (fun _ _ _ _ _ => pv 7)))))), ?_⟩
    refine ⟨_, rfl, m, rfl, ⟨_, SqL.of hm⟩, fun D0 hD0 => ?_⟩
    refine dcG ms (fun x => (Sum.inr x : Key)) (fun _ => V.bl true) (walk_listL ms V.str) (by omega) hD0 (yat_same _) (fun H' s => SqL.of (s _ _ hm)) (fun i x y H' H'' k1 k0 hx s1 hy k2 => ?_) (fun H1 s1 e1 => ?_)
    · obtain ⟨rfl, hy⟩ := hy
      obtain rfl := map_get hx hy
      exact ⟨rfl, _, rfl, k2 _ (Same.refl _)⟩
    have hl1 := s1 _ _ hl
    have hR1 := hR.same s1
    -- the beginnings of the rows
    refine ⟨_, rfl, l, rfl, ⟨_, SqL.of hl1⟩, fun D1 hD1 => ?_⟩
    refine lc_it (walk_listL as V.ref) (fun i H' => Pr H1 D1 H' ((rs.map (List.take 2)).take i)) (Pr.zero hD1) (fun i H' _ h => SqL.of (h.keeps _ _ hl1)) (fun i y H' H'' hi h hy => ?_) (fun H2 h2 => ?_)
    · obtain ⟨rfl, hy⟩ := hy
      have ha : as[i]? = some as[i] := List.getElem?_eq_getElem hi
      obtain rfl := map_get ha hy
      have hi' : i < rs.length := by rw [← hR.len]; exact hi
      have hr' : rs[i]? = some rs[i] := List.getElem?_eq_getElem hi'
      have et : (rs.map (List.take 2)).take (i + 1) = (rs.map (List.take 2)).take i ++ [rs[i].take 2] := by
        rw [List.take_add_one, List.getElem?_map, hr']
        rfl
      refine ⟨rfl, _, rfl, 2, rfl, as[i], _, rfl, SqL.of (h.keeps _ _ (hR1.get ha hr')), fun p hp => ?_⟩
      rw [et, show (2 : Int) = ((2 : Nat) : Int) from rfl, cut_to _ 2 (by decide)]
      exact h.push hD1 hp (by rw [List.length_take, List.length_map]; omega)
    have s2 := h2.keeps
    have hm2 := s2 _ _ (s1 _ _ hm)
    -- what they must be
    refine ⟨_, rfl, m, rfl, ⟨_, SqL.of hm2⟩, fun D2 hD2 => ?_⟩
    refine dc_it (walk_listL ms V.str) (nx := fun i H' => Pr H2 D2 H' (pairsL x (ms.take i))) (Pr.zero hD2) (fun i H' _ h => SqL.of (h.keeps _ _ hm2)) (fun i y H' H'' hi h hy => ?_) (fun H3 h3 => ?_)
    · obtain ⟨rfl, hy⟩ := hy
      have ha : ms[i]? = some ms[i] := List.getElem?_eq_getElem hi
      obtain rfl := map_get ha hy
      refine ⟨rfl, _, rfl, x, rfl, ?_⟩
      refine dc_it walk_str (nx := fun j H' => Pr H2 D2 H' (pairsL x (ms.take i) ++ (x.cps.toList.take j).map fun c => [ms[i], sg c])) (by rw [List.take_zero, List.map_nil, List.append_nil]; exact h) (fun _ _ _ _ => trivial) (fun j y H4 H5 hj h4 hy => ?_) (fun H4 h4 => ?_)
      · obtain ⟨rfl, c, hc, rfl⟩ := hy
        have et : (x.cps.toList.take (j + 1)).map (fun c => [ms[i], sg c]) = (x.cps.toList.take j).map (fun c => [ms[i], sg c]) ++ [[ms[i], sg c]] := by
          rw [List.take_add_one, Array.getElem?_toList, hc, List.map_append]
          rfl
        refine ⟨rfl, _, rfl, _, rfl, (by show 2 ≤ sizeLine; decide), fun p hp => ?_⟩
        rw [et, ← List.append_assoc]
        refine h4.push (r := [ms[i], sg c]) hD2 hp ?_
        have a1 : (pairsL x (ms.take i)).length ≤ 900 := by
          rw [pairs_len, List.length_take]
          exact Nat.le_trans (Nat.mul_le_mul (by omega : min i ms.length ≤ 300) z1) (by decide)
        have a2 : ((x.cps.toList.take j).map fun c => [ms[i], sg c]).length ≤ j := by
          rw [List.length_map, List.length_take]
          omega
        have z5 : x.cps.size ≤ 3 := z1
        rw [List.length_append]
        omega
      · show Pr H2 D2 H4 _
        rw [pairs_take ha]
        have : x.cps.toList.take x.cps.size = x.cps.toList := by rw [← Array.length_toList, List.take_length]
        rw [this] at h4
        exact h4
    rw [List.take_length] at h3
    have h2' := h2
    rw [hR.len, ← List.length_map (f := List.take 2), List.take_length] at h2'
    obtain ⟨bs, sb, eb, rb⟩ := (h2'.same h3.keeps).rw_
    obtain ⟨cs, sc, ec, rc⟩ := h3.rw_
    have s3 := (s1.trans s2).trans h3.keeps
    refine ⟨dTab (rs.map (List.take 2)), dTab (pairsL x ms), dp_dTab eb rb, dp_dTab ec rc, shaped_dTab (fun r hr y hy => ?_), shaped_dTab (pairs_ok o1 o2), _, rfl, ?_⟩
    · obtain ⟨r', h1, rfl⟩ := List.mem_map.mp hr
      exact o3 r' h1 y (List.mem_of_mem_take hy)
    rw [eqv_dTab]
    refine ite2 (fun c => ?_) (fun c => ?_)
    · refine kN ?_ _ s3
      unfold goalsOkL
      have : decide (rs.map (List.take 2) = pairsL x ms) = false := by simpa using c
      rw [this]
      rfl
    have ep : rs.map (List.take 2) = pairsL x ms := by simpa using c
    have hl3 := s3 _ _ hl
    have hR3 := hR.same s3
    have e3 := h3.keeps _ _ (s2 _ _ e1)
    refine ⟨_, rfl, l, rfl, ⟨_, SqL.of hl3⟩, fun D3 hD3 => ?_⟩
    refine lcG (as.zip rs) (fun ar => some (.bl (rowOkL ms ar.2))) (by rw [List.length_zip, ← hR.len, Nat.min_self]; exact walk_listL as V.ref) (by rw [List.length_zip]; omega) hD3 (yat_same _) (fun H' s => SqL.of (s _ _ hl3)) (fun i ar y H' H'' k1 hz sz hy k2 => ?_) (fun H4 s4 e4 => ?_)
    · obtain ⟨rfl, hy⟩ := hy
      rw [List.getElem?_zip_eq_some] at hz
      obtain rfl := map_get hz.1 hy
      have hrow := sz _ _ (hR3.get hz.1 hz.2)
      have kk := k2 _ (Same.refl _)
      refine ⟨rfl, _, rfl, ar.1, _, rfl, .inl (SqL.of hrow), rfl, _, rfl, ?_⟩
      rw [List.length_map, dec_int]
      have ed : ((ar.2.length : Int) == 3) = decide (ar.2.length = 3) := by
        by_cases hc : ar.2.length = 3
        · rw [hc]; rfl
        · rw [decide_eq_false hc]
          simp
          omega
      rw [ed]
      unfold rowOkL at kk
      refine ite2 (fun c3 => ?_) (fun c3 => ?_)
      · have h3' := of_decide_eq_true c3
        have hg : ar.2[2]? = some (ar.2.getD 2 Str.empty) := by
          rw [List.getD_eq_getElem?_getD, List.getElem?_eq_getElem (by omega)]
          rfl
        refine ⟨_, rfl, ar.1, _, _, V.str (ar.2.getD 2 Str.empty), rfl, rfl, SqL.of hrow, atI_nat (j := 2) (by rw [List.getElem?_map, hg]; rfl), _, rfl, D0, _, rfl, DGet.k (k := Sum.inr (ar.2.getD 2 Str.empty)) (sz _ _ e3), ?_⟩
        rw [dTrue_val]
        rw [c3, Bool.true_and] at kk
        exact kk
      · rw [Bool.eq_false_iff.mpr c3, Bool.false_and] at kk
        exact kk
    have ez : (as.zip rs).filterMap (fun ar => some (V.bl (rowOkL ms ar.2))) = (rs.map (rowOkL ms)).map V.bl := by
      rw [List.filterMap_eq_map', List.map_map]
      have : (as.zip rs).map Prod.snd = rs := List.map_snd_zip (by rw [hR.len]; exact Nat.le_refl _)
      conv => rhs; rw [← this, List.map_map]
      rfl
    rw [ez] at e4
    refine ⟨D3, _, rfl, SqL.of e4, _, rfl, ?_⟩
    have ea : (rs.map (rowOkL ms)).all id = rs.all (rowOkL ms) := by rw [List.all_map]; rfl
    rw [ea]
    have eg : goalsOkL x ms rs = rs.all (rowOkL ms) := by
      unfold goalsOkL
      rw [decide_eq_true ep, Bool.true_and]
    refine ite2 (fun c4 => ?_) (fun c4 => ?_)
    · refine kN ?_ _ (s3.trans s4)
      rw [eg]
      simpa using c4
    have c5 : rs.all (rowOkL ms) = true := by simpa using c4
    have hl4 := s4 _ _ hl3
    have hR4 := hR3.same s4
    refine ⟨_, rfl, l, rfl, ⟨_, SqL.of hl4⟩, fun D4 hD4 => ?_⟩
    refine dcGT (as.zip rs) (fun ar => [Sum.inr (ar.2.getD 0 Str.empty), Sum.inr (ar.2.getD 1 Str.empty)]) (fun ar => V.str (ar.2.getD 2 Str.empty)) (by rw [List.length_zip, ← hR.len, Nat.min_self]; exact walk_listL as V.ref) (by rw [List.length_zip]; omega) hD4 (yat_same _) (fun H' s => SqL.of (s _ _ hl4)) (fun i ar y H' H'' k1 k0 hz sz hy k2 => ?_) (fun H5 s5 e5 => ?_)
    · obtain ⟨rfl, hy⟩ := hy
      rw [List.getElem?_zip_eq_some] at hz
      obtain rfl := map_get hz.1 hy
      have hrow := sz _ _ (hR4.get hz.1 hz.2)
      have ok := List.all_eq_true.mp c5 ar.2 (List.mem_of_getElem? hz.2)
      unfold rowOkL at ok
      have h3' : ar.2.length = 3 := by simpa using (Bool.and_eq_true_iff.mp ok).1
      obtain ⟨u, v, z, huv⟩ : ∃ u v z, ar.2 = [u, v, z] := by
        match ar.2, h3' with
        | [u, v, z], _ => exact ⟨u, v, z, rfl⟩
      rw [huv] at hrow k2
      refine ⟨ar.1, _, rfl, SqL.of hrow, rfl, _, _, rfl, _, _, rfl, _, _, rfl, rfl, rfl, _, rfl, _, rfl, (by show 2 ≤ sizeLine; decide), fun t ht => ⟨_, rfl, k2 t _ (same_new ht) upd_same⟩⟩
    · refine kY (by rw [eg]; exact c5) D4 H5 ((s3.trans s4).free hD4) ((s3.trans s4).trans s5) ?_
      rw [e5]
      congr 2
      unfold goalsD dOf
      have : (as.zip rs).map Prod.snd = rs := List.map_snd_zip (by rw [hR.len]; exact Nat.le_refl _)
      conv => rhs; rw [← this, List.foldl_map]
end
end My
namespace My
open PySem PySem.Spec PyProof.Rows L2 PySem.GX
theorem join_mem (y : Str) : ∀ (parts : List Str) (p : Str), p ∈ parts → ∀ c ∈ p.cps.toList, c ∈ (Str.join y parts).cps.toList
  | [], _, h, _, _ => by simp at h
  | [x], p, h, c, hc => by
    simp at h; subst h
    exact hc
  | x :: z :: r, p, h, c, hc => by
    show c ∈ (x ++ y ++ Str.join y (z :: r)).cps.toList
    rw [cps_app, cps_app]
    simp only [List.mem_append]
    rcases List.mem_cons.mp h with rfl | h
    · exact .inl (.inl hc)
    · exact .inr (join_mem y (z :: r) p h c hc)
theorem ok_of_mem {x p : Str} (h : ∀ c ∈ p.cps.toList, c ∈ x.cps.toList) (ho : PyData.strOk x = true) : PyData.strOk p = true := by
  unfold PyData.strOk at ho ⊢
  rw [Array.all_eq_true_iff_forall_mem] at ho ⊢
  intro c hc
  exact ho c (by simpa using h c (by simpa using hc))
theorem split_ok {x y p : Str} (h : p ∈ Txt.split x y) (ho : PyData.strOk x = true) : PyData.strOk p = true := by
  refine ok_of_mem (fun c hc => ?_) ho
  have := join_mem y _ p h c hc
  rw [StrLaws.join_split] at this
  exact this
theorem mem_le_sum : ∀ {l : List Nat} {a : Nat}, a ∈ l → a ≤ l.sum
  | b :: t, a, h => by
    rw [List.sum_cons]
    rcases List.mem_cons.mp h with rfl | h
    · omega
    · have := mem_le_sum h
      omega
theorem split_small {x p : Str} {c : Nat} (h : p ∈ Txt.split x (sg c)) : p.length ≤ x.length := by
  have := split_weight x (sg c) (Nat.le_refl 1)
  have h1 := mem_le_sum (List.mem_map.mpr ⟨p, h, rfl⟩ : p.length ∈ (Txt.split x (sg c)).map (·.length))
  have h2 : 0 < (Txt.split x (sg c)).length := List.length_pos_of_mem h
  omega
theorem split_few (x : Str) (c : Nat) : (Txt.split x (sg c)).length ≤ x.length + 1 := by
  have := split_weight x (sg c) (Nat.le_refl 1)
  omega
theorem split_ne (x : Str) (c : Nat) : Txt.split x (sg c) ≠ [] := fun e => by
  have := split_len x c
  rw [e] at this
  simp at this
  have h : ∀ l : List Nat, 0 ≤ cnt c l := by
    intro l
    induction l with
    | nil => exact Int.le_refl 0
    | cons n t ih =>
      rw [cnt_cons]
      split <;> omega
  have := h x.cps.toList
  omega
end My
namespace My
open PySem PySem.Spec PyProof.Rows L2 PySem.GX
abbrev nl : Str := sg 10
abbrev sp : Str := sg 32
def rowsL (t : Str) : List (List Str) := (Txt.split t nl).map fun y => Txt.split y sp
abbrev titles : List Str := ["signs", "moods", "good"]
structure Parts where
  sg : Str
  ms : List Str
  gs : List Str
  rs : List (List Str)
/-- what a text writes, from its rows of words -/
def partsL : List (List Str) → Option Parts
  | (t0 :: s0) :: (t1 :: m0) :: (t2 :: g0) :: rs =>
    if [t0, t1, t2] = titles ∧ areSignsL s0 = true ∧ areMoodsL m0 = true ∧ areGoodL g0 m0 = true ∧ goalsOkL (s0.getD 0 Str.empty) m0 rs = true then some ⟨s0.getD 0 Str.empty, m0, g0, rs⟩ else none
  | _ => none
def parseL (t : Str) : Option Parts := partsL (rowsL t)
/-- the parts stand as the tuple T -/
def PartsAt (H : Hp) (T : Addr) (p : Parts) : Prop := ∃ M G D, H T = some (.tup [.str p.sg, .ref M, .ref G, .ref D]) ∧ H M = some (.tup (p.ms.map V.str)) ∧ H G = some (.tup (p.gs.map V.str)) ∧ H D = some (.dT (goalsD p.rs))
def spRead : Sp := fun vs H Q _ => ∃ t : Str, vs = [.str t] ∧ t.length ≤ 1000000 ∧ PyData.strOk t = true ∧ (parseL t = none → ∀ H', Same H H' → Q .non H') ∧ ∀ p, parseL t = some p → ∀ T H', Same H H' → PartsAt H' T p → Q (.ref T) H'
theorem rows_ne {t : Str} : ∀ r ∈ rowsL t, r ≠ [] := fun r hr => by
  obtain ⟨y, _, rfl⟩ := List.mem_map.mp hr
  exact split_ne y 32
theorem rows_ok {t : Str} (ht : PyData.strOk t = true) : ∀ r ∈ rowsL t, ∀ y ∈ r, PyData.strOk y = true := fun r hr y hy => by
  obtain ⟨z, hz, rfl⟩ := List.mem_map.mp hr
  exact split_ok hy (split_ok hz ht)
theorem rows_small {t : Str} : ∀ r ∈ rowsL t, r.length ≤ t.length + 1 ∧ ∀ y ∈ r, y.length ≤ t.length := fun r hr => by
  obtain ⟨z, hz, rfl⟩ := List.mem_map.mp hr
  have h1 := split_small hz
  have h2 : (Txt.split z sp).length ≤ z.length + 1 := split_few z 32
  exact ⟨by omega, fun y hy => Nat.le_trans (split_small hy) h1⟩
theorem rows_few (t : Str) : (rowsL t).length ≤ t.length + 1 := by
  unfold rowsL
  rw [List.length_map]
  exact split_few t 10
theorem heads_is {rs : List (List Str)} (hne : ∀ r ∈ rs, r ≠ []) (h : (rs.take 3).map (fun r => r.headD Str.empty) = titles) : ∃ s0 m0 g0 rest, rs = (("signs" : Str) :: s0) :: (("moods" : Str) :: m0) :: (("good" : Str) :: g0) :: rest := by
  match rs, hne, h with
  | [], _, h => cases h
  | [_], _, h => simp at h
  | [_, _], _, h => simp at h
  | a :: b :: c :: rest, hne, h =>
    have na := hne a (by simp)
    have nb := hne b (by simp)
    have nc := hne c (by simp)
    obtain ⟨x, xs, rfl⟩ := List.exists_cons_of_ne_nil na
    obtain ⟨y, ys, rfl⟩ := List.exists_cons_of_ne_nil nb
    obtain ⟨z, zs, rfl⟩ := List.exists_cons_of_ne_nil nc
    have h' : [x, y, z] = titles := h
    injection h' with e1 h'
    injection h' with e2 h'
    injection h' with e3 h'
    subst e1 e2 e3
    exact ⟨xs, ys, zs, rest, rfl⟩
theorem parts_none {rs : List (List Str)} (h : ¬ (rs.take 3).map (fun r => r.headD Str.empty) = titles) : partsL rs = none := by
  unfold partsL
  split
  · rename_i t0 s0 t1 m0 t2 g0 rs'
    rw [if_neg]
    intro z
    exact h z.1
  · rfl
theorem parts_is (s0 m0 g0 : List Str) (rest : List (List Str)) : partsL ((("signs" : Str) :: s0) :: (("moods" : Str) :: m0) :: (("good" : Str) :: g0) :: rest) =
    if areSignsL s0 = true ∧ areMoodsL m0 = true ∧ areGoodL g0 m0 = true ∧ goalsOkL (s0.getD 0 Str.empty) m0 rest = true then some ⟨s0.getD 0 Str.empty, m0, g0, rest⟩ else none := by
  unfold partsL
  simp only [true_and]
theorem signs_one {s0 : List Str} (h : areSignsL s0 = true) : ∃ x, s0 = [x] ∧ x.length ≤ 3 := by
  match s0, h with
  | [x], h =>
    rw [areS1] at h
    simp only [Bool.and_eq_true] at h
    exact ⟨x, rfl, of_decide_eq_true h.1.1.2⟩
theorem moods_few {m0 : List Str} (h : areMoodsL m0 = true) : m0.length ≤ 300 := by
  unfold areMoodsL at h
  simp only [Bool.and_eq_true] at h
  exact of_decide_eq_true h.1.1.2
section
variable {P : Program} {w : World} {K : PySem.W.Frag} {mg : Str → Option Value} {base : Heap}
abbrev nRead : List Str := ["text", "rows", "signs", "moods", "good", "goals", "line", "row"]
theorem scRead : FnScope nRead ["text"] (defScope sRead) := ⟨rfl, rfl, rfl, by decide +kernel, rfl, by decide +kernel, by decide +kernel⟩
theorem ok_read {f tT : Addr} {fd : FuncData} (F : Fun K "read_rule" "read_rule" sRead f fd) (h1 : Hv P w K mg base 2 "are_signs" ["words"] (spSigns K)) (h2 : Hv P w K mg base 3 "are_moods" ["words"] (spMoods K)) (h3 : Hv P w K mg base 1 "are_good" ["words", "moods"] (spGood K))
    (h4 : Hv P w K mg base 1 "read_goals" ["signs", "moods", "rows"] spGoals) (gT : mg "TITLES" = some (.ref tT)) (kT : ∀ H, SqT K H tT (titles.map V.str)) (hLi : mg "list" = none) (hTu : mg "tuple" = none) : FnOk P w K mg base CX0 4 f fd ["text"] spRead := by
  refine F.ok scRead (fun vs H Q E h => ?_) (fun cdv A outer s H vs Q E hr h => ?_)
  · obtain ⟨t, rfl, _⟩ := h
    rfl
  · obtain ⟨t, rfl, zt, ot, kN, kY⟩ := h
    refine ⟨_, pss_cons (ps_setLc (i := 1) (own := [("line", 6)]) (g := gName 6) (tt := tYes) rfl scRead.nd rfl rfl (sw_true rfl rfl rfl (by decide +kernel)) (pi_list (pe_split (pv 0) pe_str))
          (blkOk_by (N := nRead) (sc := defScope sRead) (by decide +kernel)) (fun _ _ _ _ _ => pg_name (i := 6) scRead.nd rfl (Or.inl rfl)) (fun _ _ _ _ _ => pts_nil) (fun _ _ _ _ _ => pe_split (pv 6) pe_str))
      (pss_cons (ps_if (pt_cmpR (op_neD hr.units) (pe_lc (own := [("row", 7)]) (g := gName 7) (tt := tYes) rfl scRead.nd (pi_list (pe_slice sl_list (pv 1) po_none (po_some pe_int)))
            (blkOk_by (N := nRead) (sc := defScope sRead) (by decide +kernel)) (fun _ _ _ _ _ => pg_name (i := 7) scRead.nd rfl (Or.inl rfl)) (fun _ _ _ _ _ => pts_nil) (te := tOp (rIxL K) (tVar 7) (tC (.int 0))) (fun _ _ _ _ _ => pe_ix ix_list (pv 7) pe_int (fun _ _ => rfl)))
          (pe_callTy call_list_of (by rfl) hLi (by decide +kernel) (pa_cons (pe_glob (v := .ref tT) rfl gT rfl) pa_nil)) (nomark _))
        (pss_one (ps_ret pe_non)) pss_nil)
      (pss_cons (ps_asg (pe_lc (own := [("row", 7)]) (g := gName 7) (tt := tYes) rfl scRead.nd (pi_list (pe_slice sl_list (pv 1) po_none (po_some pe_int)))
            (blkOk_by (N := nRead) (sc := defScope sRead) (by decide +kernel)) (fun _ _ _ _ _ => pg_name (i := 7) scRead.nd rfl (Or.inl rfl)) (fun _ _ _ _ _ => pts_nil) (te := tSl (rSlL K) (tVar 7) (tPart (tC (.int 1))) tNoPart) (fun _ _ _ _ _ => pe_slice sl_list (pv 7) (po_some pe_int) po_none))
          (pg_unl (n := 3) rfl (pgs_cons (pg_name (i := 2) scRead.nd rfl (Or.inl rfl)) (pgs_cons (pg_name (i := 3) scRead.nd rfl (Or.inl rfl)) (pgs_cons (pg_name (i := 4) scRead.nd rfl (Or.inl rfl)) pgs_nil)))))
      (pss_cons (ps_if (pt_not (PW.pt (pw_and (pt_val (pe_cl h1 (hr.mono (by decide)) rfl pass0 (pa_cons (pv 2) pa_nil))) (pw_and (pt_val (pe_cl h2 hr rfl pass0 (pa_cons (pv 3) pa_nil))) (pw_and1 (pt_val (pe_cl h3 (hr.mono (by decide)) rfl pass0 (pa_cons (pv 4) (pa_cons (pv 3) pa_nil)))))))))
        (pss_one (ps_ret pe_non)) pss_nil)
      (pss_cons (ps_set (i := 5) scRead.nd rfl (Or.inl rfl) (pe_cl h4 (hr.mono (by decide)) rfl pass0 (pa_cons (pe_ix ix_list (pv 2) pe_int (fun _ _ => rfl)) (pa_cons (pv 3) (pa_cons (pe_slice sl_list (pv 1) (po_some pe_int) po_none) pa_nil)))))
      (pss_cons (ps_if (pt_cmpR op_isN (pv 5) pe_non (nomark _)) (pss_one (ps_ret pe_non)) pss_nil)
      (pss_one (ps_ret (pe_tup (pa_cons (pe_ix ix_list (pv 2) pe_int (fun _ _ => rfl)) (pa_cons (pe_callTy call_tuple_of (by rfl) hTu (by decide +kernel) (pa_cons (pv 3) pa_nil)) (pa_cons (pe_callTy call_tuple_of (by rfl) hTu (by decide +kernel) (pa_cons (pv 4) pa_nil)) (pa_cons (pv 5) pa_nil)))))))))))), ?_⟩
    have enl : (Str.ofString "\n") = nl := by decide +kernel
    have esp : (Str.ofString " ") = sp := by decide +kernel
    have z0 : t.length + 2 ≤ sizeLine := by rw [sizeLine_eq]; omega
    refine ⟨_, rfl, ⟨_, rfl⟩, t, _, rfl, rfl, rfl, z0, fun p0 hp0 => ⟨p0, rfl, ⟨_, SqL.of upd_same⟩, fun D0 hD0 => ?_⟩⟩
    rw [enl] at hD0 ⊢
    have hl0 : upd H p0 (.lst ((Txt.split t nl).map V.str)) p0 = some (.lst ((Txt.split t nl).map V.str)) := upd_same
    generalize eH0 : upd H p0 (.lst ((Txt.split t nl).map V.str)) = H0 at hD0 hl0 ⊢
    have s0 : Same H H0 := by rw [← eH0]; exact same_new hp0
    refine lc_it (walk_listL (Txt.split t nl) V.str) (fun i H' => Pr H0 D0 H' ((rowsL t).take i)) (Pr.zero hD0) (fun i H' _ h => SqL.of (h.keeps _ _ hl0)) (fun i y H' H'' hi h hy => ?_) (fun H1 g1 => ?_)
    · obtain ⟨rfl, hy⟩ := hy
      have ha : (Txt.split t nl)[i]? = some (Txt.split t nl)[i] := List.getElem?_eq_getElem hi
      obtain rfl := map_get ha hy
      have et : (rowsL t).take (i + 1) = (rowsL t).take i ++ [Txt.split (Txt.split t nl)[i] sp] := by
        unfold rowsL
        rw [List.take_add_one, List.getElem?_map, ha]
        rfl
      have zl := split_small (List.getElem_mem hi)
      refine ⟨rfl, _, rfl, ⟨_, rfl⟩, _, _, rfl, rfl, rfl, (by rw [sizeLine_eq]; omega), fun p hp => ?_⟩
      rw [et, esp]
      refine h.push hD0 hp ?_
      have := rows_few t
      rw [List.length_take]
      omega
    have g1' : Pr H0 D0 H1 (rowsL t) := by
      have : (rowsL t).take (Txt.split t nl).length = rowsL t := by
        have e : (Txt.split t nl).length = (rowsL t).length := by unfold rowsL; rw [List.length_map]
        rw [e, List.take_length]
      rw [this] at g1
      exact g1
    obtain ⟨as, s1', eD0, rw0⟩ := g1'.rw_
    have s1 := s0.trans s1'
    have nes := rows_ne (t := t)
    have oks := rows_ok (t := t) ot
    have sms := rows_small (t := t)
    have few := rows_few t
    generalize eR : rowsL t = rs at rw0 nes oks sms few
    have ep : parseL t = partsL rs := by rw [← eR]; rfl
    rw [ep] at kN kY
    clear g1 g1' ep eR
    have len := rw0.len
    -- the titles
    have ecut : cutV (as.map V.ref) none (some 3) = (as.take 3).map V.ref := by
      rw [show (3 : Int) = ((3 : Nat) : Int) from rfl, cut_toV _ 3 (by decide), List.map_take]
    refine ⟨_, rfl, 3, rfl, D0, _, rfl, SqL.of eD0, fun p3 hp3 => ⟨p3, rfl, ⟨_, SqL.of upd_same⟩, fun D1 hD1 => ?_⟩⟩
    rw [ecut] at hD1 ⊢
    have hl3 : upd H1 p3 (.lst ((as.take 3).map V.ref)) p3 = some (.lst ((as.take 3).map V.ref)) := upd_same
    generalize eH2 : upd H1 p3 (.lst ((as.take 3).map V.ref)) = H2 at hD1 hl3 ⊢
    have s2' : Same H1 H2 := by rw [← eH2]; exact same_new hp3
    have rw3 := (rw0.take 3).same s2'
    refine lcG ((as.take 3).zip (rs.take 3)) (fun ar => some (.str (ar.2.headD Str.empty))) (by rw [List.length_zip, ← rw3.len, Nat.min_self]; exact walk_listL (as.take 3) V.ref) (by rw [List.length_zip, List.length_take]; omega) hD1 (yat_same _) (fun H' s => SqL.of (s _ _ hl3)) (fun i ar y H' H'' k1 hz sz hy k2 => ?_) (fun H3 s3 e3 => ?_)
    · obtain ⟨rfl, hy⟩ := hy
      rw [List.getElem?_zip_eq_some] at hz
      obtain rfl := map_get hz.1 hy
      have hrow := sz _ _ (rw3.get hz.1 hz.2)
      have nr := nes ar.2 (List.mem_of_mem_take (List.mem_of_getElem? hz.2))
      obtain ⟨u, us, e⟩ := List.exists_cons_of_ne_nil nr
      rw [e] at hrow k2
      exact ⟨rfl, _, rfl, ar.1, _, _, _, rfl, rfl, SqL.of hrow, atI_nat (j := 0) rfl, k2 _ (Same.refl _)⟩
    have ez : ((as.take 3).zip (rs.take 3)).filterMap (fun ar => some (V.str (ar.2.headD Str.empty))) = ((rs.take 3).map (fun r => r.headD Str.empty)).map V.str := by
      rw [List.filterMap_eq_map', List.map_map]
      have : ((as.take 3).zip (rs.take 3)).map Prod.snd = rs.take 3 := List.map_snd_zip (by rw [rw3.len]; exact Nat.le_refl _)
      conv => rhs; rw [← this, List.map_map]
      rfl
    rw [ez] at e3
    refine ⟨tT, _, rfl, .inr (kT _), fun l4 hl4 => ?_⟩
    have s4 := ((s1.trans s2').trans s3).trans (same_new (o := .lst (titles.map V.str)) hl4)
    refine ⟨dTx _, dTx titles, dp_dTx (keep1 e3 hl4), dp_dTx upd_same, shaped_dTx (fun x hx => ?_), (by decide +kernel), _, rfl, ?_⟩
    · obtain ⟨r, h1, rfl⟩ := List.mem_map.mp hx
      have h2 := List.mem_of_mem_take h1
      obtain ⟨u, us, rfl⟩ := List.exists_cons_of_ne_nil (nes r h2)
      exact oks _ h2 u (by simp)
    rw [eqv_dTx]
    refine ite2 (fun c => kN (parts_none (by simpa using c)) _ s4) (fun c => ?_)
    obtain ⟨s0', m0, g0, rest, rfl⟩ := heads_is nes (by simpa using c)
    rw [parts_is] at kN kY
    generalize eH4 : upd H3 l4 (.lst (titles.map V.str)) = H4 at s4 ⊢
    have s14 : Same H1 H4 := by
      rw [← eH4]
      exact (s2'.trans s3).trans (same_new hl4)
    have eD4 := s14 _ _ eD0
    have rw4 := rw0.same s14
    clear e3 rw3 ez hl3 eH2 hD1 hp3 hl4 eH4 s3 s2' c
    -- the three lists
    refine ⟨_, rfl, 3, rfl, D0, _, rfl, SqL.of eD4, fun p5 hp5 => ⟨p5, rfl, ⟨_, SqL.of upd_same⟩, fun D2 hD2 => ?_⟩⟩
    rw [ecut] at hD2 ⊢
    have hl5 : upd H4 p5 (.lst ((as.take 3).map V.ref)) p5 = some (.lst ((as.take 3).map V.ref)) := upd_same
    generalize eH5 : upd H4 p5 (.lst ((as.take 3).map V.ref)) = H5 at hD2 hl5 ⊢
    have s5' : Same H4 H5 := by rw [← eH5]; exact same_new hp5
    have rw5 := (rw4.take 3).same s5'
    refine lc_it (walk_listL (as.take 3) V.ref) (fun i H' => Pr H5 D2 H' ([s0', m0, g0].take i)) (Pr.zero hD2) (fun i H' _ h => SqL.of (h.keeps _ _ hl5)) (fun i y H' H'' hi h hy => ?_) (fun H6 g6 => ?_)
    · obtain ⟨rfl, hy⟩ := hy
      have ha : (as.take 3)[i]? = some (as.take 3)[i] := List.getElem?_eq_getElem hi
      obtain rfl := map_get ha hy
      have hi3 : i < 3 := by rw [List.length_take] at hi; omega
      have row : ∃ u us, [(("signs" : Str) :: s0'), (("moods" : Str) :: m0), (("good" : Str) :: g0)][i]? = some (u :: us) ∧ [s0', m0, g0][i]? = some us := by
        match i, hi3 with
        | 0, _ => exact ⟨_, _, rfl, rfl⟩
        | 1, _ => exact ⟨_, _, rfl, rfl⟩
        | 2, _ => exact ⟨_, _, rfl, rfl⟩
      obtain ⟨u, us, hu, hus⟩ := row
      refine ⟨rfl, _, rfl, 1, rfl, (as.take 3)[i], _, rfl, SqL.of (h.keeps _ _ (rw5.get ha hu)), fun p hp => ?_⟩
      rw [show (1 : Int) = ((1 : Nat) : Int) from rfl, cut_fromV _ 1 (by decide)]
      have et : [s0', m0, g0].take (i + 1) = [s0', m0, g0].take i ++ [us] := by
        rw [List.take_add_one, hus]
        rfl
      rw [et]
      exact h.push (r := us) hD2 hp (by rw [List.length_take]; simp; omega)
    have g6' : Pr H5 D2 H6 [s0', m0, g0] := by
      have : [s0', m0, g0].take (as.take 3).length = [s0', m0, g0] := by
        rw [List.length_take, len]
        simp
      rw [this] at g6
      exact g6
    obtain ⟨bs, s6', eD6, rw6⟩ := g6'.rw_
    have s6 := (s4.trans s5').trans s6'
    have s16 := (s14.trans s5').trans s6'
    have eR6 := s16 _ _ eD0
    have rr6 := rw0.same s16
    clear g6 g6' rw5 hl5 eH5 hD2 s6' s5' rw4 eD4 hp5
    cases rw6 with
    | cons e1 t1 =>
    cases t1 with
    | cons e2 t2 =>
    cases t2 with
    | cons e3 t3 =>
    cases t3
    rename_i a1 a2 a3
    refine ⟨D2, _, rfl, SqL.of eD6, rfl, _, _, rfl, _, _, rfl, _, _, rfl, rfl, ?_⟩
    have m1 := sms (("signs" : Str) :: s0') (by simp)
    have m2 := sms (("moods" : Str) :: m0) (by simp)
    have m3 := sms (("good" : Str) :: g0) (by simp)
    have o1 := oks (("signs" : Str) :: s0') (by simp)
    have o2 := oks (("moods" : Str) :: m0) (by simp)
    have o3 := oks (("good" : Str) :: g0) (by simp)
    simp only [List.length_cons] at m1 m2 m3
    refine ⟨_, rfl, a1, s0', rfl, e1, fun x hx => Nat.le_trans (m1.2 x (by simp [hx])) (by omega), fun H7 s7 => ⟨_, rfl, ite2 (fun c1 => ?_) (fun c1 => ?_)⟩⟩
    rotate_left
    · exact kN (by rw [if_neg (fun z => c1 z.1)]) _ (s6.trans s7)
    refine ⟨_, rfl, a2, m0, rfl, s7 _ _ e2, fun x hx => Nat.le_trans (m2.2 x (by simp [hx])) (by omega), fun H8 s8 => ⟨_, rfl, ite2 (fun c2 => ?_) (fun c2 => ?_)⟩⟩
    rotate_left
    · exact kN (by rw [if_neg (fun z => c2 z.2.1)]) _ ((s6.trans s7).trans s8)
    have s68 := s7.trans s8
    refine ⟨_, rfl, _, rfl, a3, a2, g0, m0, rfl, s68 _ _ e3, s68 _ _ e2, (by omega), (by omega), fun x hx => o3 x (by simp [hx]), fun x hx => o2 x (by simp [hx]), fun H9 s9 => ⟨_, rfl, ite2 (fun c3 => ?_) (fun c3 => ?_)⟩⟩
    · refine kN ?_ _ ((s6.trans s68).trans s9)
      rw [if_neg]
      intro z
      rw [z.2.2.1] at c3
      cases c3
    have c3' : areGoodL g0 m0 = true := by simpa using c3
    have s69 := s68.trans s9
    obtain ⟨x, rfl, zx⟩ := signs_one c1
    have zm := moods_few c2
    have rest9 := (rr6.same s69).drop 3
    refine ⟨_, rfl, a1, _, _, _, rfl, rfl, SqL.of (s69 _ _ e1), atI_nat (j := 0) rfl, _, rfl, _, rfl, 3, rfl, D0, _, rfl, SqL.of (s69 _ _ eR6), fun p7 hp7 => ?_⟩
    rw [show (3 : Int) = ((3 : Nat) : Int) from rfl, cut_fromV _ 3 (by decide), ← List.map_drop]
    have s10 := s69.trans (same_new (o := .lst ((as.drop 3).map V.ref)) hp7)
    refine ⟨x, a2, p7, m0, as.drop 3, rest, rfl, s10 _ _ e2, upd_same, rest9.same (same_new hp7), zx, zm, ?_, o1 x (by simp), fun y hy => o2 y (by simp [hy]), fun r hr y hy => oks r (by simp [hr]) y hy, fun c4 H10 s11 => ?_, fun c4 D H10 hD s11 eD => ?_⟩
    · simp only [List.length_cons] at few
      omega
    · refine ⟨_, rfl, rfl, _, rfl, iteT (kN ?_ _ ((s6.trans s10).trans s11))⟩
      rw [if_neg]
      intro z
      have := z.2.2.2
      simp only [List.getD_cons_zero] at this
      rw [c4] at this
      cases this
    · refine ⟨_, rfl, rfl, _, rfl, iteF ?_⟩
      have q1 := (s10.trans s11) _ _ e1
      have q2 := (s10.trans s11) _ _ e2
      have q3 := (s10.trans s11) _ _ e3
      refine ⟨_, rfl, a1, _, _, _, rfl, rfl, SqL.of q1, atI_nat (j := 0) rfl, _, rfl, a2, _, rfl, .inl ⟨SqL.of q2, fun M hM => ?_⟩⟩
      refine ⟨_, rfl, a3, _, rfl, .inl ⟨SqL.of (keep1 q3 hM), fun G hG => ?_⟩⟩
      refine ⟨_, rfl, (by show 4 ≤ sizeLine; decide), fun T hT => ?_⟩
      refine kY _ (by rw [if_pos ⟨c1, c2, c3', c4⟩]) T _ (((((s6.trans s10).trans s11).trans (same_new hM)).trans (same_new hG)).trans (same_new hT)) ⟨M, G, D, upd_same, keep1 (keep1 upd_same hG) hT, keep1 upd_same hT, keep1 (keep1 (keep1 eD hM) hG) hT⟩
end
end My
namespace My
open PySem PySem.Spec PyProof.Rows L2
abbrev kT (t : Str) (c : Nat) : List Key := [Sum.inr t, Sum.inr (sg c)]
def gf (kvs : List (List Key × V)) (t : Str) (c : Nat) : Str := match valV kvs (kT t c) with
  | some (.str y) => y
  | _ => Str.empty
theorem gf_is {kvs : List (List Key × V)} {t : Str} {c : Nat} {y : Str} (h : valV kvs (kT t c) = some (.str y)) : gf kvs t c = y := by
  unfold gf
  rw [h]
end My
namespace My
open PySem PySem.Spec PyProof.Rows L2
abbrev menuX : List (List Str) := [["a", "b", "z"], ["ab", "by", "az"], ["abc", "bxz", "cde"]]
/-- the goals of these pairs are told, and are words of ws -/
def Cv (kvs : List (List Key × V)) (ws : List Str) (done : List (Str × Nat)) : Prop := kvs.length ≤ done.length ∧ ∀ d ∈ done, ∃ y ∈ ws, valV kvs (kT d.1 d.2) = some (.str y)
theorem Cv.put {kvs : List (List Key × V)} {ws : List Str} {done : List (Str × Nat)} (h : Cv kvs ws done) {t y : Str} {c : Nat} (hy : y ∈ ws) : Cv (putK kvs (kT t c) (.str y)) ws (done ++ [(t, c)]) := by
  refine ⟨?_, fun d hd => ?_⟩
  · have := length_putK kvs (kT t c) (V.str y)
    have := h.1
    rw [List.length_append]
    simp
    omega
  · rw [valV_put]
    by_cases e : kT d.1 d.2 = kT t c
    · rw [if_pos e]
      exact ⟨y, hy, rfl⟩
    · rw [if_neg e]
      rcases List.mem_append.mp hd with m | m
      · exact h.2 d m
      · simp at m
        subst m
        exact absurd rfl e
def doneL (ws : List Str) (x : Str) : List (Str × Nat) := ws.flatMap fun t => x.cps.toList.map fun c => (t, c)
theorem done_take {x : Str} {ws : List Str} {i : Nat} {m : Str} (h : ws[i]? = some m) : doneL (ws.take (i + 1)) x = doneL (ws.take i) x ++ x.cps.toList.map fun c => (m, c) := by
  unfold doneL
  rw [List.take_add_one, h, List.flatMap_append]
  simp
theorem done_len (ws : List Str) (x : Str) : (doneL ws x).length = ws.length * x.length := by
  unfold doneL
  induction ws with
  | nil => simp
  | cons m t ih =>
    rw [List.flatMap_cons, List.length_append, ih, List.length_map, Array.length_toList, List.length_cons, Nat.succ_mul]
    show x.length + _ = _
    omega
/-- a sketch: signs, moods, good moods, goals -/
structure SkOk (mm : Nat) (x : Str) (ws fs : List Str) (kvs : List (List Key × V)) : Prop where
  hx : ∃ xs ∈ menuX, x ∈ xs
  nd : ws.Nodup
  l1 : 1 ≤ ws.length
  l2 : ws.length ≤ mm
  mem : ∀ y ∈ ws, y ∈ menuW
  sub : fs.Sublist ws
  cv : Cv kvs ws (doneL ws x)
def SkAt (H : Hp) (q : Addr) (x : Str) (ws fs : List Str) (kvs : List (List Key × V)) : Prop := ∃ lw lf g, H q = some (.lst [.str x, .ref lw, .ref lf, .ref g]) ∧ H lw = some (.lst (ws.map V.str)) ∧ H lf = some (.lst (fs.map V.str)) ∧ H g = some (.dT kvs)
def spSketch : Sp := fun vs H Q _ => ∃ (p : Addr) (mm : Nat), vs = [.ref p, .int 3, .int (mm : Int)] ∧ Wl H p ∧ 1 ≤ mm ∧ mm ≤ 9 ∧
  ∀ (q : Addr) (x : Str) (ws fs : List Str) (kvs : List (List Key × V)) (H' : Hp), SkOk mm x ws fs kvs → Sb p H H' → Wl H' p → SkAt H' q x ws fs kvs → Q (.ref q) H'
theorem x_small {x : Str} (h : ∃ xs ∈ menuX, x ∈ xs) : x.length ≤ 3 := by
  obtain ⟨xs, h1, h2⟩ := h
  have : ∀ xs ∈ menuX, ∀ x ∈ xs, x.length ≤ 3 := by decide +kernel
  exact this xs h1 x h2
section
variable {P : Program} {w : World} {K : PySem.W.Frag} {mg : Str → Option Value} {base : Heap}
abbrev nSketch : List Str := ["_law_well_here", "_law_most_signs", "_law_most_moods", "_law_letters", "_law_tempers", "_law_goals", "_law_temper", "_law_glyph"]
theorem scSketch : FnScope nSketch ["_law_well_here", "_law_most_signs", "_law_most_moods"] (defScope sSketch) := ⟨rfl, rfl, rfl, by decide +kernel, rfl, by decide +kernel, by decide +kernel⟩
theorem ok_sketch {f : Addr} {fd : FuncData} (F : Fun K "_law_sketch" "_law_sketch" sSketch f fd) (hD : Hv P w K mg base 1 "_law_dip" ["_law_well_here", "_law_size"] spDip) (hP : Hv P w K mg base 2 "_law_pick" ["_law_well_here", "_law_menu"] spPickL) (hT : Hv P w K mg base 3 "_law_terms" ["_law_well_here", "_law_size"] spTerms)
    (hIs : mg "isinstance" = none) (hLi : mg "list" = none) : FnOk P w K mg base CX0 4 f fd ["_law_well_here", "_law_most_signs", "_law_most_moods"] spSketch := by
  refine F.ok scSketch (fun vs H Q E h => ?_) (fun cdv A outer s H vs Q E hr h => ?_)
  · obtain ⟨p, mm, rfl, _⟩ := h
    rfl
  · obtain ⟨p, mm, rfl, hW, m1, m9, k⟩ := h
    refine ⟨_, pss_cons (ps_set (i := 3) scSketch.nd rfl (Or.inl rfl) (pe_cl hP (hr.mono (by decide)) rfl pass0 (pa_cons (pv 0) (pa_cons (pe_slice sl_list (pe_lst (pa_cons (pe_lst (pa_cons pe_str (pa_cons pe_str (pa_cons pe_str pa_nil))))
          (pa_cons (pe_lst (pa_cons pe_str (pa_cons pe_str (pa_cons pe_str pa_nil)))) (pa_cons (pe_lst (pa_cons pe_str (pa_cons pe_str (pa_cons pe_str pa_nil)))) pa_nil)))) po_none (po_some (pv 1))) pa_nil))))
      (pss_cons (ps_set (i := 3) scSketch.nd rfl (Or.inl rfl) (pe_ifExp (pt_val (pe_callB call_isi (by rfl) hIs (by decide +kernel) (pa_cons (pv 3) (pa_cons (pe_bltn (v := .ty "list") (by rfl) hLi (by decide +kernel) rfl) pa_nil))))
          (pe_ix ix_list (pv 3) (pe_cl hD (hr.mono (by decide)) rfl pass0 (pa_cons (pv 0) (pa_cons pe_int pa_nil))) (fun _ _ => rfl)) (pv 3)))
      (pss_cons (ps_par (i := 4) (j := 5) (by rfl) scSketch.nd rfl rfl (by decide) rfl rfl (pa_cons (pe_cl hT hr rfl pass0 (pa_cons (pv 0) (pa_cons (pe_op op_add pe_int (pe_cl hD (hr.mono (by decide)) rfl pass0 (pa_cons (pv 0) (pa_cons (pv 2) pa_nil)))) pa_nil))) (pa_cons pe_dnewT pa_nil)) (by rfl))
      (pss_cons (ps_for PassesOwn.never rfl (pi_list (pv 4)) (pg_name (i := 6) scSketch.nd rfl (Or.inl rfl)) (pss_one (ps_for PassesOwn.never rfl (pi_str (pv 3)) (pg_name (i := 7) scSketch.nd rfl (Or.inl rfl))
          (pss_one (ps_dput (hu_of hr) (pv 5) (pe_tup (pa_cons (pv 6) (pa_cons (pv 7) pa_nil))) (pe_cl hP (hr.mono (by decide)) rfl pass0 (pa_cons (pv 0) (pa_cons (pv 4) pa_nil))) rfl)))))
      (pss_one (ps_ret (pe_lst (pa_cons (pv 3) (pa_cons (pv 4) (pa_cons (pe_lc (own := [("_law_temper", 6)]) (g := gName 6) rfl scSketch.nd (pi_list (pv 4)) (blkOk_by (N := nSketch) (sc := defScope sSketch) (by decide +kernel))
          (fun _ _ _ _ _ => pg_name (i := 6) scSketch.nd rfl (Or.inl rfl)) (fun _ _ _ _ _ => pts_one (pt_cmpR op_eq (pe_cl hD (hr.mono (by decide)) rfl pass0 (pa_cons (pv 0) (pa_cons pe_int pa_nil))) pe_int (nomark _))) (fun _ _ _ _ _ => pv 6)) (pa_cons (pv 5) pa_nil)))))))))), ?_⟩
    -- the signs
    refine ⟨_, rfl, (by show 3 ≤ sizeLine; decide), fun q1 h1 => ⟨(by show 3 ≤ sizeLine; decide), fun q2 h2 => ⟨(by show 3 ≤ sizeLine; decide), fun q3 h3 => ⟨(by show 3 ≤ sizeLine; decide), fun q4 h4 => ?_⟩⟩⟩⟩
    refine ⟨_, rfl, 3, rfl, q4, _, rfl, SqL.of upd_same, fun q5 h5 => ?_⟩
    have ec : cutV [V.ref q1, V.ref q2, V.ref q3] none (some 3) = [V.ref q1, V.ref q2, V.ref q3] := rfl
    rw [ec]
    have s0 := ((((same_new h1).trans (same_new h2)).trans (same_new h3)).trans (same_new h4)).trans (same_new (o := .lst [V.ref q1, V.ref q2, V.ref q3]) h5)
    have hf : ∀ (j : Nat) (y : V), [V.ref q1, V.ref q2, V.ref q3][j]? = some y → ∃ (a : Addr) (xs : List Str), y = .ref a ∧ xs ∈ menuX ∧ xs.length = 3 ∧
        upd (upd (upd (upd (upd H q1 (.lst [.str "a", .str "b", .str "z"])) q2 (.lst [.str "ab", .str "by", .str "az"])) q3 (.lst [.str "abc", .str "bxz", .str "cde"])) q4 (.lst [V.ref q1, V.ref q2, V.ref q3])) q5 (.lst [V.ref q1, V.ref q2, V.ref q3]) a = some (.lst (xs.map V.str)) := fun j y hj => by
      match j, hj with
      | 0, hj => exact ⟨q1, ["a", "b", "z"], (Option.some.inj hj).symm, by simp, rfl, keep1 (keep1 (keep1 (keep1 upd_same h2) h3) h4) h5⟩
      | 1, hj => exact ⟨q2, ["ab", "by", "az"], (Option.some.inj hj).symm, by simp, rfl, keep1 (keep1 (keep1 upd_same h3) h4) h5⟩
      | 2, hj => exact ⟨q3, ["abc", "bxz", "cde"], (Option.some.inj hj).symm, by simp, rfl, keep1 (keep1 upd_same h4) h5⟩
      | _ + 3, hj => simp at hj
    have hW1 := hW.same s0
    have e5 : upd (upd (upd (upd (upd H q1 (.lst [.str "a", .str "b", .str "z"])) q2 (.lst [.str "ab", .str "by", .str "az"])) q3 (.lst [.str "abc", .str "bxz", .str "cde"])) q4 (.lst [V.ref q1, V.ref q2, V.ref q3])) q5 (.lst [V.ref q1, V.ref q2, V.ref q3]) q5 = some (.lst [V.ref q1, V.ref q2, V.ref q3]) := upd_same
    have n5 : q5 ≠ p := Wl.new (hW.same ((((same_new h1).trans (same_new h2)).trans (same_new h3)).trans (same_new h4))) h5
    generalize upd (upd (upd (upd (upd H q1 (.lst [.str "a", .str "b", .str "z"])) q2 (.lst [.str "ab", .str "by", .str "az"])) q3 (.lst [.str "abc", .str "bxz", .str "cde"])) q4 (.lst [V.ref q1, V.ref q2, V.ref q3])) q5 (.lst [V.ref q1, V.ref q2, V.ref q3]) = H1 at hf hW1 e5 s0 ⊢
    refine ⟨p, q5, _, rfl, hW1, n5, e5, (by show 0 < 3; decide), (by show 3 ≤ 1000; decide), fun j y o hj hW2 => ?_⟩
    obtain ⟨a, xs, rfl, hxs, l3, ea⟩ := hf j y hj
    have na : a ≠ p := hW1.neS ea
    have ea2 : upd H1 p o a = some (.lst (xs.map V.str)) := by rw [upd_ne na]; exact ea
    have s2 : Sb p H (upd H1 p o) := (Sb.of s0).trans Sb.upd_
    generalize upd H1 p o = H2 at hW2 ea2 s2 ⊢
    clear hf e5 hj h1 h2 h3 h4 h5 s0 hW1 ea
    refine ⟨_, rfl, .ref a, .ty "list", _, .type "list", true, rfl, .ty _, .base (.lst ea2), kit_ty (by decide +kernel), _, rfl, iteT ?_⟩
    refine ⟨_, rfl, _, rfl, p, 3, rfl, hW2, (by decide), (by decide), fun d o d0 d1 hW3 => ?_⟩
    obtain ⟨j, rfl⟩ := Int.eq_ofNat_of_zero_le d0
    have hj : j < xs.length := by omega
    have ei : xs[j]? = some xs[j] := List.getElem?_eq_getElem hj
    refine ⟨a, _, _, V.str xs[j], rfl, rfl, SqL.of (by rw [upd_ne na]; exact ea2), atI_nat (by rw [List.getElem?_map, ei]; rfl), ?_⟩
    have hx : ∃ ys ∈ menuX, xs[j] ∈ ys := ⟨xs, hxs, List.getElem_mem hj⟩
    generalize xs[j] = x at hx ⊢
    have s3 : Sb p H (upd H2 p o) := s2.trans Sb.upd_
    generalize upd H2 p o = H3 at hW3 s3 ⊢
    clear ea2 na hxs l3 hj ei d0 d1
    have xs3 := x_small hx
    -- the moods
    refine ⟨_, rfl, _, rfl, _, rfl, p, _, rfl, hW3, by omega, by omega, fun d o d0 d1 hW4 => ?_⟩
    obtain ⟨n, rfl⟩ := Int.eq_ofNat_of_zero_le d0
    have s4 : Sb p H (upd H3 p o) := s3.trans Sb.upd_
    generalize upd H3 p o = H4 at hW4 s4 ⊢
    refine ⟨_, _, rfl, rfl, p, 1 + n, by push_cast; rfl, hW4, by omega, fun lw ws H5 hl nd mem fw sw hW5 ew => ?_⟩
    have s5 := s4.trans sw
    refine fun g hg => ⟨_, _, rfl, ?_⟩
    have hW6 := hW5.same (same_new (o := .dT []) hg)
    have s6 := s5.trans (Sb.of (same_new (o := .dT []) hg))
    have ew6 := keep1 (o := .dT []) ew hg
    have nw : lw ≠ p := hW5.neS ew
    have ng : g ≠ p := hW5.new hg
    have nwg : lw ≠ g := ne_of_none ew hg
    have eg6 : upd H5 g (.dT []) g = some (.dT []) := upd_same
    have fg : H5 g = none := hg
    have hgH : H g = none := s5.free ng hg
    generalize upd H5 g (.dT []) = H6 at hW6 s6 ew6 eg6 ⊢
    have l1 : 1 ≤ ws.length := by omega
    have l2 : ws.length ≤ mm := by omega
    -- the goals
    refine ⟨_, rfl, lw, rfl, ⟨_, SqL.of ew6⟩, ?_⟩
    refine for_it (walk_listL ws V.str) (fun i σ H' => ∃ v6 v7 kvs, σ = [some (.ref p), some (.int 3), some (.int mm), some (.str x), some (.ref lw), some (.ref g), v6, v7] ∧ Wl H' p ∧ H' g = some (.dT kvs) ∧ Cv kvs ws (doneL (ws.take i) x) ∧ (∀ b o, b ≠ p → b ≠ g → H6 b = some o → H' b = some o))
      ⟨none, none, [], rfl, hW6, eg6, ⟨Nat.zero_le _, fun d hd => by simp [doneL] at hd⟩, fun b o _ _ e => e⟩ (fun i σ H' _ h => ?_) (fun i y σ H' H'' hi h hy => ?_) (fun σ H' h => ?_)
    · obtain ⟨v6, v7, kvs, rfl, _, _, _, st⟩ := h
      exact SqL.of (st _ _ nw nwg ew6)
    · obtain ⟨rfl, hy⟩ := hy
      have hm : ws[i]? = some ws[i] := List.getElem?_eq_getElem hi
      obtain rfl := map_get hm hy
      obtain ⟨v6, v7, kvs, rfl, hW7, eg7, cv, st⟩ := h
      refine ⟨_, rfl, x, rfl, ?_⟩
      refine for_it walk_str (fun j σ H' => ∃ v7 kvs, σ = [some (.ref p), some (.int 3), some (.int mm), some (.str x), some (.ref lw), some (.ref g), some (.str ws[i]), v7] ∧ Wl H' p ∧ H' g = some (.dT kvs) ∧ Cv kvs ws (doneL (ws.take i) x ++ (x.cps.toList.take j).map fun c => (ws[i], c)) ∧ (∀ b o, b ≠ p → b ≠ g → H6 b = some o → H' b = some o))
        ⟨v7, kvs, rfl, hW7, eg7, by rw [List.take_zero, List.map_nil, List.append_nil]; exact cv, st⟩ (fun _ _ _ _ _ => trivial) (fun j y σ H7 H8 hj h hy => ?_) (fun σ H7 h => ?_)
      · obtain ⟨rfl, c, hc, rfl⟩ := hy
        obtain ⟨v7, kvs, rfl, hW7, eg7, cv, st⟩ := h
        have et : (x.cps.toList.take (j + 1)).map (fun c => (ws[i], c)) = (x.cps.toList.take j).map (fun c => (ws[i], c)) ++ [(ws[i], c)] := by
          rw [List.take_add_one, Array.getElem?_toList, hc, List.map_append]
          rfl
        refine ⟨_, rfl, _, rfl, p, lw, _, rfl, hW7, nw, st _ _ nw nwg ew6, (by rw [List.length_map]; omega), (by rw [List.length_map]; omega), fun u y o hu hW8 => ?_⟩
        have hy : ∃ z ∈ ws, y = .str z := by
          rw [List.getElem?_map] at hu
          cases e : ws[u]? with
          | none => rw [e] at hu; cases hu
          | some z => rw [e] at hu; exact ⟨z, List.mem_of_getElem? e, (Option.some.inj hu).symm⟩
        obtain ⟨z, hz, rfl⟩ := hy
        have eg8 : upd H8 p o g = some (.dT kvs) := by rw [upd_ne ng]; exact eg7
        have st8 : ∀ b o', b ≠ p → b ≠ g → H6 b = some o' → upd H8 p o b = some o' := fun b o' n1 n2 e => by rw [upd_ne n1]; exact st b o' n1 n2 e
        generalize upd H8 p o = H9 at hW8 eg8 st8 ⊢
        refine ⟨_, rfl, _, rfl, _, rfl, (by show 2 ≤ sizeLine; decide), fun t ht => ⟨g, _, rfl, .inr ⟨kvs, kT ws[i] c, t, keep1 eg8 ht, rfl, upd_same, ?_, rfl⟩, ?_⟩⟩
        · have a1 := cv.1
          rw [List.length_append, done_len, List.length_take, List.length_map, List.length_take] at a1
          have a2 : min i ws.length * x.length ≤ 9 * 3 := Nat.mul_le_mul (by omega) xs3
          rw [sizeLine_eq]
          have a3 : min j x.cps.toList.length ≤ j := Nat.min_le_left ..
          have a4 : j < 4 := Nat.lt_of_lt_of_le hj (Nat.le_succ_of_le xs3)
          omega
        · have nt : g ≠ t := ne_of_none eg8 ht
          refine ⟨_, _, rfl, ((hW8.same (same_new ht)).upd_ ng), upd_same, ?_, fun b o' n1 n2 e => ?_⟩
          · rw [et, ← List.append_assoc]
            exact cv.put hz
          · rw [upd_ne n2, upd_ne (ne_of_none (st8 b o' n1 n2 e) ht)]
            exact st8 b o' n1 n2 e
      · obtain ⟨v7, kvs, rfl, hW7, eg7, cv, st⟩ := h
        refine ⟨_, _, kvs, rfl, hW7, eg7, ?_, st⟩
        have : x.cps.toList.take x.cps.size = x.cps.toList := by rw [← Array.length_toList, List.take_length]
        rw [this] at cv
        rw [done_take hm]
        exact cv
    obtain ⟨v6, v7, kvs, rfl, hW7, eg7, cv, st⟩ := h
    rw [List.take_length] at cv
    have ew7 := st _ _ nw nwg ew6
    have s7 : Sb p H H' := fun b o n e => by
      have nb : b ≠ g := fun z => by rw [z, hgH] at e; cases e
      exact st b o n nb (s6 b o n e)
    -- the good ones
    refine ⟨_, rfl, _, rfl, _, rfl, lw, rfl, ⟨_, SqL.of ew7⟩, fun D hD' => ?_⟩
    have nD : D ≠ p := hW7.new hD'
    refine lc_it (walk_listL ws V.str) (fun i H'' => Wl H'' p ∧ (∀ b o, b ≠ p → b ≠ D → H' b = some o → H'' b = some o) ∧ ∃ fs : List Str, fs.Sublist (ws.take i) ∧ H'' D = some (.lst (fs.map V.str)))
      ⟨hW7.upd_ nD, fun b o n1 n2 e => by rw [upd_ne n2]; exact e, [], by simp, upd_same⟩ (fun i H'' _ h => SqL.of (h.2.1 _ _ nw (ne_of_none ew7 hD') ew7)) (fun i y H7 H8 hi h hy => ?_) (fun H8 h => ?_)
    · obtain ⟨rfl, hy⟩ := hy
      have hm : ws[i]? = some ws[i] := List.getElem?_eq_getElem hi
      obtain rfl := map_get hm hy
      obtain ⟨hW8, st8, fs, sub, eD⟩ := h
      have etk : ws.take (i + 1) = ws.take i ++ [ws[i]] := by rw [List.take_add_one, hm]; rfl
      refine ⟨rfl, _, rfl, p, 2, rfl, hW8, (by decide), (by decide), fun d o d0 d1 hW9 => ⟨rfl, _, rfl, ite2 (fun c => ?_) (fun c => ?_)⟩⟩
      · refine ⟨_, rfl, _, by rw [upd_ne nD]; exact eD, ?_, hW9.upd_ nD, fun b o' n1 n2 e => ?_, fs ++ [ws[i]], by rw [etk]; exact sub.append (List.Sublist.refl _), ?_⟩
        · have := sub.length_le
          rw [List.length_take] at this
          rw [List.length_map, sizeLine_eq]
          omega
        · rw [upd_ne n2, upd_ne n1]
          exact st8 b o' n1 n2 e
        · rw [upd_same, List.map_append]
          rfl
      · refine ⟨hW9, fun b o' n1 n2 e => by rw [upd_ne n1]; exact st8 b o' n1 n2 e, fs, ?_, by rw [upd_ne nD]; exact eD⟩
        rw [etk]
        exact sub.trans (List.sublist_append_left _ _)
    · obtain ⟨hW8, st8, fs, sub, eD⟩ := h
      rw [List.take_length] at sub
      refine ⟨_, rfl, (by show 4 ≤ sizeLine; decide), fun q hq => ?_⟩
      have eg8 := st8 _ _ ng (ne_of_none eg7 hD') eg7
      have ew8 := st8 _ _ nw (ne_of_none ew7 hD') ew7
      refine k q x ws fs kvs _ ⟨hx, nd, l1, l2, mem, sub, cv⟩ (fun b o n e => ?_) (hW8.same (same_new hq)) ⟨lw, D, g, upd_same, keep1 ew8 hq, keep1 eD hq, keep1 eg8 hq⟩
      have e7 := s7 b o n e
      exact keep1 (st8 b o n (ne_of_none e7 hD') e7) hq
end
end My
namespace My
open PySem PySem.Spec PyProof.Rows L2
/-- the goal that the dict tells -/
def lineL (kvs : List (List Key × V)) (t : Str) (c : Nat) : Str := t ++ sp ++ sg c ++ sp ++ gf kvs t c
def headL (x : Str) (ws fs : List Str) : List Str := [("signs " : Str) ++ x, Txt.join sp (("moods" : Str) :: ws), Txt.join sp (("good" : Str) :: fs)]
def bodyL (x : Str) (ws : List Str) (kvs : List (List Key × V)) : List Str := ws.flatMap fun t => x.cps.toList.map fun c => lineL kvs t c
def linesL (x : Str) (ws fs : List Str) (kvs : List (List Key × V)) : List Str := headL x ws fs ++ bodyL x ws kvs
def textL (x : Str) (ws fs : List Str) (kvs : List (List Key × V)) : Str := Txt.join nl (linesL x ws fs kvs)
/-- all words are short -/
structure Short (x : Str) (ws fs : List Str) (kvs : List (List Key × V)) : Prop where
  hx : x.length ≤ 3
  nw : ws.length ≤ 20
  nf : fs.length ≤ 20
  lw : ∀ y ∈ ws, y.length ≤ 8
  lf : ∀ y ∈ fs, y.length ≤ 8
  gl : ∀ t ∈ ws, ∀ c ∈ x.cps.toList, ∃ y : Str, y.length ≤ 8 ∧ valV kvs (kT t c) = some (.str y)
def spText : Sp := fun vs H Q _ => ∃ (q : Addr) (x : Str) (ws fs : List Str) (kvs : List (List Key × V)), vs = [.ref q] ∧ SkAt H q x ws fs kvs ∧ Short x ws fs kvs ∧ ∀ H', Same H H' → Q (.str (textL x ws fs kvs)) H'
theorem sum_le {M : Nat} : ∀ {l : List Str}, (∀ y ∈ l, y.length ≤ M) → (l.map (·.length)).sum ≤ l.length * M
  | [], _ => Nat.zero_le _
  | y :: t, h => by
    have h1 := h y (by simp)
    have h2 := sum_le (l := t) fun z hz => h z (by simp [hz])
    rw [List.map_cons, List.sum_cons, List.length_cons, Nat.succ_mul]
    omega
theorem body_take {x : Str} {ws : List Str} {kvs : List (List Key × V)} {i : Nat} {m : Str} (h : ws[i]? = some m) : bodyL x (ws.take (i + 1)) kvs = bodyL x (ws.take i) kvs ++ x.cps.toList.map fun c => lineL kvs m c := by
  unfold bodyL
  rw [List.take_add_one, h, List.flatMap_append]
  simp
theorem body_len (x : Str) (ws : List Str) (kvs : List (List Key × V)) : (bodyL x ws kvs).length = ws.length * x.length := by
  unfold bodyL
  induction ws with
  | nil => simp
  | cons m t ih =>
    rw [List.flatMap_cons, List.length_append, ih, List.length_map, Array.length_toList, List.length_cons, Nat.succ_mul]
    show x.length + _ = _
    omega
theorem join_len (ps : List Str) : (Txt.join sp ps).length ≤ (ps.map (·.length)).sum + ps.length := by
  rw [TL.join_eq]
  cases ps with
  | nil => exact Nat.zero_le _
  | cons a l =>
    rw [len_join_cons, List.length_cons]
    have : (sp : Str).length = 1 := rfl
    rw [this]
    omega
theorem lines_short {x : Str} {ws fs : List Str} {kvs : List (List Key × V)} (h : Short x ws fs kvs) : (linesL x ws fs kvs).length ≤ 63 ∧ ∀ y ∈ linesL x ws fs kvs, y.length ≤ 200 := by
  have z := h.hx
  have z1 := h.nw
  have z2 := h.nf
  refine ⟨?_, fun y hy => ?_⟩
  · unfold linesL
    rw [List.length_append, body_len]
    have : ws.length * x.length ≤ 20 * 3 := Nat.mul_le_mul z1 z
    show 3 + _ ≤ 63
    omega
  · unfold linesL at hy
    rcases List.mem_append.mp hy with m | m
    · unfold headL at m
      simp only [List.mem_cons, List.not_mem_nil, or_false] at m
      rcases m with rfl | rfl | rfl
      · rw [len_app]
        have : ("signs " : Str).length = 6 := by decide +kernel
        omega
      · have a := join_len (("moods" : Str) :: ws)
        have b := sum_le h.lw
        have c : ("moods" : Str).length = 5 := by decide +kernel
        rw [List.map_cons, List.sum_cons, List.length_cons, c] at a
        omega
      · have a := join_len (("good" : Str) :: fs)
        have b := sum_le h.lf
        have c : ("good" : Str).length = 4 := by decide +kernel
        rw [List.map_cons, List.sum_cons, List.length_cons, c] at a
        omega
    · unfold bodyL at m
      obtain ⟨t, ht, m⟩ := List.mem_flatMap.mp m
      obtain ⟨c, hc, rfl⟩ := List.mem_map.mp m
      obtain ⟨g, lg, eg⟩ := h.gl t ht c hc
      unfold lineL
      rw [gf_is eg, len_app, len_app, len_app, len_app]
      have := h.lw t ht
      have e1 : (sp : Str).length = 1 := rfl
      have e2 : (sg c).length = 1 := rfl
      omega
section
variable {P : Program} {w : World} {K : PySem.W.Frag} {mg : Str → Option Value} {base : Heap}
abbrev nText : List Str := ["_law_sketch_here", "_law_letters", "_law_tempers", "_law_fine", "_law_goals", "_law_lines", "_law_temper", "_law_glyph"]
theorem scText : FnScope nText ["_law_sketch_here"] (defScope sText) := ⟨rfl, rfl, rfl, by decide +kernel, rfl, by decide +kernel, by decide +kernel⟩
theorem ok_text {f : Addr} {fd : FuncData} (F : Fun K "_law_text" "_law_text" sText f fd) : FnOk P w K mg base CX0 1 f fd ["_law_sketch_here"] spText := by
  refine F.ok scText (fun vs H Q E h => ?_) (fun cdv A outer s H vs Q E hr h => ?_)
  · obtain ⟨q, x, ws, fs, kvs, rfl, _⟩ := h
    rfl
  · obtain ⟨q, x, ws, fs, kvs, rfl, ⟨lw, lf, g, eq, ew, ef, eg⟩, sh, k⟩ := h
    refine ⟨_, pss_cons (ps_asg (pv 0) (pg_unl (n := 4) rfl (pgs_cons (pg_name (i := 1) scText.nd rfl (Or.inl rfl)) (pgs_cons (pg_name (i := 2) scText.nd rfl (Or.inl rfl)) (pgs_cons (pg_name (i := 3) scText.nd rfl (Or.inl rfl)) (pgs_cons (pg_name (i := 4) scText.nd rfl (Or.inr rfl)) pgs_nil))))))
      (pss_cons (ps_set (i := 5) scText.nd rfl (Or.inl rfl) (pe_lst (pa_cons (pe_op op_add_str pe_str (pv 1)) (pa_cons (pe_join pe_str (pe_op op_cat (pe_lst (pa_cons pe_str pa_nil)) (pv 2))) (pa_cons (pe_join pe_str (pe_op op_cat (pe_lst (pa_cons pe_str pa_nil)) (pv 3))) pa_nil)))))
      (pss_cons (ps_for PassesOwn.never rfl (pi_list (pv 2)) (pg_name (i := 6) scText.nd rfl (Or.inr rfl)) (pss_one (ps_set (i := 5) scText.nd rfl (Or.inl rfl) (pe_op op_cat (pv 5) (pe_lc (own := [("_law_glyph", 7)]) (g := gName 7) (tt := tYes) rfl scText.nd (pi_str (pv 1)) (blkOk_by (N := nText) (sc := defScope sText) (by decide +kernel))
          (fun _ _ _ _ _ => pg_name (i := 7) scText.nd rfl (Or.inl rfl)) (fun _ _ _ _ _ => pts_nil) (fun _ _ _ _ _ => pe_op op_add_str (pe_op op_add_str (pe_op op_add_str (pe_op op_add_str (pv 6) pe_str) (pv 7)) pe_str) (pe_dget (hu_of hr) (pv 4) (pe_tup (pa_cons (pv 6) (pa_cons (pv 7) pa_nil))) (fun _ _ => rfl))))))))
      (pss_one (ps_ret (pe_join pe_str (pv 5)))))), ?_⟩
    have esp : (Str.ofString " ") = sp := by decide +kernel
    have enl : (Str.ofString "\n") = nl := by decide +kernel
    have hs := lines_short sh
    have z := sh.hx
    have z1 := sh.nw
    have z2 := sh.nf
    refine ⟨_, rfl, q, _, rfl, SqL.of eq, rfl, _, _, rfl, _, _, rfl, _, _, rfl, _, _, rfl, rfl, ?_⟩
    -- the first three lines
    refine ⟨_, rfl, _, _, rfl, rfl, ?_, ?_⟩
    · have : ("signs " : Str).length = 6 := by decide +kernel
      rw [sizeLine_eq]
      omega
    refine ⟨⟨_, rfl⟩, (by show 1 ≤ sizeLine; decide), fun a1 h1 => ⟨_, rfl, a1, lw, _, _, rfl, rfl, upd_same, keep1 ew h1, ?_, fun a2 h2 => ?_⟩⟩
    · rw [List.length_map, sizeLine_eq]
      simp
      omega
    have s2 := (same_new (o := .lst [V.str ("moods" : Str)]) h1).trans (same_new (o := .lst ([V.str ("moods" : Str)] ++ ws.map V.str)) h2)
    refine ⟨_, a2, ("moods" : Str) :: ws, rfl, rfl, .inl (SqL.of upd_same), ?_, ?_⟩
    · have b := sum_le sh.lw
      have c : ("moods" : Str).length = 5 := by decide +kernel
      have d : (Str.ofString " ").length = 1 := by decide +kernel
      rw [List.map_cons, List.sum_cons, List.length_cons, c, d]
      omega
    generalize upd (upd H a1 (.lst [V.str ("moods" : Str)])) a2 (.lst ([V.str ("moods" : Str)] ++ ws.map V.str)) = H2 at s2 ⊢
    refine ⟨⟨_, rfl⟩, (by show 1 ≤ sizeLine; decide), fun a3 h3 => ⟨_, rfl, a3, lf, _, _, rfl, rfl, upd_same, keep1 (s2 _ _ ef) h3, ?_, fun a4 h4 => ?_⟩⟩
    · rw [List.length_map, sizeLine_eq]
      simp
      omega
    have s4 := (s2.trans (same_new (o := .lst [V.str ("good" : Str)]) h3)).trans (same_new (o := .lst ([V.str ("good" : Str)] ++ fs.map V.str)) h4)
    refine ⟨_, a4, ("good" : Str) :: fs, rfl, rfl, .inl (SqL.of upd_same), ?_, ?_⟩
    · have b := sum_le sh.lf
      have c : ("good" : Str).length = 4 := by decide +kernel
      have d : (Str.ofString " ").length = 1 := by decide +kernel
      rw [List.map_cons, List.sum_cons, List.length_cons, c, d]
      omega
    generalize upd (upd H2 a3 (.lst [V.str ("good" : Str)])) a4 (.lst ([V.str ("good" : Str)] ++ fs.map V.str)) = H4 at s4 ⊢
    refine ⟨(by show 3 ≤ sizeLine; decide), fun l0 h0 => ?_⟩
    rw [esp]
    have s5 := s4.trans (same_new (o := .lst ((headL x ws fs).map V.str)) h0)
    have e5 : upd H4 l0 (.lst ((headL x ws fs).map V.str)) l0 = some (.lst ((headL x ws fs).map V.str)) := upd_same
    have ew5 := s5 _ _ ew
    have eg5 := s5 _ _ eg
    show ∃ a, _
    generalize eH5 : upd H4 l0 (.lst ((headL x ws fs).map V.str)) = H5 at s5 e5 ew5 eg5
    have eH5' : upd H4 l0 (.lst [V.str (("signs " : Str) ++ x), V.str (Txt.join sp (("moods" : Str) :: ws)), V.str (Txt.join sp (("good" : Str) :: fs))]) = H5 := eH5
    rw [eH5']
    refine ⟨_, rfl, lw, rfl, ⟨_, SqL.of ew5⟩, ?_⟩
    refine for_it (walk_listL ws V.str) (fun i σ H' => ∃ (l : Addr) (v6 : Option V), σ = [some (.ref q), some (.str x), some (.ref lw), some (.ref lf), some (.ref g), some (.ref l), v6, none] ∧ Same H5 H' ∧ H' l = some (.lst ((headL x ws fs ++ bodyL x (ws.take i) kvs).map V.str)))
      ⟨l0, none, rfl, Same.refl _, by rw [List.take_zero]; exact e5⟩ (fun i σ H' _ h => ?_) (fun i y σ H' H'' hi h hy => ?_) (fun σ H' h => ?_)
    · obtain ⟨l, v6, rfl, st, _⟩ := h
      exact SqL.of (st _ _ ew5)
    · obtain ⟨rfl, hy⟩ := hy
      have hm : ws[i]? = some ws[i] := List.getElem?_eq_getElem hi
      obtain rfl := map_get hm hy
      obtain ⟨l, v6, rfl, st, el⟩ := h
      refine ⟨_, rfl, _, rfl, x, rfl, fun D hD => ?_⟩
      refine lcG (x.cps.toList) (fun c => some (V.str (lineL kvs ws[i] c))) (by rw [Array.length_toList]; exact walk_str) (by rw [Array.length_toList]; exact Nat.le_trans z (by decide)) hD (fun i H x H' h => by rw [h.1]; exact Same.refl _) (fun _ _ => trivial) (fun j c y H7 H8 k1 hc sj hy k2 => ?_) (fun H7 s7 e7 => ?_)
      · obtain ⟨rfl, c', hc', rfl⟩ := hy
        rw [← Array.getElem?_toList, hc] at hc'
        cases hc'
        have hmw : ws[i] ∈ ws := List.getElem_mem hi
        have hcx : c ∈ x.cps.toList := List.mem_of_getElem? hc
        obtain ⟨gy, lg, egy⟩ := sh.gl ws[i] hmw c hcx
        have lt := sh.lw ws[i] hmw
        have d : (sp : Str).length = 1 := rfl
        have d2 : ({ cps := #[c] } : Str).length = 1 := rfl
        refine ⟨rfl, _, rfl, _, _, rfl, rfl, (by rw [sizeLine_eq]; omega), _, rfl, _, _, rfl, rfl, (by rw [sizeLine_eq, len_app]; omega), _, _, rfl, rfl, (by rw [sizeLine_eq, len_app, len_app]; omega), _, rfl, _, rfl, _, rfl, (by show 2 ≤ sizeLine; decide), fun t ht => ?_⟩
        refine ⟨g, V.str gy, rfl, ?_, _, _, rfl, rfl, ?_, ?_⟩
        · have := DGet.t (k := kT ws[i] c) (keep1 ((st.trans sj) _ _ eg5) ht) (upd_same (o := .tup ((kT ws[i] c).map kV)))
          rw [egy] at this
          exact this
        · rw [sizeLine_eq, len_app, len_app, len_app]
          omega
        · have := k2 _ (same_new (o := .tup ((kT ws[i] c).map kV)) ht)
          unfold lineL at this
          rw [gf_is egy] at this
          exact this
      · refine ⟨l, D, _, _, rfl, rfl, s7 _ _ el, e7, ?_, fun r hr' => ?_⟩
        · have a1 : (headL x ws fs ++ bodyL x (ws.take i) kvs).length ≤ 63 := by
            rw [List.length_append, body_len, List.length_take]
            have : min i ws.length * x.length ≤ 20 * 3 := Nat.mul_le_mul (by omega) z
            show 3 + _ ≤ 63
            omega
          have a2 : (x.cps.toList.filterMap fun c => some (V.str (lineL kvs ws[i] c))).length ≤ 3 := by
            rw [List.filterMap_eq_map', List.length_map, Array.length_toList]
            exact z
          rw [List.length_map, sizeLine_eq]
          omega
        · refine ⟨r, _, rfl, (st.trans s7).trans (same_new hr'), ?_⟩
          rw [upd_same, body_take hm, List.filterMap_eq_map', ← List.append_assoc, List.map_append (l₁ := headL x ws fs ++ bodyL x (ws.take i) kvs), List.map_map]
          rfl
    · obtain ⟨l, v6, rfl, st, el⟩ := h
      rw [List.take_length] at el
      refine ⟨⟨_, rfl⟩, _, rfl, _, l, linesL x ws fs kvs, rfl, rfl, .inl (SqL.of el), ?_, ?_⟩
      · have b := sum_le hs.2
        have c := hs.1
        have d : (Str.ofString "\n").length = 1 := by decide +kernel
        have e : (linesL x ws fs kvs).length * 200 ≤ 63 * 200 := Nat.mul_le_mul_right _ c
        rw [d]
        omega
      · rw [enl]
        exact k _ (s5.trans st)
end
end My
namespace My
open PySem PySem.Spec PyProof.Rows L2
/-- letters alone -/
def Ltr (y : Str) : Prop := ∀ c ∈ y.cps.toList, 97 ≤ c
theorem ltr_only {y : Str} (h : madeL y abc = true) : Ltr y := fun c hc => by
  unfold madeL at h
  rw [List.all_map, List.all_eq_true] at h
  have := h c hc
  have m : c ∈ abc.cps.toList := by simpa using this
  have all : ∀ d ∈ abc.cps.toList, 97 ≤ d := by decide +kernel
  exact all c m
theorem ltr_word {y : Str} (h : isWordL y = true) : Ltr y := ltr_only (Bool.and_eq_true_iff.mp h).2
theorem ltr_signs {x : Str} (h : areSignsL [x] = true) : Ltr x := by
  rw [areS1] at h
  simp only [Bool.and_eq_true] at h
  exact ltr_only h.1.2
theorem ltr_sg {x : Str} (h : Ltr x) {c : Nat} (hc : c ∈ x.cps.toList) : Ltr (sg c) := fun d hd => by
  have : d = c := by simpa using hd
  rw [this]
  exact h c hc
theorem join_from (y : Str) : ∀ (ps : List Str) (c : Nat), c ∈ (Str.join y ps).cps.toList → c ∈ y.cps.toList ∨ ∃ p ∈ ps, c ∈ p.cps.toList
  | [], _, h => by cases h
  | [x], _, h => .inr ⟨x, by simp, h⟩
  | x :: z :: r, c, h => by
    have h' : c ∈ (x ++ y ++ Str.join y (z :: r)).cps.toList := h
    rw [cps_app, cps_app] at h'
    simp only [List.mem_append] at h'
    rcases h' with (h' | h') | h'
    · exact .inr ⟨x, by simp, h'⟩
    · exact .inl h'
    · rcases join_from y (z :: r) c h' with h' | ⟨p, hp, h'⟩
      · exact .inl h'
      · exact .inr ⟨p, by simp [hp], h'⟩
/-- a line of words, split -/
theorem split_line {ps : List Str} (hne : ps ≠ []) (h : ∀ p ∈ ps, Ltr p) : Txt.split (Txt.join sp ps) sp = ps := by
  refine TL.split_join (s := 32) (S := []) rfl (by decide +kernel) hne fun p hp => ?_
  intro m
  have := h p hp 32 m
  omega
theorem line_no {ps : List Str} (h : ∀ p ∈ ps, Ltr p) : (10 : Nat) ∉ (Txt.join sp ps).cps.toList := fun m => by
  rw [TL.join_eq] at m
  rcases join_from sp ps 10 m with m | ⟨p, hp, m⟩
  · simp at m
  · have := h p hp 10 m
    omega
theorem join2 (a b : Str) : Txt.join sp [a, b] = a ++ sp ++ b := by rw [TL.join_eq]; rfl
theorem str_app_assoc (a b c : Str) : a ++ b ++ c = a ++ (b ++ c) := str_ext (by rw [cps_app, cps_app, cps_app, cps_app, List.append_assoc])
theorem join3 (a b c : Str) : Txt.join sp [a, b, c] = a ++ sp ++ b ++ sp ++ c := by
  rw [TL.join_eq]
  show a ++ sp ++ (b ++ sp ++ c) = _
  rw [str_app_assoc b sp c, str_app_assoc (a ++ sp ++ b) sp c, str_app_assoc (a ++ sp) b (sp ++ c)]
/-- the rows of goals of a drawn rule -/
def rsL (x : Str) (ws : List Str) (kvs : List (List Key × V)) : List (List Str) := ws.flatMap fun t => x.cps.toList.map fun c => [t, sg c, gf kvs t c]
structure Fine (x : Str) (ws fs : List Str) (kvs : List (List Key × V)) : Prop where
  sgs : areSignsL [x] = true
  mds : areMoodsL ws = true
  sub : fs.Sublist ws
  gl : ∀ t ∈ ws, ∀ c ∈ x.cps.toList, ∃ y ∈ ws, valV kvs (kT t c) = some (.str y)
theorem moods_word {ws : List Str} (h : areMoodsL ws = true) : ∀ y ∈ ws, isWordL y = true := by
  unfold areMoodsL at h
  simp only [Bool.and_eq_true] at h
  exact List.all_eq_true.mp h.1.2
theorem moods_nd {ws : List Str} (h : areMoodsL ws = true) : ws.Nodup := by
  unfold areMoodsL at h
  simp only [Bool.and_eq_true] at h
  exact of_decide_eq_true h.2
theorem sub_filter : ∀ {ws fs : List Str}, ws.Nodup → fs.Sublist ws → ws.filter (fun m => decide (m ∈ fs)) = fs
  | [], fs, _, h => by
    have := List.sublist_nil.mp h
    subst this
    rfl
  | y :: t, fs, nd, h => by
    have nd' := List.nodup_cons.mp nd
    cases h with
    | cons _ h =>
      have hy : y ∉ fs := fun m => nd'.1 (h.subset m)
      rw [List.filter_cons, if_neg (by simpa using hy)]
      exact sub_filter nd'.2 h
    | cons_cons _ h =>
      rename_i gs
      rw [List.filter_cons, if_pos (by simp)]
      congr 1
      have e : t.filter (fun m => decide (m ∈ y :: gs)) = t.filter (fun m => decide (m ∈ gs)) := by
        apply List.filter_congr
        intro z hz
        have : z ≠ y := fun e => nd'.1 (e ▸ hz)
        simp [this]
      rw [e]
      exact sub_filter nd'.2 h
theorem fine_rows {x : Str} {ws fs : List Str} {kvs : List (List Key × V)} (h : Fine x ws fs kvs) : rowsL (textL x ws fs kvs) = [(("signs" : Str)), x] :: (("moods" : Str) :: ws) :: (("good" : Str) :: fs) :: rsL x ws kvs := by
  have lx := ltr_signs h.sgs
  have lw : ∀ y ∈ ws, Ltr y := fun y hy => ltr_word (moods_word h.mds y hy)
  have lf : ∀ y ∈ fs, Ltr y := fun y hy => lw y (h.sub.subset hy)
  have lg : ∀ t ∈ ws, ∀ c ∈ x.cps.toList, Ltr (gf kvs t c) := fun t ht c hc => by
    obtain ⟨y, hy, e⟩ := h.gl t ht c hc
    rw [gf_is e]
    exact lw y hy
  have l1 : Ltr ("signs" : Str) := ltr_only (by decide +kernel)
  have l2 : Ltr ("moods" : Str) := ltr_only (by decide +kernel)
  have l3 : Ltr ("good" : Str) := ltr_only (by decide +kernel)
  let pss : List (List Str) := [("signs" : Str), x] :: (("moods" : Str) :: ws) :: (("good" : Str) :: fs) :: rsL x ws kvs
  have e : linesL x ws fs kvs = pss.map (Txt.join sp) := by
    show headL x ws fs ++ bodyL x ws kvs = Txt.join sp [("signs" : Str), x] :: Txt.join sp (("moods" : Str) :: ws) :: Txt.join sp (("good" : Str) :: fs) :: (rsL x ws kvs).map (Txt.join sp)
    have e1 : Txt.join sp [("signs" : Str), x] = ("signs " : Str) ++ x := by
      rw [join2]
      rfl
    have e2 : (rsL x ws kvs).map (Txt.join sp) = bodyL x ws kvs := by
      unfold rsL bodyL
      rw [List.map_flatMap]
      congr 1
      funext t
      rw [List.map_map]
      exact List.map_congr_left fun c _ => join3 t (sg c) (gf kvs t c)
    rw [e1, e2]
    rfl
  have all : ∀ ps ∈ pss, ps ≠ [] ∧ ∀ p ∈ ps, Ltr p := by
    intro ps hps
    have hps' : ps = [("signs" : Str), x] ∨ ps = ("moods" : Str) :: ws ∨ ps = ("good" : Str) :: fs ∨ ps ∈ rsL x ws kvs := by simpa [pss] using hps
    rcases hps' with rfl | rfl | rfl | hm
    · exact ⟨by simp, fun p hp => by
        rcases List.mem_cons.mp hp with rfl | hp
        · exact l1
        · have : p = x := by simpa using hp
          rw [this]; exact lx⟩
    · exact ⟨by simp, fun p hp => by
        rcases List.mem_cons.mp hp with rfl | hp
        · exact l2
        · exact lw p hp⟩
    · exact ⟨by simp, fun p hp => by
        rcases List.mem_cons.mp hp with rfl | hp
        · exact l3
        · exact lf p hp⟩
    · unfold rsL at hm
      obtain ⟨t, ht, hm⟩ := List.mem_flatMap.mp hm
      obtain ⟨c, hc, rfl⟩ := List.mem_map.mp hm
      refine ⟨by simp, fun p hp => ?_⟩
      have : p = t ∨ p = sg c ∨ p = gf kvs t c := by simpa using hp
      rcases this with rfl | rfl | rfl
      · exact lw _ ht
      · exact ltr_sg lx hc
      · exact lg t ht c hc
  unfold rowsL textL
  rw [TL.split_join (s := 10) (S := []) rfl (by decide +kernel) (by rw [e]; simp [pss]) (fun p hp m => by
    rw [e] at hp
    obtain ⟨ps, hps, rfl⟩ := List.mem_map.mp hp
    exact line_no (all ps hps).2 m), e, List.map_map]
  have : pss.map ((fun y => Txt.split y sp) ∘ Txt.join sp) = pss.map id := by
    apply List.map_congr_left
    intro ps hps
    exact split_line (all ps hps).1 (all ps hps).2
  rw [this, List.map_id]
theorem fine_goals {x : Str} {ws fs : List Str} {kvs : List (List Key × V)} (h : Fine x ws fs kvs) : goalsOkL x ws (rsL x ws kvs) = true := by
  unfold goalsOkL
  rw [Bool.and_eq_true_iff]
  refine ⟨decide_eq_true ?_, List.all_eq_true.mpr fun r hr => ?_⟩
  · unfold rsL pairsL
    rw [List.map_flatMap]
    congr 1
    funext t
    rw [List.map_map]
    rfl
  · unfold rsL at hr
    obtain ⟨t, ht, hr⟩ := List.mem_flatMap.mp hr
    obtain ⟨c, hc, rfl⟩ := List.mem_map.mp hr
    obtain ⟨y, hy, e⟩ := h.gl t ht c hc
    unfold rowOkL
    rw [Bool.and_eq_true_iff]
    refine ⟨rfl, decide_eq_true ?_⟩
    show gf kvs t c ∈ ws
    rw [gf_is e]
    exact hy
/-- the text of a drawn rule is read as what it was drawn -/
theorem fine_parse {x : Str} {ws fs : List Str} {kvs : List (List Key × V)} (h : Fine x ws fs kvs) : parseL (textL x ws fs kvs) = some ⟨x, ws, fs, rsL x ws kvs⟩ := by
  unfold parseL
  rw [fine_rows h, parts_is, if_pos]
  · rfl
  · refine ⟨h.sgs, h.mds, ?_, fine_goals h⟩
    unfold areGoodL
    exact decide_eq_true (sub_filter (moods_nd h.mds) h.sub).symm
theorem dOf_const {α κ : Type} [DecidableEq κ] {key : α → κ} {val : α → V} {k : κ} {v : V} : ∀ (xs : List α), (∀ a ∈ xs, key a = k → val a = v) → (∃ a ∈ xs, key a = k) → valV (dOf key val xs) k = some v := by
  suffices h : ∀ (n : Nat) (xs : List α), xs.length = n → (∀ a ∈ xs, key a = k → val a = v) → (∃ a ∈ xs, key a = k) → valV (dOf key val xs) k = some v from fun xs => h _ xs rfl
  intro n
  induction n with
  | zero =>
    intro xs h _ ⟨a, ha, _⟩
    have : xs = [] := List.eq_nil_of_length_eq_zero h
    subst this
    cases ha
  | succ n ih =>
    intro xs h h1 h2
    have hne : xs ≠ [] := by intro z; subst z; cases h
    obtain ⟨ys, a, rfl⟩ : ∃ ys a, xs = ys ++ [a] := ⟨xs.dropLast, xs.getLast hne, (List.dropLast_concat_getLast hne).symm⟩
    have hl : ys.length = n := by rw [List.length_append] at h; simpa using h
    rw [dOf_snoc, valV_put]
    by_cases e : k = key a
    · rw [if_pos e, h1 a (by simp) e.symm]
    · rw [if_neg e]
      refine ih ys hl (fun b hb => h1 b (by simp [hb])) ?_
      obtain ⟨b, hb, eb⟩ := h2
      rcases List.mem_append.mp hb with m | m
      · exact ⟨b, m, eb⟩
      · have : b = a := by simpa using m
        exact absurd (this ▸ eb.symm) e
/-- the goals that are read are those that were drawn -/
theorem fine_val {x : Str} {ws fs : List Str} {kvs : List (List Key × V)} (h : Fine x ws fs kvs) {t : Str} (ht : t ∈ ws) {c : Nat} (hc : c ∈ x.cps.toList) : valV (goalsD (rsL x ws kvs)) (kT t c) = some (.str (gf kvs t c)) := by
  unfold goalsD
  refine dOf_const _ (fun r hr e => ?_) ⟨[t, sg c, gf kvs t c], ?_, rfl⟩
  · unfold rsL at hr
    obtain ⟨t', ht', hr⟩ := List.mem_flatMap.mp hr
    obtain ⟨c', hc', rfl⟩ := List.mem_map.mp hr
    have e' : [(Sum.inr t' : Key), Sum.inr (sg c')] = [Sum.inr t, Sum.inr (sg c)] := e
    injection e' with e1 e2
    injection e2 with e2 _
    have e1' : t' = t := Sum.inr.inj e1
    have e2' : c' = c := sg_inj (Sum.inr.inj e2)
    subst e1' e2'
    rfl
  · unfold rsL
    exact List.mem_flatMap.mpr ⟨t, ht, List.mem_map.mpr ⟨c, hc, rfl⟩⟩
/-- a sketch is fine -/
theorem SkOk.fine {mm : Nat} {x : Str} {ws fs : List Str} {kvs : List (List Key × V)} (h : SkOk mm x ws fs kvs) (hm : mm ≤ 9) : Fine x ws fs kvs := by
  refine ⟨?_, ?_, h.sub, fun t ht c hc => ?_⟩
  · obtain ⟨xs, h1, h2⟩ := h.hx
    have : ∀ xs ∈ menuX, ∀ x ∈ xs, areSignsL [x] = true := by decide +kernel
    exact this xs h1 x h2
  · have l1 := h.l1
    have l2 := h.l2
    unfold areMoodsL
    rw [decide_eq_true (show 1 ≤ ws.length from l1), decide_eq_true (show ws.length ≤ 300 by omega), decide_eq_true h.nd]
    have all : ∀ y ∈ menuW, isWordL y = true := by decide +kernel
    have : ws.all isWordL = true := List.all_eq_true.mpr fun y hy => all y (h.mem y hy)
    rw [this]
    rfl
  · obtain ⟨y, hy, e⟩ := h.cv.2 (t, c) (by
      unfold doneL
      exact List.mem_flatMap.mpr ⟨t, ht, List.mem_map.mpr ⟨c, hc, rfl⟩⟩)
    exact ⟨y, hy, e⟩
theorem Fine.short {x : Str} {ws fs : List Str} {kvs : List (List Key × V)} (h : Fine x ws fs kvs) (hn : ws.length ≤ 20) : Short x ws fs kvs := by
  have w8 : ∀ y ∈ ws, y.length ≤ 8 := fun y hy => by
    have := moods_word h.mds y hy
    unfold isWordL at this
    simp only [Bool.and_eq_true] at this
    exact of_decide_eq_true this.1.2
  refine ⟨?_, hn, Nat.le_trans h.sub.length_le hn, w8, fun y hy => w8 y (h.sub.subset hy), fun t ht c hc => ?_⟩
  · have := h.sgs
    rw [areS1] at this
    simp only [Bool.and_eq_true] at this
    exact of_decide_eq_true this.1.1.2
  · obtain ⟨y, hy, e⟩ := h.gl t ht c hc
    exact ⟨y, w8 y hy, e⟩
theorem text_small {x : Str} {ws fs : List Str} {kvs : List (List Key × V)} (h : Short x ws fs kvs) : (textL x ws fs kvs).length ≤ 1000000 := by
  unfold textL
  rw [TL.join_eq]
  have hs := lines_short h
  have b := sum_le hs.2
  have e : (linesL x ws fs kvs).length * 200 ≤ 63 * 200 := Nat.mul_le_mul_right _ hs.1
  cases hl : linesL x ws fs kvs with
  | nil => exact Nat.zero_le _
  | cons a l =>
    rw [hl] at b e hs
    rw [len_join_cons]
    have : (nl : Str).length = 1 := rfl
    rw [this]
    have := hs.1
    rw [List.length_cons] at this
    omega
theorem low_only {y : Str} (h : madeL y abc = true) : ∀ c ∈ y.cps.toList, c < 256 := fun c hc => by
  unfold madeL at h
  rw [List.all_map, List.all_eq_true] at h
  have := h c hc
  have m : c ∈ abc.cps.toList := by simpa using this
  have all : ∀ d ∈ abc.cps.toList, d < 256 := by decide +kernel
  exact all c m
theorem text_low {x : Str} {ws fs : List Str} {kvs : List (List Key × V)} (h : Fine x ws fs kvs) : ∀ c ∈ (textL x ws fs kvs).cps.toList, c < 256 := by
  have wl : ∀ y ∈ ws, ∀ c ∈ y.cps.toList, c < 256 := fun y hy => low_only (Bool.and_eq_true_iff.mp (moods_word h.mds y hy)).2
  have xl : ∀ c ∈ x.cps.toList, c < 256 := by
    have := h.sgs
    rw [areS1] at this
    simp only [Bool.and_eq_true] at this
    exact low_only this.1.2
  intro c hc
  unfold textL at hc
  rw [TL.join_eq] at hc
  rcases join_from nl _ c hc with m | ⟨p, hp, m⟩
  · have : c = 10 := by simpa using m
    omega
  · unfold linesL at hp
    rcases List.mem_append.mp hp with hp | hp
    · unfold headL at hp
      simp only [List.mem_cons, List.not_mem_nil, or_false] at hp
      rcases hp with rfl | rfl | rfl
      · rw [cps_app, List.mem_append] at m
        rcases m with m | m
        · have : ∀ d ∈ ("signs " : Str).cps.toList, d < 256 := by decide +kernel
          exact this c m
        · exact xl c m
      · rw [TL.join_eq] at m
        rcases join_from sp _ c m with m | ⟨p, hp, m⟩
        · have : c = 32 := by simpa using m
          omega
        · rcases List.mem_cons.mp hp with rfl | hp
          · have : ∀ d ∈ ("moods" : Str).cps.toList, d < 256 := by decide +kernel
            exact this c m
          · exact wl p hp c m
      · rw [TL.join_eq] at m
        rcases join_from sp _ c m with m | ⟨p, hp, m⟩
        · have : c = 32 := by simpa using m
          omega
        · rcases List.mem_cons.mp hp with rfl | hp
          · have : ∀ d ∈ ("good" : Str).cps.toList, d < 256 := by decide +kernel
            exact this c m
          · exact wl p (h.sub.subset hp) c m
    · unfold bodyL at hp
      obtain ⟨t, ht, hp⟩ := List.mem_flatMap.mp hp
      obtain ⟨d, hd, rfl⟩ := List.mem_map.mp hp
      obtain ⟨y, hy, e⟩ := h.gl t ht d hd
      unfold lineL at m
      rw [gf_is e, cps_app, cps_app, cps_app, cps_app] at m
      simp only [List.mem_append] at m
      rcases m with (((m | m) | m) | m) | m
      · exact wl t ht c m
      · have : c = 32 := by simpa using m
        omega
      · have : c = d := by simpa using m
        rw [this]; exact xl d hd
      · have : c = 32 := by simpa using m
        omega
      · exact wl y hy c m
theorem text_ok {x : Str} {ws fs : List Str} {kvs : List (List Key × V)} (h : Fine x ws fs kvs) : PyData.strOk (textL x ws fs kvs) = true := ok_low (text_low h)
end My
namespace My
open PySem PySem.Spec PyProof.Rows L2 PySem.GX
theorem cut_to_app (d g : Str) : cutS (d ++ g) none (some (d.length : Int)) = d := by
  refine str_ext ?_
  unfold cutS
  rw [HT.sIx_nat, HT.sIx_none, len_app, Nat.min_eq_left (by omega), cps_app]
  have : d.length = d.cps.toList.length := by rw [Array.length_toList]; rfl
  simp [this]
theorem cut_from_app (d g : Str) : cutS (d ++ g) (some (d.length : Int)) none = g := by
  refine str_ext ?_
  unfold cutS
  rw [HT.sIx_nat, HT.sIx_none, len_app, Nat.min_eq_left (by omega), cps_app]
  have h1 : d.length = d.cps.toList.length := by rw [Array.length_toList]; rfl
  have h2 : g.length = g.cps.toList.length := by rw [Array.length_toList]; rfl
  rw [h1, h2, Nat.add_sub_cancel_left, List.drop_left, List.take_of_length_le (Nat.le_refl _)]
theorem cut_both {l d : Str} (h : cutS l none (some (d.length : Int)) = d) : l = d ++ cutS l (some (d.length : Int)) none := by
  refine str_ext ?_
  rw [cps_app]
  have hl : l.length = l.cps.toList.length := by rw [Array.length_toList]; rfl
  have e1 : d.cps.toList = l.cps.toList.take (min d.length l.length) := by
    conv => lhs; rw [← h]
    unfold cutS
    rw [HT.sIx_nat, HT.sIx_none]
    simp
  have e2 : (cutS l (some (d.length : Int)) none).cps.toList = l.cps.toList.drop (min d.length l.length) := by
    unfold cutS
    rw [HT.sIx_nat, HT.sIx_none]
    rw [List.take_of_length_le]
    rw [List.length_drop, ← hl]
    exact Nat.le_refl _
  rw [e1, e2, List.take_append_drop]
theorem split_cons {a y : Str} (h : (32 : Nat) ∉ a.cps.toList) : Txt.split (a ++ sp ++ y) sp = a :: Txt.split y sp := by
  have e : a ++ sp ++ y = Txt.join sp (a :: Txt.split y sp) := by
    rw [TL.join_eq]
    have hne := split_ne y 32
    match hs : Txt.split y sp with
    | [] => exact absurd hs hne
    | b :: r =>
      show _ = a ++ sp ++ Str.join sp (b :: r)
      rw [← hs, StrLaws.join_split]
  rw [e]
  refine TL.split_join (s := 32) (S := []) rfl (by decide +kernel) (by simp) fun p hp => ?_
  rcases List.mem_cons.mp hp with rfl | m
  · exact h
  · exact StrLaws.split_free y 32 p m
theorem split_one {a : Str} (h : (32 : Nat) ∉ a.cps.toList) : Txt.split a sp = [a] := by
  have e : a = Txt.join sp [a] := by rw [TL.join_eq]; rfl
  conv => lhs; rw [e]
  exact TL.split_join (s := 32) (S := []) rfl (by decide +kernel) (by simp) fun p hp => by rw [List.mem_singleton.mp hp]; exact h
theorem no32 {y : Str} (h : Ltr y) : (32 : Nat) ∉ y.cps.toList := fun m => by have := h 32 m; omega
theorem unsplit (l : Str) : Str.join sp (Txt.split l sp) = l := StrLaws.join_split l sp
/-- the law's own test of a word -/
theorem term_is (w : Str) : (decide (0 < w.length) && decide (w.length < 9) && decide ((w.cps.toList.filter fun c => decide (c ∈ abc.cps.toList)).length = w.length)) = isWordL w := by
  unfold isWordL
  have e : decide ((w.cps.toList.filter fun c => decide (c ∈ abc.cps.toList)).length = w.length) = madeL w abc := by
    unfold madeL
    rw [List.all_map, Bool.eq_iff_iff, decide_eq_true_eq]
    have hl : w.length = w.cps.toList.length := by rw [Array.length_toList]; rfl
    rw [hl, List.length_filter_eq_length_iff, List.all_eq_true]
    exact Iff.rfl
  rw [e]
  congr 1
  rw [Bool.eq_iff_iff]
  simp
  omega
def dueOf (q : Str × Nat) : Str := q.1 ++ sp ++ sg q.2 ++ sp
def prsL (x : Str) (ws : List Str) : List (Str × Nat) := ws.flatMap fun t => x.cps.toList.map fun c => (t, c)
theorem pairs_prs (x : Str) (ws : List Str) : pairsL x ws = (prsL x ws).map fun q => [q.1, sg q.2] := by
  unfold pairsL prsL
  rw [List.map_flatMap]
  congr 1
  funext t
  rw [List.map_map]
  rfl
def rowT (ws : List Str) (l d : Str) : Bool := decide (cutS l none (some (d.length : Int)) = d) && decide (cutS l (some (d.length : Int)) none ∈ ws)
theorem row_is3 {ws : List Str} (hw : ∀ y ∈ ws, Ltr y) {q : Str × Nat} (h1 : Ltr q.1) (h2 : Ltr (sg q.2)) (l : Str) : rowT ws l (dueOf q) = (decide ((Txt.split l sp).take 2 = [q.1, sg q.2]) && rowOkL ws (Txt.split l sp)) := by
  unfold rowT rowOkL
  rw [Bool.eq_iff_iff]
  simp only [Bool.and_eq_true, decide_eq_true_eq]
  constructor
  · rintro ⟨a, b⟩
    have e := cut_both a
    generalize cutS l (some ((dueOf q).length : Int)) none = g at b e
    have es : Txt.split l sp = [q.1, sg q.2, g] := by
      have : l = q.1 ++ sp ++ (sg q.2 ++ sp ++ g) := by
        rw [e]
        unfold dueOf
        rw [str_app_assoc (q.1 ++ sp), str_app_assoc (q.1 ++ sp), str_app_assoc (sg q.2)]
      rw [this, split_cons (no32 h1), split_cons (no32 h2), split_one (no32 (hw g b))]
    rw [es]
    exact ⟨rfl, rfl, b⟩
  · rintro ⟨a, b, c⟩
    match hs : Txt.split l sp, a, b, c with
    | [t, s, g], a, _, c =>
      have a' : [t, s] = [q.1, sg q.2] := a
      injection a' with a1 a'
      injection a' with a2 _
      subst a1 a2
      have e := unsplit l
      rw [hs] at e
      have el : l = dueOf q ++ g := by
        rw [← e]
        show q.1 ++ sp ++ (sg q.2 ++ sp ++ g) = _
        unfold dueOf
        rw [str_app_assoc (q.1 ++ sp), str_app_assoc (q.1 ++ sp), str_app_assoc (sg q.2)]
      rw [el, cut_to_app, cut_from_app]
      exact ⟨rfl, c⟩
def goT (ws : List Str) : List Str → List Str → Bool
  | [], [] => true
  | l :: ls, d :: ds => rowT ws l d && goT ws ls ds
  | _, _ => false
theorem goals_is {ws : List Str} (hw : ∀ y ∈ ws, Ltr y) : ∀ (qs : List (Str × Nat)) (ls : List Str), (∀ q ∈ qs, Ltr q.1 ∧ Ltr (sg q.2)) →
    goT ws ls (qs.map dueOf) = (decide ((ls.map fun l => Txt.split l sp).map (List.take 2) = qs.map fun q => [q.1, sg q.2]) && (ls.map fun l => Txt.split l sp).all (rowOkL ws))
  | [], [], _ => rfl
  | [], l :: ls, _ => by
    show false = _
    rw [decide_eq_false (by simp)]
    rfl
  | q :: qs, [], _ => by
    show false = _
    rw [decide_eq_false (by simp)]
    rfl
  | q :: qs, l :: ls, h => by
    have ih := goals_is hw qs ls fun q' hq => h q' (List.mem_cons_of_mem _ hq)
    obtain ⟨h1, h2⟩ := h q (List.mem_cons_self ..)
    show (rowT ws l (dueOf q) && goT ws ls (qs.map dueOf)) = _
    rw [ih, row_is3 hw h1 h2, List.map_cons, List.map_cons, List.map_cons, List.all_cons]
    rw [Bool.eq_iff_iff]
    simp only [Bool.and_eq_true, decide_eq_true_eq, List.cons.injEq]
    constructor
    · rintro ⟨⟨a, b⟩, c, d⟩
      exact ⟨⟨a, c⟩, b, d⟩
    · rintro ⟨⟨a, c⟩, b, d⟩
      exact ⟨⟨a, b⟩, c, d⟩
/-- the law's own reading of the lines -/
def fitsB : List Str → Bool
  | l0 :: l1 :: l2 :: rows =>
    decide (cutS l0 none (some (6 : Int)) = "signs ") && decide (cutS l1 none (some (6 : Int)) = "moods ") &&
    (isWordL (cutS l0 (some (6 : Int)) none) && decide ((cutS l0 (some (6 : Int)) none).length ≤ 3) && decide ((cutS l0 (some (6 : Int)) none).cps.toList.Pairwise (· < ·))) &&
    ((Txt.split l1 sp).tail.all isWordL && decide (Txt.split l1 sp).tail.Nodup && decide ((Txt.split l1 sp).tail.length ≤ 300)) &&
    (decide ((Txt.split l2 sp).headD Str.empty = "good") && decide ((Txt.split l2 sp).tail = (Txt.split l1 sp).tail.filter fun w => decide (w ∈ (Txt.split l2 sp).tail))) &&
    goT (Txt.split l1 sp).tail rows ((prsL (cutS l0 (some (6 : Int)) none) (Txt.split l1 sp).tail).map dueOf)
  | _ => false
theorem six_s : (("signs " : Str).length : Int) = 6 := by decide +kernel
theorem six_m : (("moods " : Str).length : Int) = 6 := by decide +kernel
theorem s_sp : ("signs " : Str) = ("signs" : Str) ++ sp := by decide +kernel
theorem m_sp : ("moods " : Str) = ("moods" : Str) ++ sp := by decide +kernel
theorem n_s : (32 : Nat) ∉ ("signs" : Str).cps.toList := by decide +kernel
theorem n_m : (32 : Nat) ∉ ("moods" : Str).cps.toList := by decide +kernel
theorem prs_ltr {x : Str} {ws : List Str} (hx : Ltr x) (hw : ∀ y ∈ ws, Ltr y) : ∀ q ∈ prsL x ws, Ltr q.1 ∧ Ltr (sg q.2) := fun q hq => by
  unfold prsL at hq
  obtain ⟨t, ht, hq⟩ := List.mem_flatMap.mp hq
  obtain ⟨c, hc, rfl⟩ := List.mem_map.mp hq
  exact ⟨hw t ht, ltr_sg hx hc⟩
theorem good_fun (fs ws : List Str) : areGoodL fs ws = decide (fs = ws.filter fun w => decide (w ∈ fs)) := rfl
theorem goals_fun {x : Str} {ws : List Str} (hx : Ltr x) (hw : ∀ y ∈ ws, Ltr y) (ls : List Str) : goT ws ls ((prsL x ws).map dueOf) = goalsOkL x ws (ls.map fun l => Txt.split l sp) := by
  rw [goals_is hw _ _ (prs_ltr hx hw)]
  unfold goalsOkL
  rw [pairs_prs]
theorem signs_fun (x : Str) : areSignsL [x] = true ↔ isWordL x = true ∧ x.length ≤ 3 ∧ x.cps.toList.Pairwise (· < ·) := by
  rw [areS1]
  unfold isWordL
  simp only [Bool.and_eq_true, decide_eq_true_eq]
  constructor
  · rintro ⟨⟨⟨a, b⟩, c⟩, d⟩
    exact ⟨⟨⟨a, by omega⟩, c⟩, b, d⟩
  · rintro ⟨⟨⟨a, _⟩, c⟩, b, d⟩
    exact ⟨⟨⟨a, b⟩, c⟩, d⟩
theorem moods_fun (ws : List Str) : areMoodsL ws = true ↔ 1 ≤ ws.length ∧ ws.length ≤ 300 ∧ (∀ y ∈ ws, isWordL y = true) ∧ ws.Nodup := by
  unfold areMoodsL
  simp only [Bool.and_eq_true, decide_eq_true_eq, List.all_eq_true]
  constructor
  · rintro ⟨⟨⟨a, b⟩, c⟩, d⟩
    exact ⟨a, b, c, d⟩
  · rintro ⟨a, b, c, d⟩
    exact ⟨⟨⟨a, b⟩, c⟩, d⟩
/-- both readers agree -/
theorem fits_is (ls : List Str) : fitsB ls = (partsL (ls.map fun l => Txt.split l sp)).isSome := by
  match ls with
  | [] => rfl
  | [_] =>
    show false = _
    rw [List.map_cons, List.map_nil]
    unfold partsL
    split
    · rename_i h
      simp at h
    · rfl
  | [_, _] =>
    show false = _
    rw [List.map_cons, List.map_cons, List.map_nil]
    unfold partsL
    split
    · rename_i h
      simp at h
    · rfl
  | l0 :: l1 :: l2 :: rows =>
    rw [Bool.eq_iff_iff]
    obtain ⟨g0, gs, e2⟩ := List.exists_cons_of_ne_nil (split_ne l2 32)
    constructor
    · intro h
      unfold fitsB at h
      simp only [Bool.and_eq_true, decide_eq_true_eq] at h
      obtain ⟨⟨⟨⟨⟨a0, a1⟩, ⟨x1, x2⟩, x3⟩, ⟨w1, w2⟩, w3⟩, f1, f2⟩, g⟩ := h
      have b0 : l0 = "signs " ++ cutS l0 (some (6 : Int)) none := by
        have := cut_both (l := l0) (d := "signs ") (by rw [six_s]; exact a0)
        rw [six_s] at this
        exact this
      have b1 : l1 = "moods " ++ cutS l1 (some (6 : Int)) none := by
        have := cut_both (l := l1) (d := "moods ") (by rw [six_m]; exact a1)
        rw [six_m] at this
        exact this
      generalize cutS l0 (some (6 : Int)) none = x at x1 x2 x3 b0 g
      generalize cutS l1 (some (6 : Int)) none = y at b1
      have lx := ltr_word x1
      have s0 : Txt.split l0 sp = [("signs" : Str), x] := by rw [b0, s_sp, split_cons n_s, split_one (no32 lx)]
      have s1 : Txt.split l1 sp = ("moods" : Str) :: Txt.split y sp := by rw [b1, m_sp, split_cons n_m]
      rw [s1] at w1 w2 w3 f2 g
      simp only [List.tail_cons] at w1 w2 w3 f2 g
      rw [e2] at f1 f2
      simp only [List.headD_cons, List.tail_cons] at f1 f2
      subst f1
      have wl : ∀ y' ∈ Txt.split y sp, Ltr y' := fun y' hy => ltr_word (List.all_eq_true.mp w1 y' hy)
      rw [goals_fun lx wl] at g
      have len1 : 1 ≤ (Txt.split y sp).length := by
        obtain ⟨a, r, e⟩ := List.exists_cons_of_ne_nil (split_ne y 32)
        have e' : Txt.split y sp = a :: r := e
        rw [e', List.length_cons]
        omega
      rw [List.map_cons, List.map_cons, List.map_cons, s0, s1, e2, parts_is]
      rw [if_pos ⟨(signs_fun x).mpr ⟨x1, x2, x3⟩, (moods_fun _).mpr ⟨len1, w3, List.all_eq_true.mp w1, w2⟩, by rw [good_fun]; exact decide_eq_true f2, g⟩]
      rfl
    · intro h
      have hne : ∀ r ∈ (l0 :: l1 :: l2 :: rows).map (fun l => Txt.split l sp), r ≠ [] := fun r hr => by
        obtain ⟨y, _, rfl⟩ := List.mem_map.mp hr
        exact split_ne y 32
      by_cases ht : (((l0 :: l1 :: l2 :: rows).map fun l => Txt.split l sp).take 3).map (fun r => r.headD Str.empty) = titles
      · obtain ⟨s0, m0, g0', rest, e⟩ := heads_is hne ht
        rw [e, parts_is] at h
        rw [List.map_cons, List.map_cons, List.map_cons] at e
        injection e with e0 e
        injection e with e1 e
        injection e with e2' e3
        split at h
        · rename_i hc
          obtain ⟨c1, c2, c3, c4⟩ := hc
          obtain ⟨x, rfl, lx3⟩ := signs_one c1
          obtain ⟨x1, x2, x3⟩ := (signs_fun x).mp c1
          obtain ⟨m1, m2, m3, m4⟩ := (moods_fun m0).mp c2
          have b0 : l0 = "signs " ++ x := by
            have := unsplit l0
            rw [e0] at this
            rw [← this, s_sp]
            rfl
          have b1 : ∃ y, l1 = "moods " ++ y := by
            have := unsplit l1
            rw [e1] at this
            match m0, m1 with
            | a :: r, _ =>
              refine ⟨Str.join sp (a :: r), ?_⟩
              rw [← this, m_sp]
              rfl
          obtain ⟨y, b1⟩ := b1
          have lx := ltr_word x1
          have wl : ∀ y' ∈ m0, Ltr y' := fun y' hy => ltr_word (m3 y' hy)
          have t0 : cutS l0 none (some (6 : Int)) = "signs " := by rw [b0, ← six_s]; exact cut_to_app _ _
          have t0' : cutS l0 (some (6 : Int)) none = x := by rw [b0, ← six_s]; exact cut_from_app _ _
          have t1 : cutS l1 none (some (6 : Int)) = "moods " := by rw [b1, ← six_m]; exact cut_to_app _ _
          show (decide (cutS l0 none (some (6 : Int)) = "signs ") && decide (cutS l1 none (some (6 : Int)) = "moods ") &&
            (isWordL (cutS l0 (some (6 : Int)) none) && decide ((cutS l0 (some (6 : Int)) none).length ≤ 3) && decide ((cutS l0 (some (6 : Int)) none).cps.toList.Pairwise (· < ·))) &&
            ((Txt.split l1 sp).tail.all isWordL && decide (Txt.split l1 sp).tail.Nodup && decide ((Txt.split l1 sp).tail.length ≤ 300)) &&
            (decide ((Txt.split l2 sp).headD Str.empty = "good") && decide ((Txt.split l2 sp).tail = (Txt.split l1 sp).tail.filter fun w => decide (w ∈ (Txt.split l2 sp).tail))) &&
            goT (Txt.split l1 sp).tail rows ((prsL (cutS l0 (some (6 : Int)) none) (Txt.split l1 sp).tail).map dueOf)) = true
          rw [t0, t0', t1, e1, e2', List.tail_cons, List.tail_cons, List.headD_cons, goals_fun lx wl, e3]
          have c4' : goalsOkL x m0 rest = true := c4
          rw [c4', x1, decide_eq_true x2, decide_eq_true x3, List.all_eq_true.mpr m3, decide_eq_true m4, decide_eq_true m2]
          rw [good_fun] at c3
          rw [c3]
          rfl
        · cases h
      · rw [parts_none ht] at h
        cases h
end My
namespace My
open PySem PySem.Spec PyProof.Rows L2
/-- what the law takes for any values, as data -/
def menu : List PyData := [.none, .bool true, .bool false, .int 0, .int 1, .int (-1), .int 1001, .int (10 ^ 30), .str "", .str "a", .str "last", .str "ends", .str "sets", .str "windows", .str "maa", .str "A", .str "ab>",
  .str "two words", .tuple [], .tuple [.none], .tuple [.str "a"], .list [.str "a"], .list [], .dict [], .dict [(.str "a", .int 1)], .tuple [.str "", .str "a", .str "b", .str ""], .tuple [.tuple []], .tuple [.list []], .str "Last"]
/-- the values of the menu, by where its objects stand -/
def menuV (t0 t1 t2 l2 l3 d0 d1 t3 t5 t6 : Addr) : List V := [.non, .bl true, .bl false, .int 0, .int 1, .int (-1), .int 1001, .int (10 ^ 30), .str "", .str "a", .str "last", .str "ends", .str "sets", .str "windows", .str "maa", .str "A", .str "ab>",
  .str "two words", .ref t0, .ref t1, .ref t2, .ref l2, .ref l3, .ref d0, .ref d1, .ref t3, .ref t5, .ref t6, .str "Last"]
def spOdd (K : PySem.W.Frag) : Sp := fun vs H Q _ => ∃ p : Addr, vs = [.ref p] ∧ Wl H p ∧
  ∀ (v : V) (d : PyData) (H' : Hp), d ∈ menu → Sh K (del H' p) v d → Wl H' p → Same (del H p) (del H' p) → Q v H'
theorem ShAll.get {K : PySem.W.Frag} {H : Hp} : ∀ {xs : List V} {ds : List PyData} {i : Nat} {v : V}, ShAll K H xs ds → xs[i]? = some v → ∃ d, d ∈ ds ∧ Sh K H v d
  | _, _, _, _, .nil, e => by simp at e
  | _, _, 0, _, .cons r _, e => by simp at e; subst e; exact ⟨_, List.mem_cons_self .., r⟩
  | _, _, i + 1, v, .cons _ t, e => by
    obtain ⟨d, h1, h2⟩ := ShAll.get (i := i) (v := v) t (by simpa using e)
    exact ⟨d, List.mem_cons_of_mem _ h1, h2⟩
theorem delk {H : Hp} {p t : Addr} {o u : HO} (e : H t = some u) (h : t ≠ p) : del (upd H p o) p t = some u := by
  rw [del_ne h, upd_ne h]
  exact e
theorem same_del_upd {H : Hp} {p : Addr} {o : HO} : Same (del H p) (del (upd H p o) p) := fun b u e => by
  by_cases hb : b = p
  · rw [hb, del_same] at e; cases e
  · rw [del_ne hb] at e ⊢
    rw [upd_ne hb]; exact e
theorem odd_end {K : PySem.W.Frag} {H Hn : Hp} {Q : VK} {p l6 t0 t1 t2 l2 l3 d0 d1 t3 t4 t5 l4 t6 : Addr} (hs : Same H Hn) (hW : Wl Hn p) (e6 : Hn l6 = some (.lst (menuV t0 t1 t2 l2 l3 d0 d1 t3 t5 t6)))
    (g2 : Hn t0 = some (.tup []))
    (g3 : Hn t1 = some (.tup [.non]))
    (g4 : Hn t2 = some (.tup [.str "a"]))
    (g5 : Hn l2 = some (.lst [.str "a"]))
    (g6 : Hn l3 = some (.lst []))
    (g7 : Hn d0 = some (.dK []))
    (g8 : Hn d1 = some (.dK [(Sum.inr "a", .int 1)]))
    (g9 : Hn t3 = some (.tup [.str "", .str "a", .str "b", .str ""]))
    (g10 : Hn t4 = some (.tup []))
    (g11 : Hn t5 = some (.tup [.ref t4]))
    (g12 : Hn l4 = some (.lst []))
    (g13 : Hn t6 = some (.tup [.ref l4]))
    (k : ∀ (v : V) (d : PyData) (H' : Hp), d ∈ menu → Sh K (del H' p) v d → Wl H' p → Same (del H p) (del H' p) → Q v H') (d : Int) (o : HO) (b0 : 0 ≤ d) (b1 : d < 29) (hW' : Wl (upd Hn p o) p) :
    rIxL K (.ref l6) (.int d) (upd Hn p o) Q := by
  obtain ⟨w0, w1, w2, a0, a1, ep⟩ := hW
  have ne6 : l6 ≠ p := ne_of e6 ep (by intro z; cases z)
  obtain ⟨j, rfl⟩ := Int.eq_ofNat_of_zero_le b0
  have hj : j < 29 := by omega
  have ei : (menuV t0 t1 t2 l2 l3 d0 d1 t3 t5 t6)[j]? = some ((menuV t0 t1 t2 l2 l3 d0 d1 t3 t5 t6)[j]'hj) := List.getElem?_eq_getElem hj
  refine ⟨l6, menuV t0 t1 t2 l2 l3 d0 d1 t3 t5 t6, _, _, rfl, rfl, SqL.of (by rw [upd_ne ne6]; exact e6), atI_nat ei, ?_⟩
  have f2 := delk (p := p) (o := o) g2 (ne_of g2 ep (by intro z; cases z))
  have f3 := delk (p := p) (o := o) g3 (ne_of g3 ep (by intro z; cases z))
  have f4 := delk (p := p) (o := o) g4 (ne_of g4 ep (by intro z; cases z))
  have f5 := delk (p := p) (o := o) g5 (ne_of g5 ep (by intro z; cases z))
  have f6 := delk (p := p) (o := o) g6 (ne_of g6 ep (by intro z; cases z))
  have f7 := delk (p := p) (o := o) g7 (ne_of g7 ep (by intro z; cases z))
  have f8 := delk (p := p) (o := o) g8 (ne_of g8 ep (by intro z; cases z))
  have f9 := delk (p := p) (o := o) g9 (ne_of g9 ep (by intro z; cases z))
  have f10 := delk (p := p) (o := o) g10 (ne_of g10 ep (by intro z; cases z))
  have f11 := delk (p := p) (o := o) g11 (ne_of g11 ep (by intro z; cases z))
  have f12 := delk (p := p) (o := o) g12 (ne_of g12 ep (by intro z; cases z))
  have f13 := delk (p := p) (o := o) g13 (ne_of g13 ep (by intro z; cases z))
  have all : ShAll K (del (upd Hn p o) p) (menuV t0 t1 t2 l2 l3 d0 d1 t3 t5 t6) menu := by
    refine .cons (.fl .non) (.cons (.fl (.bl true)) (.cons (.fl (.bl false)) (.cons (.fl (.int 0)) (.cons (.fl (.int 1)) (.cons (.fl (.int (-1))) (.cons (.fl (.int 1001)) (.cons (.fl (.int (10 ^ 30)))
      (.cons (.fl (.str _)) (.cons (.fl (.str _)) (.cons (.fl (.str _)) (.cons (.fl (.str _)) (.cons (.fl (.str _)) (.cons (.fl (.str _)) (.cons (.fl (.str _)) (.cons (.fl (.str _)) (.cons (.fl (.str _)) (.cons (.fl (.str _)) ?_)))))))))))))))))
    exact .cons (.tup (SqT.of f2) .nil) (.cons (.tup (SqT.of f3) (.cons (.fl .non) .nil)) (.cons (.tup (SqT.of f4) (.cons (.fl (.str _)) .nil)) (.cons (.lst (SqL.of f5) (.cons (.fl (.str _)) .nil)) (.cons (.lst (SqL.of f6) .nil)
      (.cons (.dic f7 .nil .nil) (.cons (.dic f8 (.cons (.str _) .nil) (.cons (.int _) .nil)) (.cons (.tup (SqT.of f9) (.cons (.fl (.str _)) (.cons (.fl (.str _)) (.cons (.fl (.str _)) (.cons (.fl (.str _)) .nil)))))
      (.cons (.tup (SqT.of f11) (.cons (.tup (SqT.of f10) .nil) .nil)) (.cons (.tup (SqT.of f13) (.cons (.lst (SqL.of f12) .nil) .nil)) (.cons (.fl (.str _)) .nil))))))))))
  obtain ⟨dd, m1, m2⟩ := ShAll.get all ei
  exact k _ dd _ m1 m2 hW' (Same.trans (same_del hs) same_del_upd)
section
variable {P : Program} {w : World} {K : PySem.W.Frag} {mg : Str → Option Value} {base : Heap}
theorem scO : FnScope ["_law_well_here", "_law_some"] ["_law_well_here"] (defScope sOdd) :=
  ⟨rfl, rfl, rfl, by decide +kernel, rfl, by decide +kernel, by decide +kernel⟩
theorem ok_odd {f fD : Addr} {fd fdD : FuncData} (F : Fun K "_law_odd" "_law_odd" sOdd f fd) (GD : FnOk P w K mg base CX0 1 fD fdD ["_law_well_here", "_law_size"] spDip) (bD : Binds K fdD ["_law_well_here", "_law_size"] [])
    (gD : mg "_law_dip" = some (.ref fD)) (kD : PySem.W.keepIn K (.ref fD) = true) (hL : mg "len" = none) : FnOk P w K mg base CX0 2 f fd ["_law_well_here"] (spOdd K) := by
  refine F.ok scO (fun vs H Q E h => ?_) (fun cdv A outer s H vs Q E hr h => ?_)
  · obtain ⟨p, rfl, _⟩ := h
    rfl
  · obtain ⟨p, rfl, hW, k⟩ := h
    refine ⟨_, pss_cons (ps_set (i := 1) scO.nd rfl (Or.inl rfl) (pe_lst (pa_cons pe_non (pa_cons pe_bl (pa_cons pe_bl (pa_cons pe_int (pa_cons pe_int (pa_cons (pe_un un_neg pe_int) (pa_cons pe_int (pa_cons (pe_op op_pow pe_int pe_int)
        (pa_cons pe_str (pa_cons pe_str (pa_cons pe_str (pa_cons pe_str (pa_cons pe_str (pa_cons pe_str (pa_cons pe_str (pa_cons pe_str (pa_cons pe_str pa_nil)))))))))))))))))))
      (pss_cons (ps_set (i := 1) scO.nd rfl (Or.inl rfl) (pe_op op_cat (pv 1) (pe_lst (pa_cons pe_str (pa_cons (pe_tup pa_nil) (pa_cons (pe_tup (pa_cons pe_non pa_nil)) (pa_cons (pe_tup (pa_cons pe_str pa_nil)) (pa_cons (pe_lst (pa_cons pe_str pa_nil))
        (pa_cons (pe_lst pa_nil) (pa_cons pe_dnewK (pa_cons (pe_disp (pps_cons pe_str pe_int pps_nil) (by rfl) (by rfl) (fun z => by cases z) (by decide)) (pa_cons (pe_tup (pa_cons pe_str (pa_cons pe_str (pa_cons pe_str (pa_cons pe_str pa_nil)))))
        (pa_cons (pe_tup (pa_cons (pe_tup pa_nil) pa_nil)) (pa_cons (pe_tup (pa_cons (pe_lst pa_nil) pa_nil)) (pa_cons pe_str pa_nil)))))))))))))))
      (pss_one (ps_ret (pe_ix ix_list (pv 1) (pe_call GD hr rfl gD kD bD .nil pass0 (pa_cons (pv 0) (pa_cons (pe_callB call_len_seq (by rfl) hL PySem.boot_len (pa_cons (pv 1) pa_nil)) pa_nil))) (fun _ _ => rfl))))), ?_⟩
    refine ⟨1, rfl, _, _, rfl, rfl, ⟨by decide, by decide, by decide⟩, (by show 17 ≤ sizeLine; decide), fun l1 h1 => ?_⟩
    refine ⟨_, rfl, (by show 0 ≤ sizeLine; decide), fun t0 h2 => ?_⟩
    refine ⟨(by show 1 ≤ sizeLine; decide), fun t1 h3 => ?_⟩
    refine ⟨(by show 1 ≤ sizeLine; decide), fun t2 h4 => ?_⟩
    refine ⟨(by show 1 ≤ sizeLine; decide), fun l2 h5 => ?_⟩
    refine ⟨(by show 0 ≤ sizeLine; decide), fun l3 h6 => ?_⟩
    refine fun d0 h7 => ?_
    refine fun d1 h8 => ?_
    refine ⟨upd_same, [(Sum.inr "a", .int 1)], rfl, by decide, ?_⟩
    rw [upd_upd]
    refine ⟨(by show 4 ≤ sizeLine; decide), fun t3 h9 => ?_⟩
    refine ⟨(by show 0 ≤ sizeLine; decide), fun t4 h10 => ?_⟩
    refine ⟨(by show 1 ≤ sizeLine; decide), fun t5 h11 => ?_⟩
    refine ⟨(by show 0 ≤ sizeLine; decide), fun l4 h12 => ?_⟩
    refine ⟨(by show 1 ≤ sizeLine; decide), fun t6 h13 => ?_⟩
    refine ⟨(by show 12 ≤ sizeLine; decide), fun l5 h14 => ?_⟩
    refine ⟨l1, l5, _, _, rfl, rfl, (keep1 (keep1 (keep1 (keep1 (keep1 (keep1 (keep1 (keep1 (keep1 (keep1 (keep1 (keep1 (keep1 upd_same h2) h3) h4) h5) h6) h7) h8) h9) h10) h11) h12) h13) h14), upd_same, (by show 29 ≤ sizeLine; decide), fun l6 h15 => ?_⟩
    obtain ⟨w0, w1, w2, a0, a1, hp⟩ := hW
    refine ⟨_, rfl, _, rfl, _, rfl, l6, _, rfl, .inl (SqL.of upd_same), p, _, rfl, ⟨w0, w1, w2, a0, a1, (keep1 (keep1 (keep1 (keep1 (keep1 (keep1 (keep1 (keep1 (keep1 (keep1 (keep1 (keep1 (keep1 (keep1 (keep1 hp h1) h2) h3) h4) h5) h6) h7) h8) h9) h10) h11) h12) h13) h14) h15)⟩, (by show (0 : Int) < 29; decide), (by show (29 : Int) < 1073741824; decide), ?_⟩
    exact odd_end (((((((((((((((same_new h1).trans (same_new h2)).trans (same_new h3)).trans (same_new h4)).trans (same_new h5)).trans (same_new h6)).trans (same_new h7)).trans (same_new h8)).trans (same_new h9)).trans (same_new h10)).trans (same_new h11)).trans (same_new h12)).trans (same_new h13)).trans (same_new h14)).trans (same_new h15)) ⟨w0, w1, w2, a0, a1, (keep1 (keep1 (keep1 (keep1 (keep1 (keep1 (keep1 (keep1 (keep1 (keep1 (keep1 (keep1 (keep1 (keep1 (keep1 hp h1) h2) h3) h4) h5) h6) h7) h8) h9) h10) h11) h12) h13) h14) h15)⟩ upd_same
      (keep1 (keep1 (keep1 (keep1 (keep1 (keep1 (keep1 (keep1 (keep1 (keep1 (keep1 (keep1 (keep1 upd_same h3) h4) h5) h6) h7) h8) h9) h10) h11) h12) h13) h14) h15)
      (keep1 (keep1 (keep1 (keep1 (keep1 (keep1 (keep1 (keep1 (keep1 (keep1 (keep1 (keep1 upd_same h4) h5) h6) h7) h8) h9) h10) h11) h12) h13) h14) h15)
      (keep1 (keep1 (keep1 (keep1 (keep1 (keep1 (keep1 (keep1 (keep1 (keep1 (keep1 upd_same h5) h6) h7) h8) h9) h10) h11) h12) h13) h14) h15)
      (keep1 (keep1 (keep1 (keep1 (keep1 (keep1 (keep1 (keep1 (keep1 (keep1 upd_same h6) h7) h8) h9) h10) h11) h12) h13) h14) h15)
      (keep1 (keep1 (keep1 (keep1 (keep1 (keep1 (keep1 (keep1 (keep1 upd_same h7) h8) h9) h10) h11) h12) h13) h14) h15)
      (keep1 (keep1 (keep1 (keep1 (keep1 (keep1 (keep1 (keep1 upd_same h8) h9) h10) h11) h12) h13) h14) h15)
      (keep1 (keep1 (keep1 (keep1 (keep1 (keep1 (keep1 upd_same h9) h10) h11) h12) h13) h14) h15)
      (keep1 (keep1 (keep1 (keep1 (keep1 (keep1 upd_same h10) h11) h12) h13) h14) h15)
      (keep1 (keep1 (keep1 (keep1 (keep1 upd_same h11) h12) h13) h14) h15)
      (keep1 (keep1 (keep1 (keep1 upd_same h12) h13) h14) h15)
      (keep1 (keep1 (keep1 upd_same h13) h14) h15)
      (keep1 (keep1 upd_same h14) h15) k
end
end My
namespace L2
open PySem PySem.Spec PyProof.Rows PySem.GX HotX
/-! lists walked and unpacked while an exception is handled -/
section
variable {prog : Program} {w : World} {A : Around} {Er : Value → Shared → Prop} {s : Shared}
theorem hot_ne {x it l : Addr} {i : Nat} {h : Heap} (hot : HotAt A x h) (hit : h.IsListIter it l i) : x ≠ it := fun z => by
  obtain ⟨_, o, vs, e, d, c⟩ := hot
  obtain ⟨o', e', _, d'⟩ := hit
  rw [z, e'] at e
  cases e
  rw [d'] at d
  cases d
  simp at c
theorem next_end_hot {it l x : Addr} {i : Nat} {items : Array Value} {Q : Option Value → Shared → Prop} (hot : HotAt A x s.heap) (hit : s.heap.IsListIter it l i) (hl : s.heap.IsList l items) (none_ : items[i]? = none)
    (k : ∀ h', Heap.ExtBut it s.heap h' → Q none { s with heap := h' }) : wpAny (model prog w) A (pyNext (.ref it)) Q Er s := by
  have ne := hot_ne hot hit
  obtain ⟨oi, ei, ci, di⟩ := id hit
  obtain ⟨ol, el, _, nl, dl⟩ := hl
  obtain ⟨hh, o1, vs1, h1, d1, c1⟩ := hot
  unfold pyNext
  refine wpAny_bind (wpAny_attempt (wpAny_callSpecial?_slot (name := Str.ofString "__next__") hit.typeIs slot_listiter_next (wpAny_call_entry slot_listiter_next hit.typeIs entry_listiter_next ?_ (args_listiter_next _))))
  show wpAny _ _ (field (.ref it) 0 >>= _) _ _ s
  refine wpAny_bind (wpAny_field ei di (x := .ref l) rfl ?_)
  show wpAny _ _ (if (Value.ref l == Value.none) = true then _ else _) _ _ s
  rw [if_neg (show ¬ ((Value.ref l == Value.none) = true) from Bool.false_ne_true)]
  show wpAny _ _ (field (.ref it) 1 >>= _) _ _ s
  refine wpAny_bind (wpAny_field ei di (x := .int i 0) rfl ?_)
  show wpAny _ _ (seqItems? (.ref l) >>= _) _ _ s
  refine wpAny_bind (wpAny_seqItems el dl ?_)
  simp only [Int.toNat_natCast, none_]
  refine wpAny_bind (wpAny_rule (wpAny_bind (wpAny_setField ei di (by simp) ?_)))
  show wpAny _ _ (newExc (.type "StopIteration") [] >>= _) _ _ _
  refine wpAny_bind ?_
  simp only [newExc, newTuple]
  refine wpAny_bind (wpAny_newObj_type ?_ (by size_fits))
  refine wpAny_bind (m := firstArgMember _ _) (wpAny_of_eq (a := Value.none) (by first | rfl | (simp only [firstArgMember]; rfl)) ?_)
  refine wpAny_newObj_type ?_ (by size_fits)
  have g1 := Heap.get?_push_of_some { cls := .type "tuple", data := .seq ([] : List Value).toArray } ((Heap.get?_update_other s.heap (Obj.mapFields (·.setIfInBounds 0 Value.none)) ne.symm).trans h1)
  refine raiseNew_hot ⟨hh, o1, vs1, Heap.get?_push_of_some _ g1, d1, c1⟩ (Nat.ne_of_lt (Heap.lt_size g1)) (Heap.get?_push_size _ rfl) rfl (by first | (simp; done) | (simp; omega) | (simp only [Array.size_append]; simp; omega)) ?_
  refine wpAny_bind (wpAny_isInstance (T := "StopIteration") (b := true) ⟨_, Heap.get?_update_self _ (Heap.get?_push_size _ rfl) rfl, rfl⟩ isSubtype_stop ?_)
  refine wpAny_pure (k _ fun b o nb e => ?_)
  have g2 := Heap.get?_push_of_some { cls := .type "tuple", data := .seq ([] : List Value).toArray } ((Heap.get?_update_other s.heap (Obj.mapFields (·.setIfInBounds 0 Value.none)) nb.symm).trans e)
  rw [Heap.get?_update_other _ _ (Nat.ne_of_gt (Heap.lt_size g2))]
  exact Heap.get?_push_of_some _ g2
end
end L2
namespace L2
open PySem PySem.Spec PyProof.Rows PySem.GX HotX
/-- the context X handles the exception p, which stands as it is -/
structure Hb (X : Cx) (p : Addr × Obj) : Prop where
  hh : X.A.handled = some (.ref p.1)
  ctx : ∃ vs : Array Value, p.2.data = .fields vs ∧ vs[2]? = some .none
  at_ : ∀ (pins : List (Addr × Obj)) (σ : St) (H : Hp) (s : Shared), Inv X pins σ H s → s.heap.get? p.1 = some p.2 ∧ H p.1 = none
section
variable {X : Cx} {p : Addr × Obj}
theorem Hb.hot (h : Hb X p) {pins : List (Addr × Obj)} {σ : St} {H : Hp} {s : Shared} (I : Inv X pins σ H s) : HotAt X.A p.1 s.heap := by
  obtain ⟨vs, d, c⟩ := h.ctx
  exact ⟨h.hh, p.2, vs, (h.at_ _ _ _ _ I).1, d, c⟩
theorem Hb.of_pn (h1 : X.A.handled = some (.ref p.1)) (h2 : ∃ vs : Array Value, p.2.data = .fields vs ∧ vs[2]? = some .none) (hp : p ∈ X.pn) : Hb X p :=
  ⟨h1, h2, fun pins σ H s I => let z := I.pin p (List.mem_append_left _ hp); ⟨z.1, z.2.1⟩⟩
end
section
variable {prog : Program} {w : World} {A : Around} {Er : Value → Shared → Prop} {s : Shared}
theorem items_hot {x l : Addr} {items : Array Value} {Q : List Value → Shared → Prop} (hot : HotAt A x s.heap) (hl : s.heap.IsList l items) (k : ∀ h', Heap.ExtBut s.heap.objs.size s.heap h' → Q items.toList { s with heap := h' }) :
    wpAny (model prog w) A (unpackItems (.ref l) items.size none) Q Er s := by
  have nl : l ≠ s.heap.objs.size := by
    obtain ⟨o, e, _⟩ := hl
    exact Nat.ne_of_lt (Heap.lt_size e)
  obtain ⟨hh, o1, vs1, h1, d1, c1⟩ := hot
  unfold unpackItems
  refine wpAny_bind ?_
  unfold notIterableAtAll
  refine wpAny_bind (wpAny_specialOf hl.typeIs slot_list_iter.lookup (wpAny_pure ?_))
  simp only [Bool.false_eq_true, if_false]
  refine wpAny_bind (wpAny_holding (wpAny_pyIter_list hl (wpAny_bind (wpAny_holding (PySem.W.kun_draw nl items.size 0 _ _ ⟨_, Heap.get?_push_size _ rfl, rfl, rfl⟩ (hl.push _) (by omega) fun ha ita sa => ?_)))))
  rw [show List.take items.size (List.drop 0 items.toList) = items.toList by rw [List.drop_zero]; exact List.take_of_length_le (by simp), if_neg (by simp)]
  have hot2 : HotAt A x ha := ⟨hh, o1, vs1, sa.extBut x _ (Nat.ne_of_lt (Heap.lt_size h1)) (Heap.get?_push_of_some _ h1), d1, c1⟩
  refine wpAny_bind (wpAny_holding (next_end_hot (s := { s with heap := ha }) hot2 ita ((hl.push _).extBut sa.extBut nl) (by simp) fun hb eb => ?_))
  simp only [Option.isSome_none, Bool.false_eq_true, if_false]
  exact wpAny_pure (k hb fun b o nb e => eb b o nb (sa.extBut b o nb (Heap.get?_push_of_some _ e)))
end
section
variable {X : Cx} {p : Addr × Obj} {pos : Pos}
/-- (a, b, ..) = a list, while p is handled -/
theorem pg_unlE {K : PySem.W.Frag} (eK : X.K = K) {es : List Expr} {k : Nat} {t : TGs} {n : Nat} (hb : Hb X p) (h : PGs X es t) (hn : (assignEach es X.env).length = n := by rfl) (hst : (assignEach es X.env).findIdx? (·.1) = none := by rfl) : PG X (.Tuple es k pos) (gUnl K n t) := by
  subst eK
  refine ⟨fun pl s σ H v u Q I r ⟨a, xs, ev, hq, hl, hw⟩ => ?_⟩
  subst ev
  cases r
  obtain ⟨its, rv, ls, hz⟩ := I.list hq
  obtain ⟨o, m, e, c, d, q⟩ := ls
  have isL : s.heap.IsList a its.toArray := ⟨o, e, c, m, q⟩
  have en : (assignEach es X.env).length = its.toArray.size := hn.trans (hl.symm.trans (rv.length.trans (by simp)))
  rw [PyProof.Rows.assign_Tuple]
  refine wpAny_bind (wpAny_standAt ?_)
  unfold unpack
  rw [en, hst]
  refine wpAny_bind (wpAny_holding (items_hot (hb.hot I) isL fun h' hx => ?_))
  exact h.run pl _ σ H xs _ Q (I.kept (t' := s.toks) fun b o e => hx b o (Nat.ne_of_lt (Heap.lt_size e)) e) (by simpa using rv) hw
end
section
variable {X : Cx} {p : Addr × Obj} {pl : List (Addr × Obj)} {s : Shared} {σ : St} {H : Hp} {Q : VK} {elt tg iter : Expr} {ifs : List Expr} {scope : Scope} {own : List (Str × Nat)} {pos pos' : Pos} {ti : TE} {g : TG} {tt : TT} {te : TE} {use : Option (Value → Sem Unit)} {Qf : Value → Shared → Prop}
/-- [e for target in a list if ..], while p is handled -/
theorem lcE (hp : p ∈ X.pn) (hb : Hb X p) (hN : X.N.Nodup) (I : Inv X pl σ H s) (hi : PE X iter ti) (ok : BlkOk X.N X.env.scope scope own)
    (hg : ∀ (s : Shared) (H : Hp) (C : Addr) (cl : List (Str × Addr)) (fp : List Addr), Hb (X.blk s H scope (compEnvC scope cl C X.env) fp) p → PG (X.blk s H scope (compEnvC scope cl C X.env) fp) tg g)
    (ht : ∀ (s : Shared) (H : Hp) (C : Addr) (cl : List (Str × Addr)) (fp : List Addr), PTs (X.blk s H scope (compEnvC scope cl C X.env) fp) ifs tt)
    (he : ∀ (s : Shared) (H : Hp) (C : Addr) (cl : List (Str × Addr)) (fp : List Addr), PE (X.blk s H scope (compEnvC scope cl C X.env) fp) elt te) (hs : ∀ x, foldedSetIterable iter X.env x = pure x)
    (want : tLc (iList X.K ti) g tt te (own.map (·.2)) σ H Q)
    (fin : ∀ D C s' m H', Inv X pl σ H' s' → Q (.ref D) H' → s'.heap.Ns C m → FpOk X pl H' C → compPost (model X.prog X.w) X.A X.xe use Qf (.ref D) C (.ok .next) s') :
    wpAny (model X.prog X.w) X.A (comprehension (.ListComp elt [⟨tg, iter, ifs, 0⟩] scope pos) scope X.env pos' (newList []) false (eval iter X.env) use) Qf X.xe s := by
  have frees : ∀ y ∈ scope.names, y.2 = .free → ∃ c, X.env.cells.lookup y.1 = some c := fun y hy e => by
    rcases ok.free y hy e with k | k
    · exact I.ok.has _ (.inl k)
    · exact I.ok.has _ (.inr k)
  refine wpAny_comprehension_free (use := use) rfl hs (closure_ok frees) ok.kind (fun y hy e => by rw [ok.uniq y hy, e]) (thn (hi.run pl s σ H _ I want) fun _ sa ⟨va, Ha, Ia, ra, a, ea, ⟨xs, hq⟩, wishes⟩ => ?_)
  subst ea
  cases ra
  obtain ⟨its, rv, ls, hz⟩ := Ia.list hq
  refine wpAny_pyIter_list ls.isList (wpAny_newObj_type (newEnv_comp ?_) (by show 0 ≤ sizeLine; decide))
  generalize eit : sa.heap.objs.size = it
  generalize esb : ({ sa with heap := sa.heap.push { cls := .type "list_iterator", data := .fields #[.ref a, .int 0 0] } } : Shared) = sb
  have hsb : sb.heap = sa.heap.push { cls := .type "list_iterator", data := .fields #[.ref a, .int 0 0] } := by rw [← esb]
  have Ib : Inv X pl σ Ha sb := by
    rw [← esb]
    exact Ia.kept (t' := sa.toks) fun b o e => Heap.get?_push_of_some _ e
  have itb : sb.heap.IsListIter it a 0 := by
    rw [hsb, ← eit]
    exact ⟨_, Heap.get?_push_size _ rfl, rfl, rfl⟩
  have okit : FpOk X pl Ha it := Ia.fpOk (Nat.le_of_eq eit) (Ia.hok.fresh (Nat.le_of_eq eit))
  generalize eD : sb.heap.objs.size = D
  have freeD : Ha D = none := Ib.hok.fresh (Nat.le_of_eq eD)
  obtain ⟨W, ⟨m0, begins⟩, turn⟩ := wishes D freeD
  generalize esc : ({ sb with heap := sb.heap.push { cls := .type "list", data := .seq ([] : List Value).toArray } } : Shared) = sc
  have hsc : sc.heap = sb.heap.push { cls := .type "list", data := .seq ([] : List Value).toArray } := by rw [← esc]
  have Ic : Inv X pl σ (upd Ha D (.lst [])) sc := by
    rw [← esc]
    refine Ib.laid (t' := sb.toks) (fun b o e => Heap.get?_push_of_some _ e) (Nat.le_of_eq eD) ⟨Nat.zero_le _, [], 0, .nil, ?_⟩
    rw [← eD]
    exact Heap.get?_push_size _ rfl
  have itlt : it < sb.heap.objs.size := by
    obtain ⟨o, e, _⟩ := itb
    exact Heap.lt_size e
  have okc : ∀ b ∈ [it], FpOk X pl (upd Ha D (.lst [])) b ∧ b < sc.heap.objs.size := fun b hb => by
    obtain rfl : b = it := by simpa using hb
    refine ⟨⟨?_, okit.2⟩, ?_⟩
    · rw [upd_ne (by rw [← eD]; exact Nat.ne_of_lt itlt)]
      exact okit.1
    · rw [hsc, Heap.size_push]
      exact Nat.lt_succ_of_lt itlt
  have itc : sc.heap.IsListIter it a 0 := itb.at fun o e => by
    rw [hsc]
    exact Heap.get?_push_of_some _ e
  have Id := block_start Ic ok hN okc
  have pc := hb.at_ _ _ _ _ Ic
  have pz := Ic.pin p (List.mem_append_left _ hp)
  have nit : p.1 ≠ it := okit.2.2.2.2.2 p (List.mem_append_left _ hp)
  -- the block bears the handled exception
  have hbb : Hb (X.blk sc (upd Ha D (.lst [])) scope (compEnvC scope (cellsFrom (sc.heap.objs.size + 1) scope.names (cloFrom X.env.cells scope.names [])) sc.heap.objs.size X.env) [it]) p := by
    refine ⟨hb.hh, hb.ctx, fun pins' σ' H' s' I' => ?_⟩
    have nfs : p.1 ∉ frs X.stack := fun m => by
      rcases Ic.ok.stk with z | ⟨z, zf⟩
      · rw [z] at m
        exact pz.2.2.2.1 m
      · rw [z] at m
        unfold frs at m
        rw [List.filterMap_cons, zf] at m
        rcases List.mem_cons.mp m with m | m
        · exact pz.2.2.1 m
        · exact pz.2.2.2.1 m
    have nex : p.1 ∉ [it] := fun z => nit (by simpa using z)
    exact ⟨I'.base.keep p.1 p.2 pc.1 pc.2 nfs nex, I'.base.free p.1 p.2 pc.1 pc.2 nex⟩
  have g1 := hg sc (upd Ha D (.lst [])) sc.heap.objs.size (cellsFrom (sc.heap.objs.size + 1) scope.names (cloFrom X.env.cells scope.names [])) [it] hbb
  have g2 := ht sc (upd Ha D (.lst [])) sc.heap.objs.size (cellsFrom (sc.heap.objs.size + 1) scope.names (cloFrom X.env.cells scope.names [])) [it]
  have g3 := he sc (upd Ha D (.lst [])) sc.heap.objs.size (cellsFrom (sc.heap.objs.size + 1) scope.names (cloFrom X.env.cells scope.names [])) [it]
  show codeAny _ _ (.compStart (.ListComp elt [⟨tg, iter, ifs, 0⟩] scope pos) 0 (.ref it) (.ref D) (compEnvC scope (cellsFrom (sc.heap.objs.size + 1) scope.names (cloFrom X.env.cells scope.names [])) sc.heap.objs.size X.env)) _
    { sc with heap := pushCells (sc.heap.push { cls := .type "dict", data := .dict #[] }) scope.names }
  have hid : (upd Ha D (.lst [])) it = none := (okc it (by simp)).1.1
  generalize eenv : compEnvC scope (cellsFrom (sc.heap.objs.size + 1) scope.names (cloFrom X.env.cells scope.names [])) sc.heap.objs.size X.env = env at Id g1 g2 g3 hbb ⊢
  have eloc : env.locals = sc.heap.objs.size := by subst eenv; rfl
  generalize eHc : upd Ha D (.lst []) = Hc at Ic Id g1 g2 g3 begins hid okc hbb
  generalize esd : ({ sc with heap := pushCells (sc.heap.push { cls := .type "dict", data := .dict #[] }) scope.names } : Shared) = sd at Id ⊢
  have itd : sd.heap.IsListIter it a 0 := itc.at fun o e => by
    rw [← esd]
    exact pushCells_keeps _ _ _ _ (Heap.get?_push_of_some _ e)
  have fpOk : ∀ {σ' : St} {H' : Hp} {s' : Shared}, Inv (X.blk sc Hc scope env [it]) [] σ' H' s' → H' it = none → FpOk (X.blk sc Hc scope env [it]) [] H' it := fun {σ' H' s'} I' free => by
    refine ⟨free, (I'.ok.exf it (by simp)).1, I'.ok.exfs it (by simp), .inl (by simp), fun x c e => (I'.ok.exf it (by simp)).2 x c e, fun q hq => ?_⟩
    exact absurd (show q ∈ ([] : List (Addr × Obj)) ++ [] from hq) (by simp)
  have lp : codeAny (model X.prog X.w) X.A (.compLoop (.ListComp elt [⟨tg, iter, ifs, 0⟩] scope pos) 0 (.ref it) (.ref D) env) (compPost (model X.prog X.w) X.A X.xe use Qf (.ref D) sc.heap.objs.size) sd := by
    refine compLoop_any (fun n s' => ∃ i H', Inv (X.blk sc Hc scope env [it]) [] (wipe σ (own.map (·.2))) H' s' ∧ s'.heap.IsListIter it a i ∧ H' it = none ∧ W i n H') ?_ m0 ⟨0, Hc, Id, itd, hid, begins⟩
    rintro n se ⟨i, He, Ie, ie, free, at_⟩
    obtain ⟨f0, f1, f2, f3, f4, f5⟩ := fpOk Ie free
    rcases turn i n He at_ with ⟨⟨ys, hy, hle⟩, wish⟩ | ⟨⟨ys, x0, hy, hx0⟩, On, next, step⟩
    · obtain ⟨jts, rj, lj, hj⟩ := Ie.list hy
      have hlen := rj.length
      refine next_end_hot (hbb.hot Ie) ie lj.isList (by simp; omega) fun h' eb => ?_
      have If : Inv (X.blk sc Hc scope env [it]) [] (wipe σ (own.map (·.2))) He { se with heap := h' } := Ie.turned (t' := se.toks) (fun b o hb e => eb b o hb e) f0 f1 f3 f4 f5
      have back : Inv X pl σ He { se with heap := h' } := Ic.call' (ch := [it]) If.os If.base If.hok If.bare fun b hb => ⟨(okc b hb).1.2.2.2.1, (okc b hb).1.2.1, (okc b hb).1.2.2.2.2.1, (okc b hb).1.2.2.2.2.2⟩
      have noC : He sc.heap.objs.size = none := by
        have z : He env.locals = none := If.free
        rw [eloc] at z
        exact z
      obtain ⟨m, hn, _⟩ := If.loc
      have hn' : h'.Ns env.locals m := hn
      rw [eloc] at hn'
      exact fin D sc.heap.objs.size _ m He back wish hn' (Ic.fpOk (Nat.le_refl _) noC)
    · obtain ⟨jts, rj, lj, hj⟩ := Ie.list hy
      obtain ⟨u, hu, ru⟩ := rj.get hx0
      refine wpAny_pyNext_list_item ie lj.isList (x := u) (by simpa using hu) fun h' ie' sb' => ?_
      have Ig : Inv (X.blk sc Hc scope env [it]) [] (wipe σ (own.map (·.2))) He { se with heap := h' } := Ie.turned (t' := se.toks) (fun b o hb e => (sb'.2 b hb).trans e) f0 f1 f3 f4 f5
      obtain ⟨oi, ei, ci, di⟩ := id ie'
      refine go_of (s := { se with heap := h' }) ei ci di (by decide) ?_
      have pinned := Ig.pinned (fp := [it]) (fun b hb => by
        obtain rfl : b = it := by simpa using hb
        exact fpOk Ig free) (fun b hb => by
        obtain rfl : b = it := by simpa using hb
        exact ⟨oi, ei, fun v z => by rw [di] at z; cases z⟩)
      refine thnF (g1.run _ { se with heap := h' } _ He x0 u _ pinned ru (step x0 He ⟨rfl, fun zs hz => by rw [Ie.list_inj hz hy]; exact hx0⟩)) fun _ sh ⟨σh, Hh, Ih, wh, qh⟩ => ?_
      refine thnF (g2.run _ sh σh Hh _ Ih qh) fun b si ⟨Hi, Ii, qi⟩ => ?_
      have ends : ∀ {s' : Shared} {H' : Hp}, Inv (X.blk sc Hc scope env [it]) ([] ++ pinsAt [it] h') σh H' s' → On H' →
          ∃ m, m < n ∧ ∃ i H', Inv (X.blk sc Hc scope env [it]) [] (wipe σ (own.map (·.2))) H' s' ∧ s'.heap.IsListIter it a i ∧ H' it = none ∧ W i m H' := fun {s' H'} I' on => by
        obtain ⟨m', lt, at'⟩ := next H' on
        have z := I'.pin (it, oi) (List.mem_append_right _ (List.mem_append_right _ (mem_pinsAt (by simp) ei)))
        have len : (wipe σ (own.map (·.2))).length = σh.length := by
          rw [← wh, wipe_length]
        refine ⟨m', lt, i + 1, H', (I'.unpinned (pins := [])).weak len (fun j y e => ?_), ⟨oi, z.1, ci, di⟩, z.2.1, at'⟩
        rw [← wh] at e
        exact (wipe_some e).1
      cases b with
      | false =>
        simp only [Bool.false_eq_true, if_false] at qi ⊢
        exact ends Ii qi
      | true =>
        simp only [if_true] at qi ⊢
        refine thnF (g3.run _ si σh Hi _ Ii qi) fun _ sj ⟨yv, Hj, Ij, rj', acc, eDj, few, on⟩ => ?_
        exact app_ok (X := X.blk sc Hc scope env [it]) Ij eDj few rj' fun _ Il => ends Il on
  exact codeAny_compStart_list lp (wpAny_pyIter_listiter itd lp)
/-- name = [..] on one line, while p is handled -/
theorem ps_setLcE {i : Nat} {y : Str} {py spos : Pos} (hp : p ∈ X.pn) (hb : Hb X p) (hN : X.N.Nodup) (hy : X.N[i]? = some y) (hyl : X.env.scope.names.lookup y = some .local) (hsw : swapsWith (.ListComp elt [⟨tg, iter, ifs, 0⟩] scope pos) (some (.Name y py)) spos.line X.env = pure true)
    (hi : PE X iter ti) (ok : BlkOk X.N X.env.scope scope own)
    (hg : ∀ (s : Shared) (H : Hp) (C : Addr) (cl : List (Str × Addr)) (fp : List Addr), Hb (X.blk s H scope (compEnvC scope cl C X.env) fp) p → PG (X.blk s H scope (compEnvC scope cl C X.env) fp) tg g)
    (ht : ∀ (s : Shared) (H : Hp) (C : Addr) (cl : List (Str × Addr)) (fp : List Addr), PTs (X.blk s H scope (compEnvC scope cl C X.env) fp) ifs tt)
    (he : ∀ (s : Shared) (H : Hp) (C : Addr) (cl : List (Str × Addr)) (fp : List Addr), PE (X.blk s H scope (compEnvC scope cl C X.env) fp) elt te) (hs : ∀ x, foldedSetIterable iter X.env x = pure x := by intro _; rfl) :
    PS X (.Assign [.Name y py] (.ListComp elt [⟨tg, iter, ifs, 0⟩] scope pos) spos) (tAsg (tLc (iList X.K ti) g tt te (own.map (·.2))) (gName i)) := by
  refine ⟨fun pl s σ H D I want => ?_⟩
  rw [exec_Assign_Name_used _ _ _ _ hsw]
  refine wpAny_bind (wpAny_standAt (wpAny_bind (wpAny_bind (thn (lcE (Qf := fun _ s' => SP X pl D .next s') hp hb hN I hi ok hg ht he hs (show tLc (iList X.K ti) g tt te (own.map (·.2)) σ H (fun x H1 => gName i x σ H1 D.nx) from want) fun L C s' m H' I' q hn f => ?_) fun _ s' hq => wpAny_pure (wpAny_pure hq)))))
  obtain ⟨f0, f1, f2, f3, f4, f5⟩ := f
  refine wpAny_assign_Name (store_ok2 (v := V.ref L) I' hN hy (.inl hyl) rfl (fun sx Ix ⟨a, sb, ha⟩ => ⟨m, hn.sameBut sb ?_, fun hx sbx => ⟨_, H', Ix.turned (t' := sx.toks) (fun b o hb e => (sbx.2 b hb).trans e) f0 f1 f3 f4 f5, q⟩⟩) (.inr hyl))
  rcases ha with z | z
  · rw [z]
    exact f1
  · exact fun e => f4 y a z e.symm
end
end L2
namespace L2
open PySem PySem.Spec PyProof.Rows PySem.GX HotX L2H
/-- what a def promises where p is handled: sp may speak of p -/
structure FnE (p : Addr × Obj) (P : Program) (w : World) (K : PySem.W.Frag) (mg : Str → Option Value) (base : Heap) (k : Nat) (f : Addr) (fd : FuncData) (ps : List Str) (sp : Sp) : Prop where
  len : ∀ vs H Q E, sp vs H Q E → vs.length = ps.length
  run : ∀ (A : Around) (outer : List Env) (s : Shared) (H : Hp) (args : Args) (us : List Value) (vs : List V) (Q : VK) (E : XK), RoomH k A → Hot1 A p → PinOk outer H s p → Env0 P w K mg base A outer s H → BindsTo s fd args (ps.zip us) → Vals vs us → sp vs H Q E →
    codeAny (model P w) A (.call (.ref f) args) (CR CX0 outer P w H s Q E) s
section
variable {P : Program} {w : World} {K : PySem.W.Frag} {mg : Str → Option Value} {base : Heap} {p : Addr × Obj}
theorem Fun.okE {x qual : Str} {st : Stmt} {f : Addr} {fd : FuncData} {N ps : List Str} {k : Nat} {sp : Sp} (F : Fun K x qual st f fd) (S : FnScope N ps (defScope st)) (len : ∀ vs H Q E, sp vs H Q E → vs.length = ps.length)
    (hbody : ∀ (cdv : Value) (A : Around) (outer : List Env) (s : Shared) (H : Hp) (vs : List V) (Q : VK) (E : XK), Hot1 A p → RoomH k (A.deeper (envOfC qual (defScope st) s.heap.objs.size f cdv)) → sp vs H Q E →
      ∃ t, PSs (cxH CX0 P w K mg base N qual (defScope st) f cdv A outer s H E p) (defBody st) t ∧ t { nx := fun _ H' => Q .non H', rt := Q } (start N vs) H) : FnE p P w K mg base (k + 1) f fd ps sp := by
  obtain ⟨oc, od, kV, doc, pm, an, cdv, ct, osl, rfl, lk, hcd⟩ := F.ex
  refine ⟨len, fun A outer s H args us vs Q E hr hot hpin e0 hb r want => ?_⟩
  have kin : K.In s.heap := e0.mod.kin.keeps fun b o e => (e0.bs b o e).1
  have kinds : ∀ y ∈ ps.zip us, (defScope st).names.lookup y.1 = some .local ∨ ((defScope st).names.lookup y.1 = some .cell ∧ ((cellsFrom (s.heap.objs.size + 1) (defScope st).names []).lookup y.1).isSome = true) := fun ⟨n, v⟩ hy => by
    rcases S.par n (List.of_mem_zip hy).1 with q | q
    · exact .inl q
    · exact .inr ⟨q, PySem.W.cellsFrom_some _ _ _ (.inl q)⟩
  refine codeAny_call_function hr.depth (kin _ _ lk) rfl S.co S.gen rfl (PySem.W.codeRec_of kin hcd) (hb _ _ _ _ (wpAny_newFunctionEnv_cells S.kind kinds fun env he s1 x => ?_))
  subst he
  refine ⟨(e0.mod.nolimit.keeps fun b o e => (e0.bs b o e).1).keeps x.toInCall.keep, codeAny_func ?_⟩
  obtain ⟨t, ht, hq⟩ := hbody cdv A outer s H vs Q E hot (hr.deeper _) want
  refine wpAny_mono (ht.run [] s1 (start N vs) H _ (inv_startH S hpin e0 (len _ _ _ _ want) r x) hq) (fun fl s' hs => ?_) fun e s' hs => hs
  cases fl with
  | ret u =>
    obtain ⟨v, σ', H', J, rv, q⟩ := hs
    exact ⟨v, H', J.os, J.bare, J.base, J.hok, rv, q⟩
  | next =>
    obtain ⟨σ', H', J, q⟩ := hs
    exact ⟨V.non, H', J.os, J.bare, J.base, J.hok, rfl, q⟩
  | brk =>
    obtain ⟨_, _, _, q⟩ := hs
    exact False.elim q
  | cont =>
    obtain ⟨_, _, _, q⟩ := hs
    exact False.elim q
end
def tCallE (sp : Sp) (t : TA) : TE := fun σ H Q => t σ H fun vs H1 => sp vs H1 Q fun _ _ _ => False
section
variable {X : Cx} {p : Addr × Obj} {k : Nat} {f : Addr} {fd : FuncData} {ps : List Str} {sp : Sp} {x : Str} {pp pos : Pos} {e : Expr} {es : List Expr} {t : TA}
theorem pe_callE (F : FnE p X.prog X.w X.K X.mg X.base k f fd ps sp) (hr : RoomH k X.A) (hot : Hot1 X.A p) (hp : p ∈ X.pn) (hg : Gl X x) (hm : X.mg x = some (.ref f)) (hk : PySem.W.keepIn X.K (.ref f) = true) (hb : Binds X.K fd ps [])
    (ha : PA X (e :: es) t) (hdb : (x == ("__debug__" : Str)) = false := by decide) (he : starEach (e :: es) X.env = (false, eval e X.env) :: starEach es X.env := by rfl) (hpl : (backTo pos (starEach es X.env)).any (·.1) = false := by rfl) :
    PE X (.Call (.Name x pp) (e :: es) [] pos) (tCallE sp t) := by
  refine ⟨fun pl s σ H Q I want => wpAny_Call_Name_kw (ld_glob I hg hm (PySem.W.callWith_K (h₀ := X.base) I.ok.mod.kin hk (thn (ha.run pos pl s σ H _ I want) fun us s1 ⟨vs, H1, I1, r, q⟩ => ⟨I1.kIn, ?_⟩) he hpl) hdb)⟩
  have hl : us.length = ps.length := by
    rw [← r.length]
    exact F.len _ _ _ _ q
  have b := hb s1 us I1.kIn (by rw [List.append_nil]; exact hl)
  rw [List.append_nil] at b
  have z := I1.pin p (List.mem_append_left _ hp)
  have pin : PinOk X.stack H1 s1 p := ⟨z.1, z.2.1, fun m => (List.mem_cons.mp (I1.stkSub p.1 m)).elim z.2.2.1 z.2.2.2.1, z.2.2.2.2⟩
  refine wpAny_call (codeAny_mono (F.run X.A X.stack s1 H1 ⟨us, []⟩ us vs Q _ hr hot pin I1.env0 b r q) fun r s' hq => ?_)
  cases r with
  | error e => exact False.elim hq
  | ok fl =>
    cases fl with
    | ret u => exact I1.after hq
    | next => exact False.elim hq
    | brk => exact False.elim hq
    | cont => exact False.elim hq
end
end L2
namespace L2
open PySem PySem.Spec PyProof.Rows PySem.GX HotX L2H
/-- p is an exception of the class at C, its dict at d -/
structure PIs (p : Addr × Obj) (C d : Addr) : Prop where
  cl : p.2.cls = .ref C
  di : p.2.dict = some d
section
variable {X : Cx} {p : Addr × Obj} {C d : Addr} {pins : List (Addr × Obj)} {σ : St} {H : Hp} {s : Shared} {fs : List (Str × V)}
theorem inst_p (hb : Hb X p) (hp : PIs p C d) (I : Inv X pins σ H s) (hd : H d = some (exd d fs)) : ∃ o : Obj, PySem.W.InstAt s.heap p.1 p.2 C (some o) := by
  obtain ⟨mA, ⟨o, es, ep, h1, h2⟩, _⟩ := exd_at I.hok hd
  obtain ⟨vs, dv, _⟩ := hb.ctx
  refine ⟨o, ⟨(hb.at_ _ _ _ _ I).1, hp.cl, ?_, ?_⟩⟩
  · unfold PySem.W.notCls
    rw [dv]
  · rw [hp.di]
    exact h1
end
/-- isinstance(e, c), e the exception p that is handled -/
def rIsP (p : Addr × Obj) (C d : Addr) (K : PySem.W.Frag) : List V → Hp → VK → Prop := fun xs H Q => ∃ (c : V) (u : Value) (b : Bool) (fs : List (Str × V)), xs = [.ref p.1, c] ∧ H d = some (exd d fs) ∧ ClsV c u ∧ PySem.W.kitOne K (.ref C) u = some b ∧ Q (.bl b) H
theorem call_isP {X : Cx} {p : Addr × Obj} {C d : Addr} (hb : Hb X p) (hp : PIs p C d) (T : ExcC X.K C) : CallR X (.builtin "isinstance") (rIsP p C d X.K) := by
  intro pl s σ H xs us Q I r ⟨c, u, b, fs, ex, hd, k, ek, q⟩
  subst ex
  obtain ⟨u1, u2, rfl, r1, r2⟩ := vals2 r
  have z := k.eq r2
  subst z
  obtain rfl : u1 = Value.ref p.1 := r1
  obtain ⟨o, J⟩ := inst_p hb hp I hd
  exact PySem.W.kia_one (kitG T) I.kIn J ek (fun z => nomatch z) fun tk => ⟨.bl b, H, I.tok tk, rfl, q⟩
/-- e.f, e the exception p that is handled -/
def tXfP (p : Addr × Obj) (C d : Addr) (K : PySem.W.Frag) (f : Str) (te : TE) : TE := fun σ H Q => te σ H fun x H1 => ∃ (fs : List (Str × V)) (v : V), x = .ref p.1 ∧ H1 d = some (exd d fs) ∧ PySem.W.findIn K (.ref C) f = some none ∧ fs.lookup f = some v ∧ Q v H1
theorem pe_xfP {X : Cx} {p : Addr × Obj} {C d : Addr} {e : Expr} {te : TE} {f : Str} {pos : Pos} (hb : Hb X p) (hp : PIs p C d) (T : ExcC X.K C) (he : PE X e te) (ha : attributeBase e f X.env (eval e X.env) = eval e X.env := by rfl) : PE X (.Attribute e f pos) (tXfP p C d X.K f te) := by
  refine ⟨fun pl s σ H Q I want => attr_of ha (thn (he.run pl s σ H _ I want) fun u s1 ⟨x, H1, I1, rx, fs, v, ex, hd, no, l, q⟩ => ?_)⟩
  subst ex
  obtain rfl : u = Value.ref p.1 := rx
  obtain ⟨mA, hns, rel⟩ := exd_at I1.hok hd
  obtain ⟨od, hod, hl⟩ := lookIn_ns hns
  obtain ⟨u, hu, ru⟩ := RelO.some_of (v := v) (o := mA f) (by rw [← l]; exact rel f)
  obtain ⟨vs, dv, _⟩ := hb.ctx
  have J : PySem.W.InstAt s1.heap p.1 p.2 C (some od) := ⟨(hb.at_ _ _ _ _ I1).1, hp.cl, by unfold PySem.W.notCls; rw [dv], by rw [hp.di]; exact hod⟩
  exact HandSPX.exc_get I1.kIn J T.hg T.hk T.hs (PySem.W.findObj_own T.hd no rfl (by rw [hl, hu])) (handed_of ru) ⟨v, H1, I1.tok _, ru, q⟩
end L2
namespace L2
open PySem PySem.Spec PyProof.Rows PySem.GX HotX L2H
theorem PE_imp {X : Cx} {e : Expr} {t t' : TE} (h : PE X e t) (m : ∀ σ H Q, t' σ H Q → t σ H Q) : PE X e t' := ⟨fun pins s σ H Q I q => h.run pins s σ H Q I (m σ H Q q)⟩
/-- __init__ with one field -/
def spI1 (C : Addr) (f : Str) : Sp := fun vs H Q _ => ∃ (a : Addr) (v : V), vs = [.ref a, v] ∧ H a = some (exo a C none) ∧
  ∀ d, H d = none → d ≠ a → Q .non (upd (upd H d (exd d [(f, v)])) a (exo a C (some d)))
/-- the class x at C, whose __init__ keeps its one argument as f -/
structure Mk1 (P : Program) (w : World) (K : PySem.W.Frag) (mg : Str → Option Value) (base : Heap) (x : Str) (C : Addr) (f : Str) : Prop where
  ex : ExG K C
  gC : mg x = some (.ref C)
  ini : ∃ (fI : Addr) (fd : FuncData), PySem.W.findIn K (.ref C) "__init__" = some (some (.ref fI)) ∧ PySem.W.typeIn K (.ref fI) = some (.type "function") ∧ FnOk P w K mg base CX0 1 fI fd ["self", f] (spI1 C f) ∧
    KBn K fd ["self", f] 2 [] (fun us _ => us) (fun vs _ => vs) ∧ KBn K fd ["self", f] 1 [f] (fun us ws => us ++ ws) (fun vs zs => vs ++ zs)
def tMk1 (C : Addr) (f : Str) (ta : TA) : TE := fun σ H Q => ta σ H fun vs H1 => ∃ v, vs = [v] ∧ ∀ (a d : Addr) (H2 : Hp), H1 a = none → d ≠ a → Same H1 H2 → ExAt H2 a C d [(f, v)] → Q (.ref a) H2
/-- the heap behind the making -/
theorem mk1_heap {H : Hp} {a d C : Addr} {f : Str} {v : V} (ha : H a = none) (hd : upd H a (exo a C none) d = none) (ne : d ≠ a) :
    Same H (upd (upd (upd H a (exo a C none)) d (exd d [(f, v)])) a (exo a C (some d))) ∧ ExAt (upd (upd (upd H a (exo a C none)) d (exd d [(f, v)])) a (exo a C (some d))) a C d [(f, v)] := by
  refine ⟨fun b o e => ?_, upd_same, by rw [upd_ne ne, upd_same]⟩
  have hd' : H d = none := by rw [upd_ne ne] at hd; exact hd
  rw [upd_ne (ne_of_none e ha), upd_ne (ne_of_none e hd'), upd_ne (ne_of_none e ha)]
  exact e
section
variable {X : Cx} {x f g : Str} {C : Addr} {e : Expr} {es : List Expr} {kws : List Keyword} {ta tk : TA} {p pos : Pos}
theorem pe_mk1 (M : Mk1 X.prog X.w X.K X.mg X.base x C f) (hr : Room 2 X.A) (hg : Gl X x) (ha : PA X (e :: es) ta)
    (hdb : (x == ("__debug__" : Str)) = false := by decide) (he : starEach (e :: es) X.env = (false, eval e X.env) :: starEach es X.env := by rfl) (hpl : (backTo pos (starEach es X.env)).any (·.1) = false := by rfl) :
    PE X (.Call (.Name x p) (e :: es) [] pos) (tMk1 C f ta) := by
  obtain ⟨fI, fd, iC, tI, F1, kb, _⟩ := M.ini
  refine ⟨fun pins s σ H Q I h => wpAny_Call_Name_kw (ld_glob I hg M.gC ?_ hdb)⟩
  refine PySem.W.callWith_K (h₀ := X.base) I.ok.mod.kin M.ex.kC (thn (ha.run pos pins s σ H _ I h) fun us s1 ⟨vs, H1, I1, r, v, ev, q⟩ => ⟨I1.kIn, ?_⟩) he hpl
  subst ev
  refine run_mkG (n := 1) (ks := []) (ws := []) (zs := []) M.ex iC tI F1 hr kb pass0 I1 r .nil rfl rfl (by show 1 ≤ 1000; decide) fun a na => ⟨a, v, rfl, upd_same, fun d nd ne => ⟨rfl, ?_⟩⟩
  obtain ⟨z1, z2⟩ := mk1_heap (f := f) (v := v) na nd ne
  exact q a d _ na ne z1 z2
theorem pe_mk1K (M : Mk1 X.prog X.w X.K X.mg X.base x C f) (hr : Room 2 X.A) (hg : Gl X x) (hkw : PK X kws tk)
    (hall : (backToKw pos (keywordEach kws X.env)).all (·.1.isSome) = true := by rfl) (hks : (backToKw pos (keywordEach kws X.env)).filterMap (·.1) = [f] := by rfl) (hdb : (x == ("__debug__" : Str)) = false := by decide)
    (hpl : ((backTo pos (starEach [] X.env)).any (·.1) || (backToKw pos (keywordEach kws X.env)).any (·.1.isNone)) = false := by rfl) :
    PE X (.Call (.Name x p) [] kws pos) (tMk1 C f tk) := by
  obtain ⟨fI, fd, iC, tI, F1, _, kb⟩ := M.ini
  refine ⟨fun pins s σ H Q I h => wpAny_Call_Name_kw (ld_glob I hg M.gC ?_ hdb)⟩
  refine PySem.W.callWith_KW0 (h₀ := X.base) I.ok.mod.kin M.ex.kC hall ?_ hpl
  refine thn (hkw.run pos pins s σ H _ I h) fun ws s2 ⟨zs, H1, I1, rz, v, ev, q⟩ => ⟨I1.kIn, ?_⟩
  subst ev
  rw [hks]
  refine run_mkG (n := 0) (ks := [f]) (us := []) (vs := []) M.ex iC tI F1 hr kb pass0 I1 .nil rz rfl rfl (by decide) fun a na => ⟨a, v, rfl, upd_same, fun d nd ne => ⟨rfl, ?_⟩⟩
  obtain ⟨z1, z2⟩ := mk1_heap (f := f) (v := v) na nd ne
  exact q a d _ na ne z1 z2
end

/-- an own exception with its dict, made and raised -/
theorem pmk_exo {X : Cx} {e : Expr} {te : TE} (hx : X.ex = []) (he : PE X e te) :
    L2N.PMk X e (fun σ H Q => te σ H fun x H1 => ∃ a C d, x = .ref a ∧ H1 a = some (exo a C (some d)) ∧ X.H_0 a = none ∧ Raises X (.ref C) ∧ Q (.ref C) (some d) (delH H1 a)) := by
  intro pl s σ H Q I want
  refine wpAny_mono (he.run pl s σ H _ I want) (fun u s1 ⟨v, H1, I1, r1, a, C, d, ev, ea, h0, hr, q⟩ => ?_) fun _ _ x => x
  subst ev
  cases r1
  obtain ⟨t1, ho⟩ := exo_at I1.hok ea
  obtain ⟨G, gs, ga, J⟩ := Inv.untrack I1 ea (fr0_none h0) hx
  exact ⟨a, _, _, { s1 with heap := G }, delH H1 a, .ref C, some d, rfl, J, gs, ga, ho, ⟨rfl, rfl, fun vs e => by cases e; rfl⟩, rfl, rfl, delH_same, rfl, I1.bare, hr, q⟩
/-- raise X(e): what leaves -/
def tRs1 (X : Cx) (C : Addr) (f : Str) (W : L2.WX) (ta : TA) : TS := fun _ σ H => tMk1 C f ta σ H fun x H1 => ∃ a C d, x = .ref a ∧ H1 a = some (exo a C (some d)) ∧ X.H_0 a = none ∧ Raises X (.ref C) ∧ W (.ref C) (some d) σ (delH H1 a)
section
variable {X : Cx} {x f : Str} {C : Addr} {e : Expr} {es : List Expr} {ta : TA} {pp pos pos2 : Pos} {W : L2.WX}
theorem ps_raise1 (M : Mk1 X.prog X.w X.K X.mg X.base x C f) (hr : Room 2 X.A) (hg : Gl X x) (hx : X.ex = []) (hc : X.calm = true) (tk : L2N.Takes X W) (ha : PA X (e :: es) ta)
    (hdb : (x == ("__debug__" : Str)) = false := by decide) (he : starEach (e :: es) X.env = (false, eval e X.env) :: starEach es X.env := by rfl) (hpl : (backTo pos (starEach es X.env)).any (·.1) = false := by rfl) :
    PS X (.Raise (some (.Call (.Name x pp) (e :: es) [] pos)) none pos2) (tRs1 X C f W ta) :=
  L2N.ps_raise hc tk (pmk_exo hx (pe_mk1 (p := pp) M hr hg ha hdb he hpl))
/-- how the reading is answered -/
theorem rs1_end {X : Cx} {C a d : Addr} {f : Str} {v : V} {H1 H2 : Hp} {σ : St} {W : L2.WX} (rs : Raises X (.ref C)) (h0 : Same X.H_0 H1) (na : H1 a = none) (ne : d ≠ a) (s2 : Same H1 H2) (ex : ExAt H2 a C d [(f, v)])
    (k : ∀ H3, Same H1 H3 → H3 d = some (exd d [(f, v)]) → W (.ref C) (some d) σ H3) : ∃ a' C' d', V.ref a = .ref a' ∧ H2 a' = some (exo a' C' (some d')) ∧ X.H_0 a' = none ∧ Raises X (.ref C') ∧ W (.ref C') (some d') σ (delH H2 a') := by
  refine ⟨a, C, d, rfl, ex.ob, h0.free na, rs, k _ (fun b o e => ?_) ?_⟩
  · rw [delH_ne (ne_of_none e na)]
    exact s2 b o e
  · rw [delH_ne ne]
    exact ex.di
end
/-- a def that may raise, where nothing is handled -/
theorem Fun.okN {P : Program} {w : World} {K : PySem.W.Frag} {mg : Str → Option Value} {base : Heap} {x qual : Str} {st : Stmt} {f : Addr} {fd : FuncData} {N ps : List Str} {k : Nat} {sp : Sp} (F : Fun K x qual st f fd) (S : FnScope N ps (defScope st)) (len : ∀ vs H Q E, sp vs H Q E → vs.length = ps.length)
    (hbody : ∀ (cdv : Value) (A : Around) (outer : List Env) (s : Shared) (H : Hp) (vs : List V) (Q : VK) (E : XK), Room k (A.deeper (envOfC qual (defScope st) s.heap.objs.size f cdv)) → sp vs H Q E →
      ∃ t, PSs (cxOf (L2N.CX P w) P w K mg base N qual (defScope st) f cdv A outer s H E) (defBody st) t ∧ t { nx := fun _ H' => Q .non H', rt := Q } (start N vs) H) : FnOk P w K mg base (L2N.CX P w) (k + 1) f fd ps sp := by
  obtain ⟨oc, od, kV, doc, pm, an, cdv, ct, osl, rfl, lk, hcd⟩ := F.ex
  exact fn_of lk hcd S len fun A outer s H vs Q E hr want => hbody cdv A outer s H vs Q E hr want
end L2
namespace L2
open PySem PySem.Spec PyProof.Rows PySem.GX HotX L2H
theorem flying_keep {B h h' : Heap} {l : List Env} {e : Addr} {Z : Obj → Prop} (x : HandSPX.FlyingZ B l e Z h) (k : ∀ b o, h.get? b = some o → h'.get? b = some o) : HandSPX.FlyingZ B l e Z h' := by
  obtain ⟨f1, f2, f3, oe, vs, T, oT, ts, a1, a2, a3, a4, a5, a6, a7, a8, a9⟩ := x
  exact ⟨fun b o q => k b o (f1 b o q), f2, f3.of_keeps fun b o q _ => ⟨o, k b o q, rfl⟩, oe, vs, T, oT, ts, k _ _ a1, a2, a3, a4, a5, a6, k _ _ a7, a8, a9⟩
/-- what 'except (c1, c2, ..) as n' wishes: slot i is n's; all that may come is of one of them -/
def w3 (K : PySem.W.Frag) (cs : List Value) (i : Nat) (ts : Addr → Value → Option Addr → TS) (D : Ends) : L2.WX := fun cls d σ H =>
  PySem.W.exmAny K cls cs = some true ∧ ∀ a, H a = none → ts a cls d { nx := fun σ' H' => D.nx (σ'.set i none) H', rt := D.rt, bk := fun σ' H' => D.bk (σ'.set i none) H', ct := fun σ' H' => D.ct (σ'.set i none) H' } (σ.set i (some (.ref a))) H
section
variable {X : Cx} {x1 x2 x3 n : Str} {c1 c2 c3 : Value} {i kk : Nat} {body suite : List Stmt} {b₀ : Stmt} {p1 p2 p3 tp pos pos' : Pos} {tb : L2.WX → TS} {ts : Addr → Value → Option Addr → TS}
theorem ps_try3 (hs : X.stack = X.env :: X.outer) (hf : X.env.frame = some X.env.locals) (hN : X.N.Nodup) (hi : X.N[i]? = some n) (hln : X.env.kindOf n = some .local) (m1 : Names X x1 c1) (m2 : Names X x2 c2) (m3 : Names X x3 c3)
    (hb : ∀ (W : L2.WX) (pn : List (Addr × Obj)) (xe : Value → Shared → Prop), L2N.Takes (X.tr pn xe) W → PassesOwn (model X.prog X.w) X.A X.env xe → PSs (X.tr pn xe) body (tb W))
    (hsu : ∀ (a : Addr) (oe : Obj) (cls : Value) (d : Option Addr) (pn : List (Addr × Obj)), L2N.Zn cls d oe → (∃ vs, oe.data = .fields vs) → PSs (X.suite a ((a, oe) :: pn)) (b₀ :: suite) (ts a cls d)) :
    PS X (.Try body [.ExceptHandler (some (.Tuple [.Name x1 p1, .Name x2 p2, .Name x3 p3] kk tp)) (some n) (b₀ :: suite) pos'] [] [] pos) (fun D σ H => tb (w3 X.K [c1, c2, c3] i ts D) D σ H) := by
  refine ⟨fun pl s σ H D I want => wpAny_Try_except ?_⟩
  have ok := I.ok
  have frs_ : X.A.frames = some (X.env :: X.outer) := by rw [ok.frames, hs]
  have loc_ : Loc X.env.scope n := .inl hln
  refine wpAny_mono ((hb (w3 X.K [c1, c2, c3] i ts D) (X.pn ++ pl) (fun e s₁ => wpAny (model X.prog X.w) X.A (noteFrame e X.env) (fun _ s₂ => wpAny (model X.prog X.w) X.A (setFlight e none) (fun _ s₃ =>
    wpAny (model X.prog X.w) X.A (handleBy e X.env [.ExceptHandler (some (.Tuple [.Name x1 p1, .Name x2 p2, .Name x3 p3] kk tp)) (some n) (b₀ :: suite) pos']) (SP X pl D) X.xe s₃) X.xe s₂) X.xe s₁) (fun u s' xx => ?_) PassesOwn.looking).run [] s σ H D (I.toTry _) want) (fun f s1 hsp => ?_) (fun e s1 he => he)
  · obtain ⟨a, B, sI, pins', σ', H', cls, d, rfl, J', nb, up, sky, na, os, ag, hex, hyes⟩ := xx
    have J : Inv X pl σ' H' sI := J'.ofTry ok
    show wpAny (model X.prog X.w) X.A (noteFrame (.ref a) X.env) _ _ _
    refine L2N.Sky.land L2N.Zn.steady frs_ hf (show Sky B (X.env :: X.outer) a (L2N.Zn cls d) X.env.locals s'.heap by rw [← hs]; exact sky) fun h3 fl3 up3 => ?_
    have J3 : Inv X pl σ' H' { s' with heap := h3 } := J.landed nb fl3.1 (up.trans up3) os ag
    obtain ⟨oe3, vs3, he3, hz3, hd3⟩ := fl3.there
    have nfr : a ∉ frs (X.env :: X.outer) := fun m => by
      obtain ⟨_, o', e', hnf⟩ := fl3.2.2.1.mem m
      rw [he3] at e'
      cases e'
      exact hnf _ hd3
    have nL : a ≠ X.env.locals := fun z => nfr (List.mem_filterMap.mpr ⟨X.env, List.mem_cons_self, by rw [hf, z]⟩)
    have nF : a ∉ X.fs := fun m => by
      obtain ⟨e, he, q⟩ := List.mem_filterMap.mp m
      exact nfr (List.mem_filterMap.mpr ⟨e, List.mem_cons_of_mem _ he, q⟩)
    have S3 := J3.suite he3 hd3 na nL nF
    refine wpAny_handleBy_cons (codeAny_handlers_test ?_) (by intro q; cases q)
    have nam : ∀ {x : Str} {c : Value} {np : Pos} {Q : Value → Shared → Prop} {E : Value → Shared → Prop}, Names X x c → Q c { s' with heap := h3 } → wpAny (model X.prog X.w) (X.A.mark (some (.ref a))) (eval (.Name x np) X.env) Q E { s' with heap := h3 } := fun {x c np Q E} hc q => by
      obtain ⟨hg, hdbg, hm | ⟨hm, hv, hnn⟩⟩ := hc
      · exact ld_glob (X := X.suite a ((a, oe3) :: (X.pn ++ pl))) S3 hg hm q hdbg
      · exact ld_blt (X := X.suite a ((a, oe3) :: (X.pn ++ pl))) S3 hg hm hv q hnn hdbg
    refine wpAny_Tuple (wpAny_items_cons (nam m1 (wpAny_items_cons (nam m2 (wpAny_items_cons (nam m3 (wpAny_items_nil ⟨by size_fits, ?_⟩)))))))
    have kp : ∀ q o, h3.get? q = some o → (h3.push { cls := .type "tuple", data := .seq [c1, c2, c3].toArray }).get? q = some o := fun _ _ z => Heap.get?_push_of_some _ z
    have LT : PySem.W.Looks (model X.prog X.w) (h3.push { cls := .type "tuple", data := .seq [c1, c2, c3].toArray }) (typeOf (.ref a)) cls := fun A Q E s k q => wpAny_typeOf_ref (k _ _ (kp _ _ he3)) (by rw [hz3.1]; exact q)
    refine (PySem.W.exm_tup3 (M := model X.prog X.w) (J3.kIn.keeps kp) LT (Heap.get?_push_size h3 rfl) hex).here ?_
    refine codeAny_handlers_suite_as (HandSPX.lands_againZ (flying_keep fl3 kp) fun h4 fl4 up4 => ?_)
    have J4 : Inv X pl σ' H' { s' with heap := h4 } := J.landed nb fl4.1 (((up.trans up3).trans (.of_keeps kp)).trans up4) os ag
    obtain ⟨oe4, vs4, he4, hz4, hd4⟩ := fl4.there
    have S4 := J4.suite he4 hd4 na nL nF
    refine store_ok (X := X.suite a ((a, oe4) :: (X.pn ++ pl))) (v := .ref a) S4 hN hi loc_ rfl (fun s5 S5 => wpAny_mono ((hsu a oe4 cls d (X.pn ++ pl) hz4 ⟨_, hd4⟩).run [] s5 _ H' _ S5 (hyes a na)) (fun f s6 hsp => ?_) (fun _ _ z => False.elim z)) (.inr hln)
    have leaves : ∀ {σ6 : St} {H6 : Hp} {Q : Shared → Prop}, Inv (X.suite a ((a, oe4) :: (X.pn ++ pl))) [] σ6 H6 s6 → (∀ s7, Inv X pl (σ6.set i none) H6 s7 → Q s7) →
        wpAny (model X.prog X.w) X.A (do bindName X.env n .none; unbindBehindTheSuite X.env n pos') (fun _ s7 => Q s7) X.xe s6 := fun {σ6 H6 Q} S6 hq => gone_ok (S6.unsuite ok) hN hi hln hq
    cases f with
    | next =>
      obtain ⟨σ6, H6, S6, q6⟩ := hsp
      exact leaves S6 fun s7 J7 => ⟨_, _, J7, q6⟩
    | brk =>
      obtain ⟨σ6, H6, S6, q6⟩ := hsp
      exact leaves S6 fun s7 J7 => ⟨_, _, J7, q6⟩
    | cont =>
      obtain ⟨σ6, H6, S6, q6⟩ := hsp
      exact leaves S6 fun s7 J7 => ⟨_, _, J7, q6⟩
    | ret u =>
      obtain ⟨v6, σ6, H6, S6, r6, q6⟩ := hsp
      exact leaves S6 fun s7 J7 => ⟨_, _, _, J7, r6, q6⟩
  · cases f with
    | next =>
      obtain ⟨σ', H', J', q⟩ := hsp
      exact wpAny_execs_nil ⟨σ', H', J'.ofTry ok, q⟩
    | brk =>
      obtain ⟨σ', H', J', q⟩ := hsp
      exact ⟨σ', H', J'.ofTry ok, q⟩
    | cont =>
      obtain ⟨σ', H', J', q⟩ := hsp
      exact ⟨σ', H', J'.ofTry ok, q⟩
    | ret u =>
      obtain ⟨v, σ', H', J', r, q⟩ := hsp
      exact ⟨v, σ', H', J'.ofTry ok, r, q⟩
end
end L2
namespace L2
open PySem PySem.Spec PyProof.Rows PySem.GX HotX L2H LamX
/-- what is invariant does not speak of the wish about exceptions -/
theorem Inv.xe_ {X : Cx} {pins : List (Addr × Obj)} {σ : L2.St} {H : Hp} {s : Shared} (I : Inv X pins σ H s) (e : Value → Shared → Prop) : Inv { X with xe := e } pins σ H s :=
  have o := I.ok
  ⟨⟨o.mod, o.kind, o.glob, o.blt, o.above, o.inj, o.has, o.cab, o.hd, o.frames, o.stk, o.exf, o.bs, o.bsz, o.noex, o.exfs, o.funs, o.frf⟩, I.os, I.bare, I.base, I.loc, I.cell, I.free, I.freeC, I.pin, I.hok, I.len⟩
/-- the context of a lambda's body; what leaves it has no context of its own -/
def lamN (X : Cx) (A : Around) (outer : List Env) (s : Shared) (H : Hp) (E : XK) (scope : Scope) (f c' : Addr) : Cx :=
  { lamCx X A outer s H E scope f c' with xe := fun e s' => wpAny (model X.prog X.w) (A.deeper (lamEnv X scope s.heap.objs.size f c')) (leaving (lamEnv X scope s.heap.objs.size f c') e) (fun _ s'' => L2N.CX X.prog X.w outer H s E e s'') (fun e' s'' => L2N.CX X.prog X.w outer H s E e' s'') s' }
section
variable {X : Cx} {pl : List (Addr × Obj)} {σ : L2.St} {H : Hp} {s : Shared}
/-- a(), in the def that got the lambda -/
theorem pe_actN {CXg : CXT} {Eg : XK} {Ng : List Str} {qg : Str} {sg : Scope} {g f c' : Addr} {cdg pm ctv : Value} {params : Arguments} {body : Expr} {scope : Scope} {k i : Nat} {a : Str} {pn : List (Addr × Obj)} {xe : Value → Shared → Prop} {W : L2.WX} {E : XK} {tb : TE} {p1 p2 : Pos}
    (I : Inv X pl σ H s) (L : LamS X.env.scope scope) (hf : s.heap.get? f = some (PySem.W.kla_obj "<lambda>" (X.env.qual ++ "<lambda>") params body scope (cloFrom X.env.cells scope.names []) pm c' ctv)) (hfn : H f = none) (hfr : f ∉ frs X.stack)
    (hbind : bindArgs (PySem.W.kla_fn "<lambda>" (X.env.qual ++ "<lambda>") params body scope (cloFrom X.env.cells scope.names []) pm (.ref c') ctv) ⟨[], []⟩ = pure [])
    (tk : L2N.Takes ((cxOf CXg X.prog X.w X.K X.mg X.base Ng qg sg g cdg X.A X.stack s H Eg).tr pn xe) W) (hW : ∀ cls d σ' H', E cls d H' → W cls d σ' H') (hr : Room (k + 1) (X.A.deeper (envOfC qg sg s.heap.objs.size g cdg)))
    (hbody : ∀ (A : Around) (outer : List Env) (s : Shared) (H : Hp), Room k (A.deeper (lamEnv X scope s.heap.objs.size f c')) → PE (lamN X A outer s H E scope f c') body tb)
    (hN : Ng[i]? = some a) (hv : Vis sg a) (hd : (a == ("__debug__" : Str)) = false := by decide) (hcd : (a == ("__classdict__" : Str)) = false := by decide) :
    PE ((cxOf CXg X.prog X.w X.K X.mg X.base Ng qg sg g cdg X.A X.stack s H Eg).tr pn xe) (.Call (.Name a p1) [] [] p2)
      (fun σZ HZ Q => σZ[i]? = some (some (.ref f)) ∧ HZ c' = some (CodeO c' (X.env.qual ++ "<lambda>")) ∧ tb σ HZ Q) := by
  refine ⟨fun plZ sZ σZ HZ Q IZ ⟨hs, hc, want⟩ => wpAny_Call_Name_kw (thn ((pe_var (pos := p1) (i := i) hN hv hd hcd).run plZ sZ σZ HZ (fun v H1 => v = .ref f ∧ H1 = HZ) IZ ⟨.ref f, hs, rfl, rfl⟩) fun u s1 ⟨v, H1, I1, r1, ev, eH⟩ => ?_)⟩
  subst ev
  rw [eH] at I1
  obtain rfl : u = Value.ref f := r1
  have of1 : s1.heap.get? f = some (PySem.W.kla_obj "<lambda>" (X.env.qual ++ "<lambda>") params body scope (cloFrom X.env.cells scope.names []) pm c' ctv) := I1.base.keep f _ hf hfn hfr (fun z => nomatch (show f ∈ ([] : List Addr) from z))
  obtain ⟨⟨oc, vs, t, hoc, hdc, hvc⟩, _, _⟩ := I1.hok c' _ hc
  have rc : codeAny (model X.prog X.w) (X.A.deeper (envOfC qg sg s.heap.objs.size g cdg)) (.call (.ref f) ⟨[], []⟩) (CR (L2N.CX X.prog X.w) (envOfC qg sg s.heap.objs.size g cdg :: X.stack) X.prog X.w HZ s1 Q E) s1 := by
    refine PySem.W.kla_callFunE hr.depth of1 rfl L.co L.gen rfl ⟨c', oc, vs, t, rfl, hoc, hdc, hvc⟩ ?_
    rw [hbind]
    refine wpAny_pure (wpAny_newFunctionEnv (fun y hy => (L.own y hy).2) (fun y hy => absurd hy (by simp)) (fun h₁ hns hsb => ⟨I1.nolimit.fresh _ hsb, ?_⟩) L.kind)
    show codeAny _ _ (.expr body (lamEnv X scope s1.heap.objs.size f c')) _ _
    have J := (lam_start2 (E := E) (f := f) (c' := c') (tk := s1.toks + ([] : List (Str × Value)).length) I L I1.env0 hr.hd (show Un (frs X.stack) [] H HZ s.heap s1.heap from I1.base) hns fun b o e => hsb.extBut b o (Nat.ne_of_lt (Heap.lt_size e)) (Heap.get?_push_of_some _ e)).xe_ (fun e s' => wpAny (model X.prog X.w) ((X.A.deeper (envOfC qg sg s.heap.objs.size g cdg)).deeper (lamEnv X scope s1.heap.objs.size f c')) (leaving (lamEnv X scope s1.heap.objs.size f c') e) (fun _ s'' => L2N.CX X.prog X.w (envOfC qg sg s.heap.objs.size g cdg :: X.stack) HZ s1 E e s'') (fun e' s'' => L2N.CX X.prog X.w (envOfC qg sg s.heap.objs.size g cdg :: X.stack) HZ s1 E e' s'') s')
    refine PySem.W.kla_codeExpr (wpAny_mono ((hbody _ _ s1 HZ (hr.deeper _)).run [] _ _ HZ Q J want) (fun v s' ⟨w', H', J', rv, q⟩ => ⟨w', H', J'.os, J'.bare, J'.base, J'.hok, rv, q⟩) fun e s' hq => hq)
  refine PySem.W.callWith_F0 ⟨_, _, _, _, of1⟩ (wpAny_call (codeAny_mono rc fun r s' hq => ?_))
  cases r with
  | error e => exact L2N.passes_call tk hW plZ σZ HZ s1 e s' I1 hq
  | ok fl =>
    cases fl with
    | ret u => exact I1.after hq
    | next => exact False.elim hq
    | brk => exact False.elim hq
    | cont => exact False.elim hq
end
/-- the def that calls what it got (TT: what it makes of the lambda's reading) -/
def GivesN (X : Cx) (k : Nat) (Ng : List Str) (x : Str) (sg : Scope) (g : Addr) (cdg : Value) (bg : List Stmt) (a : Str) (q : Str) (TT : (XK → Hp → VK → Prop) → Hp → VK → Prop) : Prop :=
  ∀ (f c' : Addr) (s : Shared) (H : Hp) (Q : VK) (tl : XK → Hp → VK → Prop), Room k (X.A.deeper (envOfC x sg s.heap.objs.size g cdg)) →
    (∀ (W : L2.WX) (pn : List (Addr × Obj)) (xe : Value → Shared → Prop) (E : XK) (p1 p2 : Pos), L2N.Takes ((cxOf CX0 X.prog X.w X.K X.mg X.base Ng x sg g cdg X.A X.stack s H E0).tr pn xe) W → (∀ cls d σ' H', E cls d H' → W cls d σ' H') →
      PE ((cxOf CX0 X.prog X.w X.K X.mg X.base Ng x sg g cdg X.A X.stack s H E0).tr pn xe) (.Call (.Name a p1) [] [] p2) (fun σZ HZ Q => σZ[0]? = some (some (.ref f)) ∧ HZ c' = some (CodeO c' q) ∧ tl E HZ Q)) →
    H c' = some (CodeO c' q) → TT tl H Q →
    ∃ t, PSs (cxOf CX0 X.prog X.w X.K X.mg X.base Ng x sg g cdg X.A X.stack s H E0).nox bg t ∧ t { nx := fun _ H' => Q .non H', rt := Q } (L2.start Ng [.ref f]) H
section
variable {X : Cx}
/-- x(lambda: body) -/
theorem pe_lamN {T : List (Addr × Str)} {TT : (XK → Hp → VK → Prop) → Hp → VK → Prop} {x a : Str} {g c P : Addr} {k : Nat} {pg : Arguments} {bg : List Stmt} {sg : Scope} {dV kV doc pm cdv ct oc : Value} {an od : Option Addr} {osl : Array (Option Value)} {Ng : List Str}
    {params : Arguments} {body : Expr} {scope : Scope} {t : XK → TE} {p lpos pos : Pos} (hg : Gl X x) (hm : X.mg x = some (.ref g)) (hk : PySem.W.keepIn X.K (.ref g) = true)
    (lk : X.K.lookup g = some ⟨oc, od, .func (PySem.W.fnOf x x pg bg sg dV kV doc pm an cdv ct), osl⟩) (hcg : PySem.W.codeIn X.K cdv x = true) (hb : L2.Binds X.K (PySem.W.fnOf x x pg bg sg dV kV doc pm an cdv ct) [a] []) (Sg : FnScope Ng [a] sg) (hNg : Ng[0]? = some a) (hva : Vis sg a)
    (hG : GivesN X (k + 1) Ng x sg g cdv bg a (X.env.qual ++ "<lambda>") TT)
    (TB : TabB X.base X.mg c P) (hcode : X.env.code = .ref c) (hmT : (P, X.env.qual ++ "<lambda>") ∈ T) (hu : ∀ p ∈ T, p.1 = P → p.2 = X.env.qual ++ "<lambda>") (hr : Room (k + 2) X.A) (L : LamS X.env.scope scope) (hdef : defaultsOf params X.env = ([], []))
    (hbind : ∀ (q : Str) (cl : List (Str × Addr)) (pm cv ctv : Value), bindArgs (PySem.W.kla_fn "<lambda>" q params body scope cl pm cv ctv) ⟨[], []⟩ = pure [])
    (hbody : ∀ (A : Around) (outer : List Env) (s : Shared) (H : Hp) (E : XK) (f c' : Addr), Room k (A.deeper (lamEnv X scope s.heap.objs.size f c')) → PE (lamN X A outer s H E scope f c') body (t E))
    (hdb : (x == ("__debug__" : Str)) = false := by decide) (hd : (a == ("__debug__" : Str)) = false := by decide) (hcd : (a == ("__classdict__" : Str)) = false := by decide) :
    PE X (.Call (.Name x p) [.Lambda params body scope lpos] [] pos) (tLam T TT t) := by
  refine ⟨fun pl s σ H Q I ⟨hT, want⟩ => wpAny_Call_Name_kw (ld_glob I hg hm (PySem.W.callWith_K (h₀ := X.base) I.ok.mod.kin hk ?_ (by rfl) (by rfl)) hdb)⟩
  show wpAny _ _ (spliced ((false, eval (.Lambda params body scope lpos) X.env) :: backTo pos (starEach [] X.env))) _ _ s
  refine Calls.spliced_cons (lam_make2 I TB hcode hmT hu hT hdef (L.has I.ok) fun f c' pm' ctv H1 s' I1 eN T1 hf hfn hfr hco => Calls.spliced_nil ⟨I1.kIn, ?_⟩)
  have rc : codeAny (model X.prog X.w) X.A (.call (.ref g) ⟨[.ref f], []⟩) (CR CX0 X.stack X.prog X.w H1 s' Q E0) s' := by
    refine run_ofS (N := Ng) (ps := [a]) (us := [.ref f]) (vs := [.ref f]) lk hcg Sg hr I1.env0 (hb s' [.ref f] I1.kIn rfl) (.cons rfl .nil) rfl fun hr' => ?_
    obtain ⟨t', ht', hq'⟩ := hG f c' s' H1 Q (fun E H' Q' => t E σ H' Q') hr' (fun W pn xe E p1 p2 tk hW => pe_actN (i := 0) I1 L hf hfn hfr (hbind _ _ _ _ _) tk hW hr' (fun A outer s H hr2 => hbody A outer s H E f c' hr2) hNg hva hd hcd) hco (want H1 eN T1)
    exact ⟨t', ht'.nox, hq'⟩
  refine wpAny_call (codeAny_mono rc fun r s2 hq => ?_)
  cases r with
  | error e => exact (show False from hq).elim
  | ok fl =>
    cases fl with
    | ret u => exact I1.after hq
    | next => exact False.elim hq
    | brk => exact False.elim hq
    | cont => exact False.elim hq
end
end L2
namespace L2
open PySem PySem.Spec PyProof.Rows PySem.GX LamX
/-- the law's call, its promise where no repr is under way; the tables ts of code objects may grow -/
theorem law_callGT {P : Program} {w : World} {K : PySem.W.Frag} {mg mb : Str → Option Value} {CX : CXT} {k : Nat} {fa a : Addr} {fd : FuncData} {x : Str} {sp : Sp} {s1 : Shared} {vs : List Value} {ns : List Int} {ts : List (Addr × Addr)}
    (KX : K.In s1.heap) (hns : s1.heap.Ns mainGlobals mg) (hb : s1.heap.Ns builtinsNs mb) (hbb : ∀ x : Str, x ≠ "__name__" → mb x = bootBuiltins x) (hlim : s1.heap.NoLimit) (hg : s1.gens = #[])
    (t1 : ∀ q ∈ ts, s1.heap.get? q.2 = some (PySem.W.tabObj #[]) ∧ K.lookup q.2 = none ∧ PySem.W.CodeHd s1.heap q.1 q.2)
    (hbm : ∃ (m : Addr) (om : Obj), mg "__builtins__" = some (.ref m) ∧ m ≠ builtinsNs ∧ s1.heap.get? m = some om ∧ om.cls = .type "module" ∧ om.dict = some builtinsNs ∧ om.data = .plain)
    (ha : s1.heap.get? a = some { cls := .type "list", data := .seq vs.toArray }) (hi : IntsAre vs ns) (hl : ns.length ≤ sizeLine) (hr : Room k callerA)
    (F : ∀ base : Heap, K.In base → base.Ns mainGlobals mg → (∀ q ∈ ts, TabB base mg q.1 q.2) → FnG P w K mg base CX k fa fd [x] sp) (hbind : ∀ (s : Shared) (u : Value), BindsTo s fd ⟨[u], []⟩ [(x, u)])
    (hsp : ∀ H : Hp, (∀ q ∈ ts, H q.2 = some (.tbl #[])) → SqL K H a (ns.map V.int) → sp [.ref a] H (fun v _ => v = .bl true) fun _ _ _ => False)
    (hCX : ∀ H e s', CX [] H s1 (fun _ _ _ => False) e s' → False) :
    codeAny (model P w) callerA (.call (.ref fa) ⟨[.ref a], []⟩) (fun r s' => r = .ok (.ret (.bool true)) ∧ OldK s1.heap s'.heap ∧ s'.os = s1.os ∧ AllBare s'.gens) s1 := by
  have rv := vals_ints hi
  have lenV := hi.length
  let T : List Addr := ts.map (·.2)
  have tT : ∀ b ∈ T, ∃ q ∈ ts, q.2 = b := fun b h => List.mem_map.mp h
  have oT : ∀ b ∈ T, s1.heap.get? b = some (PySem.W.tabObj #[]) := fun b h => by
    obtain ⟨q, hq, rfl⟩ := tT b h
    exact (t1 q hq).1
  have naT : a ∉ T := fun h => by
    have e := oT a h
    rw [ha] at e
    have d : Data.seq vs.toArray _ = Data.fields #[] := congrArg Obj.data (Option.some.inj e)
    cases d
  let sc : HO := .frz { cls := .type "list", data := .seq vs.toArray } (.lst (ns.map V.int))
  let H : Hp := fun b => if b ∈ T then some (.tbl #[]) else if b = a ∧ (K.lookup a).isNone = true then some sc else none
  have HT : ∀ b ∈ T, H b = some (.tbl #[]) := fun b h => if_pos h
  have isH : ∀ b, H b ≠ none → b ∈ T ∨ b = a ∧ K.lookup a = none := fun b h => by
    by_cases h1 : b ∈ T
    · exact .inl h1
    · by_cases h2 : b = a ∧ (K.lookup a).isNone = true
      · exact .inr ⟨h2.1, Option.isNone_iff_eq_none.mp h2.2⟩
      · exact absurd ((if_neg h1).trans (if_neg h2)) h
  have sH : ∀ b u, H b = some u → b ∉ T → u = sc := fun b u e h1 => by
    have e2 : (if b = a ∧ (K.lookup a).isNone = true then some sc else none) = some u := (if_neg h1).symm.trans e
    by_cases h2 : b = a ∧ (K.lookup a).isNone = true
    · exact (Option.some.inj ((if_pos h2).symm.trans e2)).symm
    · cases (if_neg h2).symm.trans e2
  have seqA : SqL K H a (ns.map V.int) := by
    cases hk : K.lookup a with
    | some o =>
      have e := KX a o hk
      rw [ha] at e
      cases e
      exact .inr ⟨_, vs.toArray, _, hk, rfl, rfl, rfl, by rw [List.size_toArray, lenV]; exact hl, by simpa using rv⟩
    | none =>
      refine .inl (.inr ⟨{ cls := .type "list", data := .seq vs.toArray }, (if_neg naT).trans (if_pos ⟨rfl, ?_⟩)⟩)
      rw [hk]
      rfl
  have hok : HOk P w H s1.heap := fun b u e => by
    by_cases h1 : b ∈ T
    · have e2 := (HT b h1).symm.trans e
      cases e2
      exact oT b h1
    · have e3 := sH b u e h1
      have e4 : b = a := ((isH b (by rw [e]; simp)).resolve_left h1).1
      subst e3 e4
      exact ⟨ha, by rw [List.length_map]; exact hl, vs, _, rv, ha⟩
  -- what is of another kind is not tracked
  have off : ∀ {b : Addr} {o : Obj}, s1.heap.get? b = some o → (∀ z n, o.data ≠ .seq z n) → o.data ≠ .fields #[] → H b = none := fun {b o} e d1 d2 => by
    cases q : H b with
    | none => rfl
    | some u =>
      rcases isH b (by rw [q]; simp) with m | ⟨m, _⟩
      · rw [oT b m] at e
        cases e
        exact absurd rfl d2
      · rw [m, ha] at e
        cases e
        exact absurd rfl (d1 _ _)
  have offD : ∀ {b : Addr} {o : Obj} {es : Array DictEntry} {ep : Nat}, s1.heap.get? b = some o → o.data = .dict es ep → H b = none := fun {b o es ep} e d =>
    off e (fun z n q => by rw [d] at q; cases q) (fun q => by rw [d] at q; cases q)
  have nsB : ∀ {b : Addr} {m : Str → Option Value}, s1.heap.Ns b m → (hidT s1.heap H).Ns b m := fun {b m} ⟨o, es, ep, e, d, r⟩ => ⟨o, es, ep, hidT_get e (offD e d), d, r⟩
  have inB : K.In (hidT s1.heap H) := fun b o e => hidT_get (KX b o e) (by
    cases q : H b with
    | none => rfl
    | some u =>
      rcases isH b (by rw [q]; simp) with m | ⟨m, m2⟩
      · obtain ⟨r, hq, rfl⟩ := tT b m
        rw [(t1 r hq).2.1] at e
        cases e
      · rw [m, m2] at e
        cases e)
  have modB : Mod K mg (hidT s1.heap H) := ⟨inB, nsB hns, ⟨mb, nsB hb, hbb⟩, let ⟨mc, l1, l2⟩ := hlim; ⟨mc, nsB l1, l2⟩⟩
  have tabB : ∀ q ∈ ts, TabB (hidT s1.heap H) mg q.1 q.2 := fun q hq => by
    obtain ⟨oq, _, ⟨oc, us, fl, tf, fg, tg, nF, tx, tt, c1, c2, c3, c4, c5⟩⟩ := t1 q hq
    refine ⟨⟨oc, us, fl, tf, fg, tg, nF, tx, tt, hidT_get c1 (off c1 (fun z n d => by rw [c3] at d; cases d) fun d => ?_), c2, c3, c4, c5⟩, ?_, fun z => ?_⟩
    · rw [c3] at d
      cases d
      simp at c4
    · obtain ⟨m, om, b1, b2, b3, b4, b5, b6⟩ := hbm
      refine ⟨m, om, b1, b2, fun z => ?_, fun z => ?_, hidT_get b3 (off b3 (fun z n d => by rw [b6] at d; cases d) fun d => by rw [b6] at d; cases d), b4, b5, b6⟩
      · obtain ⟨o, es, ep, e, d, _⟩ := hns
        rw [z, e] at b3
        cases b3
        rw [d] at b6
        cases b6
      · rw [z, oq] at b3
        cases b3
        cases b6
    · obtain ⟨o, es, ep, e, d, _⟩ := hns
      rw [z, oq] at e
      cases e
      cases d
  have e0 : Env0 P w K mg (hidT s1.heap H) callerA [] s1 H :=
    ⟨rfl, modB, fun b o e => of_hidT e, Nat.le_of_eq (hidT_size _ _), trivial, fun b m => absurd (show b ∈ ([] : List Addr) from m) (by simp), hok, .of_eq hg⟩
  refine codeAny_mono ((F _ inB (nsB hns) tabB).run callerA [] s1 H ⟨[.ref a], []⟩ [.ref a] [.ref a] _ _ rfl hr e0 (hbind s1 (.ref a)) (.cons rfl .nil) (hsp H (fun q hq => HT _ (List.mem_map.mpr ⟨q, hq, rfl⟩)) seqA)) fun r s' h => ?_
  cases r with
  | error e => exact (hCX H e s' h).elim
  | ok fl =>
    cases fl with
    | next => exact False.elim h
    | brk => exact False.elim h
    | cont => exact False.elim h
    | ret u =>
      obtain ⟨v, H', os, bare, un, hok', r', q⟩ := h
      have qv : v = .bl true := q
      subst qv
      obtain rfl : u = Value.bool true := r'
      have stays : ∀ b o, b ∉ T → s1.heap.get? b = some o → s'.heap.get? b = some o := fun b o nb e => by
        cases q : H b with
        | none => exact un.keep b o e q (by intro z; exact absurd (show b ∈ ([] : List Addr) from z) (by simp)) (by simp)
        | some u =>
          have e3 := sH b u q nb
          subst e3
          have z2 := un.frzs b _ _ q
          obtain ⟨k1, _⟩ := hok b _ q
          obtain ⟨k2, _⟩ := hok' b _ z2
          rw [e] at k1
          cases k1
          exact k2
      have grows : ∀ b ∈ T, ∃ more : Array Value, s'.heap.get? b = some (PySem.W.tabObj more) := fun b m => by
        obtain ⟨more, z⟩ := un.tbls b #[] (HT b m)
        exact ⟨_, hok' b _ z⟩
      refine ⟨rfl, ⟨fun b o e => ?_, fun b o e => ?_⟩, os, bare⟩
      · by_cases m : b ∈ T
        · obtain ⟨q, hq, rfl⟩ := tT b m
          obtain ⟨more, hm⟩ := grows _ m
          obtain ⟨oq, _, cq⟩ := t1 q hq
          rw [oq] at e
          cases e
          exact .inr (.inl ⟨(cq.tab oq).isCodeTable, rfl, #[], more, rfl, by rw [Array.empty_append]; exact hm⟩)
        · exact .inl (stays b o m e)
      · by_cases m : b ∈ T
        · obtain ⟨more, hm⟩ := grows _ m
          exact ⟨_, hm⟩
        · exact ⟨o, stays b o m e⟩
/-- the walk of a law whose defs make lambdas -/
theorem walk_GT {l : PySem.W.OpenLaw} {n k : Nat} {q : Program} {loose : List Str} {XP : (Str → Option Value) → Heap → Prop} {YP : World → Heap → Prop} {d : DefRec} {K : Params → PySem.W.Frag} {sp : PySem.W.Frag → List (Addr × Addr) → Sp} {x : Str} {ts : List (Addr × Addr)}
    (hn : l.most = some n) (hn2 : n ≤ sizeLine) (hdf : d.params.defaults = []) (hr : Room k callerA)
    (hY : ∀ (w : World) (h : Heap), YP w h → (K w.params).In h) (hZ : ∀ (w : World) (h : Heap), YP w h → ∀ q ∈ ts, h.get? q.2 = some (PySem.W.tabObj #[]) ∧ (K w.params).lookup q.2 = none ∧ PySem.W.CodeHd h q.1 q.2)
    (F : ∀ (w : World) (mg : Str → Option Value) (fa : Addr) (h : Heap), (K w.params).In h → h.Ns mainGlobals mg → mg d.name = some (.ref fa) →
      ∃ fd : FuncData, (∀ (s : Shared) (u : Value), BindsTo s fd ⟨[u], []⟩ [(x, u)]) ∧
        ∀ base : Heap, (K w.params).In base → base.Ns mainGlobals mg → (∀ q ∈ ts, TabB base mg q.1 q.2) → FnG l.prog w (K w.params) mg base CX0 k fa fd [x] (sp (K w.params) ts))
    (hsp : ∀ (K : PySem.W.Frag) (H : Hp) (a : Addr) (ns : List Int), ns.length ≤ n → (∀ q ∈ ts, H q.2 = some (.tbl #[])) → SqL K H a (ns.map V.int) → sp K ts [.ref a] H (fun v _ => v = .bl true) fun _ _ _ => False) :
    PySem.W.WalkO q loose XP YP l.row.toRowW d [] (fun f vs => PySem.call f vs) := by
  refine Att.attach_call hn hdf fun w s₀ s1 mg mb fa o pm cd doc a vs ns G Y ho hd hcd hmg hobj hints hlen hg => ?_
  have KX := hY w _ Y
  have t1 := hZ w _ Y
  obtain ⟨fd, hb, hF⟩ := F w mg fa _ KX G.T.g hmg
  exact law_callGT KX G.T.g G.T.b G.T.builtins G.T.nolimit hg t1 G.T.bmain hobj hints (Nat.le_trans hlen hn2) hr hF hb (fun H hT hS => hsp (K w.params) H a ns hlen hT hS) fun _ _ _ z => z
end L2
namespace My
open PySem PySem.Spec PyProof.Rows L2 PySem.GX
def isRowL (x r : Str) : Bool := decide (r.length ≤ 1000) && r.cps.toList.all fun c => decide (c ∈ x.cps.toList)
/-- v is no row of the signs x -/
def NoRow (K : PySem.W.Frag) (H : Hp) (x : Str) (v : V) : Prop := (∃ r, v = .str r ∧ r.length ≤ 16000000 ∧ isRowL x r = false) ∨ ∃ ty, TyX K H v ty ∧ PySem.W.kitOne K ty (.type "str") = some false
end My
namespace My
open PySem PySem.Spec PyProof.Rows L2 PySem.GX L2H LamX
open Builtin.Str (reprChar)
theorem reps_list (c : Nat) : ∀ (n : Nat) (acc : Array Nat), ((List.replicate n #[c]).foldl (· ++ ·) acc).toList = acc.toList ++ List.replicate n c
  | 0, acc => by simp
  | n + 1, acc => by
    rw [List.replicate_succ, List.foldl_cons, reps_list c n, List.replicate_succ]
    simp
/-- one sign, so often -/
def manyS (c : Nat) : Str := ⟨(List.replicate 1001 c).toArray⟩
theorem op_mulS {X : Cx} : OpR X (binaryOp .Mult) (fun x y H Q => ∃ c : Nat, x = .str (sg c) ∧ y = .int 1001 ∧ Q (.str (manyS c)) H) := by
  intro pins s σ H x y v u Q I rx ry ⟨c, ex, ey, q⟩
  subst ex ey
  obtain ⟨t, rfl⟩ := rx
  obtain ⟨t', rfl⟩ := ry
  have e : Txt.mul (sg c) 1001 = manyS c := by
    unfold Txt.mul
    rw [if_neg (by decide), if_neg (by show ¬ ((1001 : Int) == 1 || (1 : Nat) == 0) = true; decide)]
    exact str_ext (by
      show ((List.replicate 1001 #[c]).foldl (· ++ ·) #[]).toList = _
      rw [reps_list]
      simp [manyS])
  refine SB.mul ⟨by decide, fun _ _ => ?_, fun _ _ => ?_⟩ fun t' k => ⟨.str (manyS c), H, I.tok _, ⟨t', by rw [e]⟩, q⟩
  · show ¬ ((1 : Int) > (2 ^ 63 - 1) / 1001)
    decide
  · show Builtin.Str.tooLong (1 * 1001) = false
    decide +kernel
/-- all but the tables and what is at p stays -/
def Kp (p : Addr) (H H' : Hp) : Prop := ∀ b o, b ≠ p → (∀ ps, o ≠ .tbl ps) → H b = some o → H' b = some o
theorem Kp.refl (p : Addr) (H : Hp) : Kp p H H := fun _ _ _ _ h => h
theorem Kp.trans {p : Addr} {H H1 H2 : Hp} (a : Kp p H H1) (b : Kp p H1 H2) : Kp p H H2 := fun c o n t h => b c o n t (a c o n t h)
theorem Kp.sb {p : Addr} {H H' : Hp} (s : Sb p H H') : Kp p H H' := fun b o n _ h => s b o n h
theorem Kp.of {p : Addr} {H H' : Hp} (s : Same H H') : Kp p H H' := fun b o _ _ h => s b o h
theorem Kp.ext {p : Addr} {H H' : Hp} (s : ExtN H H') : Kp p H H' := fun b o _ t h => s b o h t
theorem Tabs.sb_ {T : List (Addr × Str)} {p : Addr} {H H' : Hp} (t : Tabs T H) (w : Wl H p) (s : Sb p H H') : Tabs T H' := fun q hq => by
  obtain ⟨ps, h1, h2, h3⟩ := t q hq
  refine ⟨ps, s _ _ (w.ne h1 fun a b c z => by cases z) h1, h2, fun pos cv hc => ?_⟩
  obtain ⟨c, e1, e2⟩ := h3 pos cv hc
  exact ⟨c, e1, s _ _ (w.ne e2 fun a b c z => by cases z) e2⟩
theorem Wl.ext_ {H H' : Hp} {p : Addr} (w : Wl H p) (s : ExtN H H') : Wl H' p := by
  obtain ⟨w0, w1, w2, a0, a1, e⟩ := w
  exact ⟨w0, w1, w2, a0, a1, s _ _ e fun _ z => by cases z⟩
theorem call_reprLK {X : Cx} {K : PySem.W.Frag} (h : X.K = K) (hg : X.A.guards = some []) (hu : X.A.units + 64 < cLine) : CallR X (.builtin "repr") (rRepr K) := by subst h; exact call_reprL hg hu
def Low (y : Str) : Prop := ∀ c ∈ y.cps.toList, c < 256
theorem Low.app {a b : Str} (h1 : Low a) (h2 : Low b) : Low (a ++ b) := fun c hc => by
  rw [cps_app] at hc
  rcases List.mem_append.mp hc with m | m
  · exact h1 c m
  · exact h2 c m
theorem reprChar_low : ∀ c, c < 256 → ∀ q ∈ [39, 34], (reprChar q c).all (fun e => decide (e < 256)) = true := by decide +kernel
theorem fold_low (q : Nat) (hq : q ∈ [39, 34]) : ∀ (l : List Nat) (acc : Array Nat), (∀ c ∈ l, c < 256) → (∀ c ∈ acc.toList, c < 256) → ∀ c ∈ (l.foldl (fun out c => out ++ (reprChar q c).toArray) acc).toList, c < 256
  | [], acc, _, h => h
  | d :: r, acc, h1, h2 => by
    refine fold_low q hq r _ (fun c hc => h1 c (by simp [hc])) fun c hc => ?_
    simp only [Array.toList_append, List.mem_append] at hc
    rcases hc with m | m
    · exact h2 c m
    · exact of_decide_eq_true (List.all_eq_true.mp (reprChar_low d (h1 d (by simp)) q hq) c m)
theorem repr_low {x : Str} (h : Low x) : Low (reprText x) := fun c hc => by
  have hq : reprQuote x ∈ [39, 34] := by
    unfold reprQuote
    split <;> simp
  unfold reprText at hc
  simp only [Array.toList_push, List.mem_append, List.mem_singleton] at hc
  have q0 : reprQuote x < 256 := by
    simp only [List.mem_cons, List.not_mem_nil, or_false] at hq
    omega
  rcases hc with m | m
  · rw [← Array.foldl_toList] at m
    exact fold_low _ hq _ _ h (fun d hd => by
      have : d = reprQuote x := by simpa using hd
      rw [this]; exact q0) c m
  · rw [m]; exact q0
theorem repr_short {x : Str} (h : Low x) : (reprText x).length ≤ 10 * x.length + 2 := StrLaws.reprText_len x fun c hc => Nat.lt_trans (h c hc) (by decide)
/-- what repr(["row", d]) is asked for -/
structure Gd (d : PyData) : Prop where
  sh : PyData.showableAll [.str "row", d] = true
  ln : (PyData.list [.str "row", d]).shown.length ≤ sizeLine
  dp : (PyData.list [.str "row", d]).depth ≤ 60
  ok : PyData.strOk (PyData.list [.str "row", d]).shown = true
theorem menu_gd : ∀ d ∈ menu, Gd d := by
  have h : ∀ d ∈ menu, PyData.showableAll [.str "row", d] = true ∧ (PyData.list [.str "row", d]).shown.length ≤ sizeLine ∧ (PyData.list [.str "row", d]).depth ≤ 60 ∧ PyData.strOk (PyData.list [.str "row", d]).shown = true := by decide +kernel
  exact fun d hd => let ⟨a, b, c, e⟩ := h d hd; ⟨a, b, c, e⟩
theorem row_text (t : Str) : listText [reprText "row", t] = ("['row', " : Str) ++ t ++ "]" := by
  have e : textFrom 0 "[" [reprText "row", t] = ("['row', " : Str) ++ t := by
    show (("[" : Str) ++ ("" : Str) ++ reprText "row") ++ (", " : Str) ++ t = _
    have : (("[" : Str) ++ ("" : Str) ++ reprText "row") ++ (", " : Str) = "['row', " := by decide +kernel
    rw [this]
  unfold listText
  rw [e]
theorem gd_of {d : PyData} (h1 : d.showable = true) (h2 : d.shown.length ≤ 20000) (h3 : d.depth ≤ 50) (h4 : Low d.shown) : Gd d := by
  have e : (PyData.list [.str "row", d]).shown = ("['row', " : Str) ++ d.shown ++ "]" := by
    rw [← row_text]
    simp only [PyData.shown, PyData.shownAll]
  refine ⟨?_, ?_, ?_, ?_⟩
  · simp only [PyData.showableAll, PyData.showable, h1, Bool.and_self]
  · rw [e, len_app, len_app]
    have a : ("['row', " : Str).length = 8 := by decide +kernel
    have b : ("]" : Str).length = 1 := by decide +kernel
    rw [a, b, sizeLine_eq]
    omega
  · simp only [PyData.depth, PyData.depthAll]
    omega
  · rw [e]
    exact ok_low (Low.app (Low.app (by unfold Low; decide +kernel) h4) (by unfold Low; decide +kernel))
theorem gd_str {r : Str} (h : Low r) (hl : r.length ≤ 1100) : Gd (.str r) := by
  have := repr_short h
  refine gd_of (by simp only [PyData.showable]) ?_ (by simp only [PyData.depth]; omega) ?_
  · simp only [PyData.shown]
    omega
  · simp only [PyData.shown]
    exact repr_low h
theorem gd_list {r : Str} (h : Low r) (hl : r.length ≤ 1100) : Gd (.list [.str r]) := by
  have := repr_short h
  have e : (PyData.list [.str r]).shown = ("[" : Str) ++ reprText r ++ "]" := by
    simp only [PyData.shown, PyData.shownAll]
    unfold listText
    show (("[" : Str) ++ ("" : Str) ++ reprText r) ++ "]" = _
    have : ("[" : Str) ++ ("" : Str) = "[" := by decide +kernel
    rw [this]
  refine gd_of (by simp only [PyData.showable, PyData.showableAll, Bool.and_self]) ?_ (by simp only [PyData.depth, PyData.depthAll]; omega) ?_
  · rw [e, len_app, len_app]
    have a : ("[" : Str).length = 1 := by decide +kernel
    have b : ("]" : Str).length = 1 := by decide +kernel
    omega
  · rw [e]
    exact Low.app (Low.app (by unfold Low; decide +kernel) (repr_low h)) (by unfold Low; decide +kernel)
theorem gd_tup {r : Str} (h : Low r) (hl : r.length ≤ 1100) : Gd (.tuple [.str r]) := by
  have := repr_short h
  have e : (PyData.tuple [.str r]).shown = ("(" : Str) ++ reprText r ++ ",)" := by
    simp only [PyData.shown, PyData.shownAll]
    rfl
  refine gd_of (by simp only [PyData.showable, PyData.showableAll, Bool.and_self]) ?_ (by simp only [PyData.depth, PyData.depthAll]; omega) ?_
  · rw [e, len_app, len_app]
    have a : ("(" : Str).length = 1 := by decide +kernel
    have b : (",)" : Str).length = 2 := by decide +kernel
    omega
  · rw [e]
    exact Low.app (Low.app (by unfold Low; decide +kernel) (repr_low h)) (by unfold Low; decide +kernel)
mutual
theorem Sh.ext {K : PySem.W.Frag} {H H' : Hp} (s : ExtN H H') : ∀ {v : V} {d : PyData}, Sh K H v d → Sh K H' v d
  | _, _, .fl f => .fl f
  | _, _, .lst h t => .lst (by
      rcases h with (h | ⟨o, h⟩) | h
      · exact .inl (.inl (s _ _ h fun _ z => by cases z))
      · exact .inl (.inr ⟨o, s _ _ h fun _ z => by cases z⟩)
      · exact .inr h) (ShAll.ext s t)
  | _, _, .tup h t => .tup (by
      rcases h with (h | ⟨o, h⟩) | h
      · exact .inl (.inl (s _ _ h fun _ z => by cases z))
      · exact .inl (.inr ⟨o, s _ _ h fun _ z => by cases z⟩)
      · exact .inr h) (ShAll.ext s t)
  | _, _, .dic h a b => .dic (s _ _ h fun _ z => by cases z) a b
theorem ShAll.ext {K : PySem.W.Frag} {H H' : Hp} (s : ExtN H H') : ∀ {vs : List V} {ds : List PyData}, ShAll K H vs ds → ShAll K H' vs ds
  | _, _, .nil => .nil
  | _, _, .cons a b => .cons (Sh.ext s a) (ShAll.ext s b)
end
theorem Kp.cut {p : Addr} {H H' : Hp} (s : Kp p H H') : ExtN (del H p) (del H' p) := fun b o e t => by
  by_cases hb : b = p
  · rw [hb, del_same] at e; cases e
  · rw [del_ne hb] at e ⊢
    exact s b o hb t e
theorem ext_of_del {H : Hp} {p : Addr} : ExtN (del H p) H := fun b o e _ => by
  by_cases hb : b = p
  · rw [hb, del_same] at e; cases e
  · rw [del_ne hb] at e; exact e
theorem sb_of_del {p : Addr} {H H' : Hp} (s : Same (del H p) (del H' p)) : Sb p H H' := fun b o n e => by
  have := s b o (by rw [del_ne n]; exact e)
  rw [del_ne n] at this
  exact this
/-- a text, or of another type -/
theorem sh_ty {K : PySem.W.Frag} {H : Hp} {v : V} {d : PyData} (h : Sh K H v d) : (∃ r, v = .str r ∧ d = .str r) ∨ ∃ ty, TyX K H v ty ∧ PySem.W.kitOne K ty (.type "str") = some false := by
  cases h with
  | fl f =>
    cases f with
    | non => exact .inr ⟨_, .base .non, kit_ty (by decide +kernel)⟩
    | bl b => exact .inr ⟨_, .base (.bl b), kit_ty (by decide +kernel)⟩
    | int i => exact .inr ⟨_, .base (.int i), kit_ty (by decide +kernel)⟩
    | str x => exact .inl ⟨x, rfl, rfl⟩
  | lst h t =>
    rcases h with (h | ⟨o, h⟩) | ⟨o, its, n, hk, hc, _⟩
    · exact .inr ⟨_, .base (.lst h), kit_ty (by decide +kernel)⟩
    · exact .inr ⟨_, .base (.frz h), kit_ty (by decide +kernel)⟩
    · exact .inr ⟨_, .kList hk hc, kit_ty (by decide +kernel)⟩
  | tup h t =>
    rcases h with (h | ⟨o, h⟩) | ⟨o, its, n, hk, hc, _⟩
    · exact .inr ⟨_, .base (.tup h), kit_ty (by decide +kernel)⟩
    · exact .inr ⟨_, .fTuple h, kit_ty (by decide +kernel)⟩
    · exact .inr ⟨_, .kTuple hk hc, kit_ty (by decide +kernel)⟩
  | dic h a b => exact .inr ⟨_, .base (.dK h), kit_ty (by decide +kernel)⟩
theorem row_is {x r : Str} (h1 : r.length ≤ 1000) (h2 : ∀ c ∈ r.cps.toList, c ∈ x.cps.toList) : isRowL x r = true := by
  unfold isRowL
  rw [decide_eq_true h1, Bool.true_and]
  exact List.all_eq_true.mpr fun c hc => decide_eq_true (h2 c hc)
theorem cut_sub (r : Str) (lo hi : Option Int) : ∀ c ∈ (cutS r lo hi).cps.toList, c ∈ r.cps.toList := fun c hc => by
  unfold cutS at hc
  exact List.mem_of_mem_drop (List.mem_of_mem_take (by simpa using hc))
theorem many_low {c : Nat} (h : c < 256) : Low (manyS c) := fun d hd => by
  unfold manyS at hd
  have : d = c := by simpa using hd
  rw [this]; exact h
theorem many_len (c : Nat) : (manyS c).length = 1001 := by
  show ((List.replicate 1001 c).toArray).size = 1001
  rw [List.size_toArray, List.length_replicate]
theorem sg_low {c : Nat} (h : c < 256) : Low (sg c) := fun d hd => by
  have : d = c := by simpa using hd
  rw [this]; exact h
theorem menu_str (z : Str) (h : PyData.str z ∈ menu) : Low z ∧ z.length ≤ 1100 := by
  have a : ∀ d ∈ menu, (match d with | .str z => z.cps.toList.all (fun c => decide (c < 256)) && decide (z.length ≤ 1100) | _ => true) = true := by decide +kernel
  have b := a _ h
  simp only [Bool.and_eq_true] at b
  exact ⟨fun c hc => of_decide_eq_true (List.all_eq_true.mp b.1 c hc), of_decide_eq_true b.2⟩
theorem Tabs.off {T : List (Addr × Str)} {l : Addr} {H : Hp} {xs : List V} {o : HO} (t : Tabs T H) (e : H l = some (.lst xs)) : Tabs T (upd H l o) := fun q hq => by
  obtain ⟨ps, h1, h2, h3⟩ := t q hq
  refine ⟨ps, by rw [upd_ne (ne_of h1 e (by intro z; cases z))]; exact h1, h2, fun pos cv hc => ?_⟩
  obtain ⟨c, e1, e2⟩ := h3 pos cv hc
  exact ⟨c, e1, by rw [upd_ne (ne_of e2 e (by intro z; cases z))]; exact e2⟩
end My
namespace My
open PySem PySem.Spec PyProof.Rows L2 PySem.GX L2H
abbrev wd : List Str := ["text", "row", "kind", "number", "mood", "sign", "paper", "rule", "others", "many", "kept"]
abbrev cn : List Str := ["InvalidText", "InvalidRow", "InvalidKind", "InvalidNumber", "InvalidMood", "InvalidSign", "InvalidPaper", "NotARule", "OtherSigns", "TooMany", "Kept"]
/-- the lists at as hold pairs of a text and a bool -/
inductive Rp (H : Hp) : List Addr → List (Str × Bool) → Prop
  | nil : Rp H [] []
  | cons {a : Addr} {x : Str} {b : Bool} {as : List Addr} {rs : List (Str × Bool)} : H a = some (.lst [.str x, .bl b]) → Rp H as rs → Rp H (a :: as) ((x, b) :: rs)
theorem Rp.same {H H' : Hp} (s : Same H H') : ∀ {as : List Addr} {rs : List (Str × Bool)}, Rp H as rs → Rp H' as rs
  | _, _, .nil => .nil
  | _, _, .cons e t => .cons (s _ _ e) (Rp.same s t)
theorem Rp.len {H : Hp} : ∀ {as : List Addr} {rs : List (Str × Bool)}, Rp H as rs → as.length = rs.length
  | _, _, .nil => rfl
  | _, _, .cons _ t => by simp [Rp.len t]
theorem Rp.app {H : Hp} : ∀ {as bs : List Addr} {rs us : List (Str × Bool)}, Rp H as rs → Rp H bs us → Rp H (as ++ bs) (rs ++ us)
  | _, _, _, _, .nil, t => t
  | _, _, _, _, .cons e r, t => .cons e (Rp.app r t)
theorem Rp.get {H : Hp} : ∀ {as : List Addr} {rs : List (Str × Bool)} {i : Nat} {a : Addr} {r : Str × Bool}, Rp H as rs → as[i]? = some a → rs[i]? = some r → H a = some (.lst [.str r.1, .bl r.2])
  | _, _, _, _, _, .nil, e, _ => by simp at e
  | _, _, 0, _, _, .cons e _, e1, e2 => by simp at e1 e2; subst e1; subst e2; exact e
  | _, _, i + 1, a, r, .cons _ t, e1, e2 => Rp.get (i := i) t (by simpa using e1) (by simpa using e2)
/-- the list l holds such pairs; what stood in H0 stands -/
structure Sp2 (H0 H : Hp) (l : Addr) (rs : List (Str × Bool)) : Prop where
  sm : Same H0 H
  ex : ∃ as : List Addr, H l = some (.lst (as.map V.ref)) ∧ Rp H as rs
theorem sp2_new {H0 H : Hp} {q1 q2 l : Addr} {x1 x2 : Str} {b1 b2 : Bool} (s : Same H0 H) (h1 : H q1 = none) (h2 : upd H q1 (.lst [.str x1, .bl b1]) q2 = none) (h3 : upd (upd H q1 (.lst [.str x1, .bl b1])) q2 (.lst [.str x2, .bl b2]) l = none) :
    Sp2 H0 (upd (upd (upd H q1 (.lst [.str x1, .bl b1])) q2 (.lst [.str x2, .bl b2])) l (.lst [.ref q1, .ref q2])) l [(x1, b1), (x2, b2)] :=
  ⟨((s.trans (same_new h1)).trans (same_new h2)).trans (same_new h3), [q1, q2], upd_same, .cons (keep1 (keep1 upd_same h2) h3) (.cons (keep1 upd_same h3) .nil)⟩
theorem sp2_cat {H0 H H' : Hp} {l l2 l3 : Addr} {rs us : List (Str × Bool)} {as bs : List Addr} (s : Same H H') (h : Same H0 H) (el : H l = some (.lst (as.map V.ref))) (ra : Rp H as rs) (e2 : H' l2 = some (.lst (bs.map V.ref))) (rb : Rp H' bs us) (h3 : H' l3 = none) :
    Sp2 H0 (upd H' l3 (.lst (as.map V.ref ++ bs.map V.ref))) l3 (rs ++ us) :=
  ⟨(h.trans s).trans (same_new h3), as ++ bs, by rw [upd_same, List.map_append], ((ra.same s).app rb).same (same_new h3)⟩
theorem sp2_step {H0 H : Hp} {l q1 q2 l2 l3 : Addr} {rs : List (Str × Bool)} {as : List Addr} {x1 x2 : Str} {b1 b2 : Bool} (s0 : Same H0 H) (el : H l = some (.lst (as.map V.ref))) (ra : Rp H as rs) (h1 : H q1 = none) (h2 : upd H q1 (.lst [.str x1, .bl b1]) q2 = none)
    (h3 : upd (upd H q1 (.lst [.str x1, .bl b1])) q2 (.lst [.str x2, .bl b2]) l2 = none) (h4 : upd (upd (upd H q1 (.lst [.str x1, .bl b1])) q2 (.lst [.str x2, .bl b2])) l2 (.lst [.ref q1, .ref q2]) l3 = none) :
    Sp2 H0 (upd (upd (upd (upd H q1 (.lst [.str x1, .bl b1])) q2 (.lst [.str x2, .bl b2])) l2 (.lst [.ref q1, .ref q2])) l3 (.lst (as.map V.ref ++ [.ref q1, .ref q2]))) l3 (rs ++ [(x1, b1), (x2, b2)]) :=
  sp2_cat (bs := [q1, q2]) (((same_new h1).trans (same_new h2)).trans (same_new h3)) s0 el ra upd_same (.cons (keep1 (keep1 upd_same h2) h3) (.cons (keep1 upd_same h3) .nil)) h4
def spClass (p : Addr × Obj) (d : Addr) (i : Nat) : Sp := fun vs H Q _ => ∃ fs : List (Str × V), vs = [.ref p.1] ∧ H d = some (exd d fs) ∧ ∀ H', Same H H' → Q (.str (wd.getD i Str.empty)) H'
theorem class_one : ∀ i, i < 11 → ([("text", decide (0 = i)), ("row", decide (1 = i)), ("kind", decide (2 = i)), ("number", decide (3 = i)), ("mood", decide (4 = i)), ("sign", decide (5 = i)), ("paper", decide (6 = i)), ("rule", decide (7 = i)), ("others", decide (8 = i)), ("many", decide (9 = i)), ("kept", decide (10 = i))] : List (Str × Bool)).filterMap (fun r => if r.2 = true then some r.1 else none) = [wd.getD i Str.empty] := by decide +kernel
section
variable {P : Program} {w : World} {K : PySem.W.Frag} {mg : Str → Option Value} {base : Heap} {p : Addr × Obj} {C d : Addr} {c : Nat → Addr} {i : Nat}
abbrev nClass : List Str := ["_law_e", "_law_sorts", "_law_found", "_law_word_here", "_law_fits_here"]
theorem scClass : FnScope nClass ["_law_e"] (defScope sClass) := ⟨rfl, rfl, rfl, by decide +kernel, rfl, by decide +kernel, by decide +kernel⟩
theorem ok_class {f : Addr} {fd : FuncData} (F : Fun K "_law_class" "_law_class" sClass f fd) (hp : PIs p C d) (T : ExcC K C) (hi : i < 11) (gc : ∀ j, j < 11 → mg (cn.getD j Str.empty) = some (.ref (c j))) (kits : ∀ j, j < 11 → PySem.W.kitOne K (.ref C) (.ref (c j)) = some (decide (j = i)))
    (hIs : mg "isinstance" = none) (hL : mg "len" = none) : FnE p P w K mg base 1 f fd ["_law_e"] (spClass p d i) := by
  refine F.okE scClass (fun vs H Q E h => ?_) (fun cdv A outer s H vs Q E hot hr h => ?_)
  · obtain ⟨fs, rfl, _⟩ := h
    rfl
  · obtain ⟨fs, rfl, hd, k⟩ := h
    have hb : Hb (cxH CX0 P w K mg base nClass "_law_class" (defScope sClass) f cdv A outer s H E p) p := Hb.of_pn hot.1 hot.2 (List.mem_singleton.mpr rfl)
    refine ⟨_, pss_cons (ps_set (i := 1) scClass.nd rfl (Or.inl rfl) (pe_lst (pa_cons (pe_lst (pa_cons pe_str (pa_cons (pe_callB (call_isP hb hp T) (by rfl) hIs (by decide +kernel) (pa_cons (pv 0) (pa_cons (pe_glob (v := .ref (c 0)) rfl (gc 0 (by decide)) rfl) pa_nil))) pa_nil)))
          (pa_cons (pe_lst (pa_cons pe_str (pa_cons (pe_callB (call_isP hb hp T) (by rfl) hIs (by decide +kernel) (pa_cons (pv 0) (pa_cons (pe_glob (v := .ref (c 1)) rfl (gc 1 (by decide)) rfl) pa_nil))) pa_nil))) pa_nil))))
      (pss_cons (ps_set (i := 1) scClass.nd rfl (Or.inl rfl) (pe_op op_cat (pv 1) (pe_lst (pa_cons (pe_lst (pa_cons pe_str (pa_cons (pe_callB (call_isP hb hp T) (by rfl) hIs (by decide +kernel) (pa_cons (pv 0) (pa_cons (pe_glob (v := .ref (c 2)) rfl (gc 2 (by decide)) rfl) pa_nil))) pa_nil)))
          (pa_cons (pe_lst (pa_cons pe_str (pa_cons (pe_callB (call_isP hb hp T) (by rfl) hIs (by decide +kernel) (pa_cons (pv 0) (pa_cons (pe_glob (v := .ref (c 3)) rfl (gc 3 (by decide)) rfl) pa_nil))) pa_nil))) pa_nil)))))
      (pss_cons (ps_set (i := 1) scClass.nd rfl (Or.inl rfl) (pe_op op_cat (pv 1) (pe_lst (pa_cons (pe_lst (pa_cons pe_str (pa_cons (pe_callB (call_isP hb hp T) (by rfl) hIs (by decide +kernel) (pa_cons (pv 0) (pa_cons (pe_glob (v := .ref (c 4)) rfl (gc 4 (by decide)) rfl) pa_nil))) pa_nil)))
          (pa_cons (pe_lst (pa_cons pe_str (pa_cons (pe_callB (call_isP hb hp T) (by rfl) hIs (by decide +kernel) (pa_cons (pv 0) (pa_cons (pe_glob (v := .ref (c 5)) rfl (gc 5 (by decide)) rfl) pa_nil))) pa_nil))) pa_nil)))))
      (pss_cons (ps_set (i := 1) scClass.nd rfl (Or.inl rfl) (pe_op op_cat (pv 1) (pe_lst (pa_cons (pe_lst (pa_cons pe_str (pa_cons (pe_callB (call_isP hb hp T) (by rfl) hIs (by decide +kernel) (pa_cons (pv 0) (pa_cons (pe_glob (v := .ref (c 6)) rfl (gc 6 (by decide)) rfl) pa_nil))) pa_nil)))
          (pa_cons (pe_lst (pa_cons pe_str (pa_cons (pe_callB (call_isP hb hp T) (by rfl) hIs (by decide +kernel) (pa_cons (pv 0) (pa_cons (pe_glob (v := .ref (c 7)) rfl (gc 7 (by decide)) rfl) pa_nil))) pa_nil))) pa_nil)))))
      (pss_cons (ps_set (i := 1) scClass.nd rfl (Or.inl rfl) (pe_op op_cat (pv 1) (pe_lst (pa_cons (pe_lst (pa_cons pe_str (pa_cons (pe_callB (call_isP hb hp T) (by rfl) hIs (by decide +kernel) (pa_cons (pv 0) (pa_cons (pe_glob (v := .ref (c 8)) rfl (gc 8 (by decide)) rfl) pa_nil))) pa_nil)))
          (pa_cons (pe_lst (pa_cons pe_str (pa_cons (pe_callB (call_isP hb hp T) (by rfl) hIs (by decide +kernel) (pa_cons (pv 0) (pa_cons (pe_glob (v := .ref (c 9)) rfl (gc 9 (by decide)) rfl) pa_nil))) pa_nil)))
          (pa_cons (pe_lst (pa_cons pe_str (pa_cons (pe_callB (call_isP hb hp T) (by rfl) hIs (by decide +kernel) (pa_cons (pv 0) (pa_cons (pe_glob (v := .ref (c 10)) rfl (gc 10 (by decide)) rfl) pa_nil))) pa_nil))) pa_nil))))))
      (pss_cons (ps_setLcE (i := 2) (own := [("_law_word_here", 3), ("_law_fits_here", 4)]) (g := gUnl K 2 (gCons (gName 3) (gCons (gName 4) gNil))) (List.mem_singleton.mpr rfl) hb scClass.nd rfl rfl (sw_true rfl rfl rfl (by decide +kernel)) (pv 1)
          (blkOk_by (N := nClass) (sc := defScope sClass) (by decide +kernel)) (fun _ _ _ _ _ hbb => pg_unlE rfl hbb (pgs_cons (pg_name (i := 3) scClass.nd rfl (Or.inl rfl)) (pgs_cons (pg_name (i := 4) scClass.nd rfl (Or.inl rfl)) pgs_nil)))
          (fun _ _ _ _ _ => pts_one (pt_val (pv 4))) (fun _ _ _ _ _ => pv 3))
      (pss_one (ps_ret (pe_ifExp (pt_cmpR op_eq (pe_callB call_len_seq (by rfl) hL PySem.boot_len (pa_cons (pv 2) pa_nil)) pe_int (nomark _)) (pe_ix ix_list (pv 2) pe_int (fun _ _ => rfl)) pe_str)))))))), ?_⟩
    have two : 2 ≤ sizeLine := by decide
    have three : 3 ≤ sizeLine := by decide
    refine ⟨_, rfl, .ref (c 0), .ref (c 0), decide (0 = i), fs, rfl, hd, .own _, kits 0 (by decide), two, fun q1 h1 => ?_⟩
    refine ⟨_, rfl, .ref (c 1), .ref (c 1), decide (1 = i), fs, rfl, keep1 hd h1, .own _, kits 1 (by decide), two, fun q2 h2 => ⟨two, fun l1 h3 => ?_⟩⟩
    have S := sp2_new (x1 := "text") (x2 := "row") (b1 := decide (0 = i)) (b2 := decide (1 = i)) (Same.refl H) h1 h2 h3
    generalize upd (upd (upd H q1 _) q2 _) l1 _ = H1 at S ⊢
    clear h1 h2 h3
    obtain ⟨s1, as1, el1, ra1⟩ := S
    refine ⟨_, rfl, _, rfl, .ref (c 2), .ref (c 2), decide (2 = i), fs, rfl, s1 _ _ hd, .own _, kits 2 (by decide), two, fun q1 h1 => ?_⟩
    refine ⟨_, rfl, .ref (c 3), .ref (c 3), decide (3 = i), fs, rfl, keep1 (s1 _ _ hd) h1, .own _, kits 3 (by decide), two, fun q2 h2 => ⟨two, fun m1 h3 => ?_⟩⟩
    refine ⟨l1, m1, _, _, rfl, rfl, keep1 (keep1 (keep1 el1 h1) h2) h3, upd_same, ?_, fun l2 h4 => ?_⟩
    · have z := ra1.len
      rw [List.length_map, sizeLine_eq]
      simp only [List.length_cons, List.length_append, List.length_nil] at z ⊢
      omega
    have S := sp2_step (x1 := "kind") (x2 := "number") (b1 := decide (2 = i)) (b2 := decide (3 = i)) s1 el1 ra1 h1 h2 h3 h4
    generalize upd (upd (upd (upd H1 q1 _) q2 _) m1 _) l2 _ = H2 at S ⊢
    clear h1 h2 h3 h4 el1 ra1
    obtain ⟨s2, as2, el2, ra2⟩ := S
    refine ⟨_, rfl, _, rfl, .ref (c 4), .ref (c 4), decide (4 = i), fs, rfl, s2 _ _ hd, .own _, kits 4 (by decide), two, fun q1 h1 => ?_⟩
    refine ⟨_, rfl, .ref (c 5), .ref (c 5), decide (5 = i), fs, rfl, keep1 (s2 _ _ hd) h1, .own _, kits 5 (by decide), two, fun q2 h2 => ⟨two, fun m1 h3 => ?_⟩⟩
    refine ⟨l2, m1, _, _, rfl, rfl, keep1 (keep1 (keep1 el2 h1) h2) h3, upd_same, ?_, fun l3 h4 => ?_⟩
    · have z := ra2.len
      rw [List.length_map, sizeLine_eq]
      simp only [List.length_cons, List.length_append, List.length_nil] at z ⊢
      omega
    have S := sp2_step (x1 := "mood") (x2 := "sign") (b1 := decide (4 = i)) (b2 := decide (5 = i)) s2 el2 ra2 h1 h2 h3 h4
    generalize upd (upd (upd (upd H2 q1 _) q2 _) m1 _) l3 _ = H3 at S ⊢
    clear h1 h2 h3 h4 el2 ra2
    obtain ⟨s3, as3, el3, ra3⟩ := S
    refine ⟨_, rfl, _, rfl, .ref (c 6), .ref (c 6), decide (6 = i), fs, rfl, s3 _ _ hd, .own _, kits 6 (by decide), two, fun q1 h1 => ?_⟩
    refine ⟨_, rfl, .ref (c 7), .ref (c 7), decide (7 = i), fs, rfl, keep1 (s3 _ _ hd) h1, .own _, kits 7 (by decide), two, fun q2 h2 => ⟨two, fun m1 h3 => ?_⟩⟩
    refine ⟨l3, m1, _, _, rfl, rfl, keep1 (keep1 (keep1 el3 h1) h2) h3, upd_same, ?_, fun l4 h4 => ?_⟩
    · have z := ra3.len
      rw [List.length_map, sizeLine_eq]
      simp only [List.length_cons, List.length_append, List.length_nil] at z ⊢
      omega
    have S := sp2_step (x1 := "paper") (x2 := "rule") (b1 := decide (6 = i)) (b2 := decide (7 = i)) s3 el3 ra3 h1 h2 h3 h4
    generalize upd (upd (upd (upd H3 q1 _) q2 _) m1 _) l4 _ = H4 at S ⊢
    clear h1 h2 h3 h4 el3 ra3
    obtain ⟨s4, as4, el4, ra4⟩ := S
    refine ⟨_, rfl, _, rfl, .ref (c 8), .ref (c 8), decide (8 = i), fs, rfl, s4 _ _ hd, .own _, kits 8 (by decide), two, fun q1 h1 => ?_⟩
    refine ⟨_, rfl, .ref (c 9), .ref (c 9), decide (9 = i), fs, rfl, keep1 (s4 _ _ hd) h1, .own _, kits 9 (by decide), two, fun q2 h2 => ?_⟩
    refine ⟨_, rfl, .ref (c 10), .ref (c 10), decide (10 = i), fs, rfl, keep1 (keep1 (s4 _ _ hd) h1) h2, .own _, kits 10 (by decide), two, fun q3 h3 => ⟨three, fun m1 h4 => ?_⟩⟩
    refine ⟨l4, m1, _, _, rfl, rfl, keep1 (keep1 (keep1 (keep1 el4 h1) h2) h3) h4, upd_same, ?_, fun l5 h5 => ?_⟩
    · have z := ra4.len
      rw [List.length_map, sizeLine_eq]
      simp only [List.length_cons, List.length_append, List.length_nil] at z ⊢
      omega
    have S : Sp2 H (upd (upd (upd (upd (upd H4 q1 (.lst [.str "others", .bl (decide (8 = i))])) q2 (.lst [.str "many", .bl (decide (9 = i))])) q3 (.lst [.str "kept", .bl (decide (10 = i))])) m1 (.lst [.ref q1, .ref q2, .ref q3])) l5 (.lst (as4.map V.ref ++ [.ref q1, .ref q2, .ref q3]))) l5 _ :=
      sp2_cat (bs := [q1, q2, q3]) (us := [("others", decide (8 = i)), ("many", decide (9 = i)), ("kept", decide (10 = i))]) ((((same_new h1).trans (same_new h2)).trans (same_new h3)).trans (same_new h4)) s4 el4 ra4 upd_same (.cons (keep1 (keep1 (keep1 upd_same h2) h3) h4) (.cons (keep1 (keep1 upd_same h3) h4) (.cons (keep1 upd_same h4) .nil))) h5
    generalize upd (upd (upd (upd (upd H4 q1 _) q2 _) q3 _) m1 _) l5 _ = H5 at S ⊢
    clear h1 h2 h3 h4 h5 el4 ra4
    obtain ⟨s5, as5, el5, ra5⟩ := S
    generalize eR : ([("text", decide (0 = i)), ("row", decide (1 = i))] : List (Str × Bool)) ++ ([("kind", decide (2 = i)), ("number", decide (3 = i))] : List (Str × Bool)) ++ ([("mood", decide (4 = i)), ("sign", decide (5 = i))] : List (Str × Bool)) ++ ([("paper", decide (6 = i)), ("rule", decide (7 = i))] : List (Str × Bool)) ++ ([("others", decide (8 = i)), ("many", decide (9 = i)), ("kept", decide (10 = i))] : List (Str × Bool)) = rs at ra5
    have one : rs.filterMap (fun r => if r.2 = true then some r.1 else none) = [wd.getD i Str.empty] := by
      rw [← eR]
      exact class_one i hi
    have len11 : rs.length = 11 := by rw [← eR]; rfl
    clear eR
    refine ⟨_, rfl, l5, rfl, ⟨_, SqL.of el5⟩, fun D hD => ?_⟩
    refine lcG (as5.zip rs) (fun ar => if ar.2.2 = true then some (V.str ar.2.1) else none) (by rw [List.length_zip, ← ra5.len, Nat.min_self]; exact walk_listL as5 V.ref) (by rw [List.length_zip]; omega) hD (yat_same _) (fun H' s => SqL.of (s _ _ el5)) (fun j ar y H' H'' k1 hz sz hy k2 => ?_) (fun H6 s6 e6 => ?_)
    · obtain ⟨rfl, hy⟩ := hy
      rw [List.getElem?_zip_eq_some] at hz
      obtain rfl := map_get hz.1 hy
      have hrow := sz _ _ (ra5.get hz.1 hz.2)
      have kk := k2 _ (Same.refl _)
      refine ⟨ar.1, _, rfl, SqL.of hrow, rfl, _, _, rfl, _, _, rfl, rfl, rfl, _, rfl, _, rfl, ite2 (fun c => ?_) (fun c => ?_)⟩
      · rw [if_pos c] at kk
        exact ⟨_, rfl, kk⟩
      · rw [if_neg c] at kk
        exact kk
    have ez : (as5.zip rs).filterMap (fun ar => if ar.2.2 = true then some (V.str ar.2.1) else none) = [V.str (wd.getD i Str.empty)] := by
      have h1 : (as5.zip rs).map Prod.snd = rs := List.map_snd_zip (by rw [ra5.len]; exact Nat.le_refl _)
      have h2 : (as5.zip rs).filterMap (fun ar => if ar.2.2 = true then some (V.str ar.2.1) else none) = (((as5.zip rs).map Prod.snd).filterMap (fun r => if r.2 = true then some r.1 else none)).map V.str := by
        rw [List.filterMap_map, List.map_filterMap]
        congr 1
        funext ar
        by_cases hc : ar.2.2 = true
        · simp [hc]
        · simp [hc]
      rw [h2, h1, one]
      rfl
    rw [ez] at e6
    refine ⟨_, rfl, D, _, rfl, .inl (SqL.of e6), rfl, _, rfl, ite2 (fun cc => ?_) (fun cc => absurd (decide_eq_true rfl) cc)⟩
    exact ⟨_, rfl, D, _, _, _, rfl, rfl, SqL.of e6, atI_nat (j := 0) rfl, k _ (s5.trans s6)⟩
end
end My
namespace L2
open PySem PySem.Spec PyProof.Rows PySem.GX
/-! a set comprehension whose members are texts -/
theorem addT {P : Program} {w : World} {A : Around} {E : Value → Shared → Prop} {s : Shared} {a : Addr} {ys : List Str} {k : Str} {tk : Tok} {Q : Value → Shared → Prop} (R : SetT w s.heap a ys) (room : ys.length + 1 < scanBound)
    (done : ∀ h', Heap.SameBut a s.heap h' → SetT w h' a (ins ys k) → Q .none { s with heap := h', toks := s.toks + 1 }) : wpAny (model P w) A (call (.builtin "set.add") [.ref a, .str k tk]) Q E s := by
  have ty : s.TypeIs (.ref a) "set" := by
    obtain ⟨o, _, _, _, ho, hex, _⟩ := R
    exact ⟨o, ho, hex.1⟩
  refine wpAny_call_entry PySem.F.slot_set_add ty PySem.F.entry_set_add ?_ (PySem.F.args_set_add_2 (.ref a) (.str k tk))
  unfold Builtin.«set.add» Builtin.Frozenset.oneOther Builtin.Frozenset.addrOf setAdd
  simp only [bind_assoc, List.isEmpty_nil]
  refine wpAny_bind (wpAny_pure ?_)
  try dsimp only
  refine wpAny_bind (wpAny_pure ?_)
  try dsimp only
  refine wpAny_bind (wpAny_holding ?_)
  refine wpAny_bind ((PySem.strKind P w).pyHash (k := k) (strKind_is P w k tk) ?_)
  refine setT_add (s := { s with toks := s.toks + 1 }) R room fun b h' sb r => ?_
  show wpAny _ _ (ret Value.none) _ _ _
  exact wpAny_pure ⟨_, rfl, done h' sb r⟩
/-- D is the new set -/
def tScT (w : World) (wi : TI) (g : TG) (tt : TT) (te : TE) (vs : List Nat) : TE := fun σ H Q => wi σ H fun J H1 => ∀ D, H1 D = none → ∃ W : Nat → Nat → Hp → Prop, (∃ m, W 0 m (upd H1 D (SetTx w D []))) ∧ ∀ i m H, W i m H →
  (J.stop i H ∧ Q (.ref D) H) ∨ (J.go i H ∧ ∃ On : Hp → Prop, (∀ H', On H' → ∃ m', m' < m ∧ W (i + 1) m' H') ∧ ∀ x H', J.yld i H x H' → g x (wipe σ vs) H' fun σ2 H2 => wipe σ2 vs = wipe σ vs ∧ tt σ2 H2 fun b H3 =>
    if b = true then te σ2 H3 fun y H4 => ∃ ys k, y = .str k ∧ H4 D = some (SetTx w D ys) ∧ ys.length + 1 < scanBound ∧ On (upd H4 D (SetTx w D (ins ys k))) else On H3)
section
variable {X : Cx} {ex tg iter : Expr} {ifs : List Expr} {scope : Scope} {own : List (Str × Nat)} {pos : Pos} {wi : TI} {g : TG} {tt : TT} {te : TE}
theorem pe_scT (calm : X.calm = true) (hN : X.N.Nodup) (hi : PI X tg iter wi) (ok : BlkOk X.N X.env.scope scope own)
    (hg : ∀ (s : Shared) (H : Hp) (C : Addr) (cl : List (Str × Addr)) (fp : List Addr), PG (X.blk s H scope (compEnvC scope cl C X.env) fp) tg g)
    (ht : ∀ (s : Shared) (H : Hp) (C : Addr) (cl : List (Str × Addr)) (fp : List Addr), PTs (X.blk s H scope (compEnvC scope cl C X.env) fp) ifs tt)
    (hk : ∀ (s : Shared) (H : Hp) (C : Addr) (cl : List (Str × Addr)) (fp : List Addr), PE (X.blk s H scope (compEnvC scope cl C X.env) fp) ex te)
    (hs : ∀ x, foldedSetIterable iter X.env x = pure x := by intro _; rfl) :
    PE X (.SetComp ex [⟨tg, iter, ifs, 0⟩] scope pos) (tScT X.w wi g tt te (own.map (·.2))) := by
  refine ⟨fun pl s σ H Q I h => ?_⟩
  rw [PpSet.eval_SetComp]
  have frees : ∀ y ∈ scope.names, y.2 = .free → ∃ c, X.env.cells.lookup y.1 = some c := fun y hy e => by
    rcases ok.free y hy e with k | k
    · exact I.ok.has _ (.inl k)
    · exact I.ok.has _ (.inr k)
  refine wpAny_comprehension_free rfl hs (closure_ok frees) ok.kind (fun y hy e => by rw [ok.uniq y hy, e]) (thn (hi.run pl s σ H _ I h) fun _ sa ha => thn ha fun _ sb hb => ?_)
  obtain ⟨it, fp, tn, J, Hb, rfl, Ib, T, tb, okb, want⟩ := hb
  refine PpSet.newSet_ok (newEnv_comp ?_)
  -- the new set
  generalize eD : sb.heap.objs.size = D
  have freeD : Hb D = none := Ib.hok.fresh (Nat.le_of_eq eD)
  obtain ⟨W, ⟨m0, begins⟩, turn⟩ := want D freeD
  generalize esc : ({ sb with heap := sb.heap.push (L2.newSet X.w) } : Shared) = sc
  have hsc : sc.heap = sb.heap.push (L2.newSet X.w) := by rw [← esc]
  have Ic : Inv X pl σ (upd Hb D (SetTx X.w D [])) sc := by
    rw [← esc]
    refine Ib.laid (t' := sb.toks) (fun b o e => Heap.get?_push_of_some _ e) (Nat.le_of_eq eD) ?_
    rw [← eD]
    exact setTx_new (setT_fresh X.w)
  have old : ∀ b ∈ fp, b < sb.heap.objs.size := fun b hb => by
    obtain ⟨o, e, _⟩ := T.obj _ _ tb b hb
    exact Heap.lt_size e
  have okc : ∀ b ∈ fp, FpOk X pl (upd Hb D (SetTx X.w D [])) b ∧ b < sc.heap.objs.size := fun b hb => by
    have lt := old b hb
    refine ⟨⟨?_, (okb b hb).2⟩, ?_⟩
    · rw [upd_ne (by rw [← eD]; exact Nat.ne_of_lt lt)]
      exact (okb b hb).1
    · rw [hsc, Heap.size_push]
      exact Nat.lt_succ_of_lt lt
  have tc : tn 0 sc.heap := T.keep _ _ _ tb fun b _ o e => by
    rw [hsc]
    exact Heap.get?_push_of_some _ e
  -- the block
  have Id := block_start Ic ok hN okc
  have g1 := hg sc (upd Hb D (SetTx X.w D [])) sc.heap.objs.size (cellsFrom (sc.heap.objs.size + 1) scope.names (cloFrom X.env.cells scope.names [])) fp
  have g2 := ht sc (upd Hb D (SetTx X.w D [])) sc.heap.objs.size (cellsFrom (sc.heap.objs.size + 1) scope.names (cloFrom X.env.cells scope.names [])) fp
  have g3 := hk sc (upd Hb D (SetTx X.w D [])) sc.heap.objs.size (cellsFrom (sc.heap.objs.size + 1) scope.names (cloFrom X.env.cells scope.names [])) fp
  show codeAny _ _ (.compStart (.SetComp ex [⟨tg, iter, ifs, 0⟩] scope pos) 0 (.ref it) (.ref D) (compEnvC scope (cellsFrom (sc.heap.objs.size + 1) scope.names (cloFrom X.env.cells scope.names [])) sc.heap.objs.size X.env)) _
    { sc with heap := pushCells (sc.heap.push { cls := .type "dict", data := .dict #[] }) scope.names }
  have hid : ∀ b ∈ fp, (upd Hb D (SetTx X.w D [])) b = none := fun b hb => (okc b hb).1.1
  generalize eenv : compEnvC scope (cellsFrom (sc.heap.objs.size + 1) scope.names (cloFrom X.env.cells scope.names [])) sc.heap.objs.size X.env = env at Id g1 g2 g3 ⊢
  have eloc : env.locals = sc.heap.objs.size := by subst eenv; rfl
  generalize eHc : upd Hb D (SetTx X.w D []) = Hc at Ic Id g1 g2 g3 begins hid okc
  generalize esd : ({ sc with heap := pushCells (sc.heap.push { cls := .type "dict", data := .dict #[] }) scope.names } : Shared) = sd at Id ⊢
  have td : tn 0 sd.heap := T.keep _ _ _ tc fun b _ o e => by
    rw [← esd]
    exact pushCells_keeps _ _ _ _ (Heap.get?_push_of_some _ e)
  have fpOk : ∀ {σ' : St} {H' : Hp} {s' : Shared}, Inv (X.blk sc Hc scope env fp) [] σ' H' s' → (∀ b ∈ fp, H' b = none) → ∀ b ∈ fp, FpOk (X.blk sc Hc scope env fp) [] H' b := fun {σ' H' s'} I' free b hb => by
    refine ⟨free b hb, (I'.ok.exf b hb).1, I'.ok.exfs b hb, .inl hb, fun x c e => (I'.ok.exf b hb).2 x c e, fun p hp => ?_⟩
    exact absurd (show p ∈ ([] : List (Addr × Obj)) ++ [] from hp) (by simp)
  refine PpSet.codeAny_compStart_set ?lp (T.self X.A 0 _ _ _ td ?lp)
  refine PpSet.compLoopS_any (fun n s' => ∃ i H', Inv (X.blk sc Hc scope env fp) [] (wipe σ (own.map (·.2))) H' s' ∧ tn i s'.heap ∧ (∀ b ∈ fp, H' b = none) ∧ W i n H') ?_ m0 ⟨0, Hc, Id, td, hid, begins⟩
  rintro n se ⟨i, He, Ie, te, free, at_⟩
  rcases turn i n He at_ with ⟨stop, wish⟩ | ⟨goes, On, next, step⟩
  · refine thnF (T.done (X.blk sc Hc scope env fp) rfl rfl rfl calm i [] se _ He (fun _ _ => False) Ie (fpOk Ie free) te stop) fun r sf ⟨hr, If⟩ => ?_
    subst hr
    have back : Inv X pl σ He sf := Ic.call' (ch := fp) If.os If.base If.hok If.bare fun b hb => ⟨(okc b hb).1.2.2.2.1, (okc b hb).1.2.1, (okc b hb).1.2.2.2.2.1, (okc b hb).1.2.2.2.2.2⟩
    have noC : He sc.heap.objs.size = none := by
      have z : He env.locals = none := If.free
      rw [eloc] at z
      exact z
    obtain ⟨m, hn, _⟩ := If.loc
    have hn' : sf.heap.Ns env.locals m := hn
    rw [eloc] at hn'
    obtain ⟨f0, f1, f2, f3, f4, f5⟩ := Ic.fpOk (Nat.le_refl _) noC
    exact ⟨m, hn', fun h'' sb' => ⟨.ref D, He, back.turned (t' := sf.toks) (fun b o hb e => (sb'.2 b hb).trans e) f0 f1 f3 f4 f5, rfl, wish⟩⟩
  · refine thnF (T.item (X.blk sc Hc scope env fp) rfl rfl rfl calm i [] se _ He (fun _ _ => False) Ie (fpOk Ie free) te goes) fun r sf ⟨u, hr, hf⟩ => ?_
    subst hr
    refine thnF hf fun _ sg ⟨x, Hg, Ig, rg, yg, tg', freeg⟩ => ?_
    have pinned := Ig.pinned (fpOk Ig freeg) (T.obj _ _ tg')
    refine thnF (g1.run _ sg _ Hg x u _ pinned rg (step x Hg yg)) fun _ sh ⟨σh, Hh, Ih, wh, qh⟩ => ?_
    refine thnF (g2.run _ sh σh Hh _ Ih qh) fun b si ⟨Hi, Ii, qi⟩ => ?_
    have ends : ∀ {s' : Shared} {H' : Hp}, Inv (X.blk sc Hc scope env fp) ([] ++ pinsAt fp sg.heap) σh H' s' → On H' →
        ∃ m, m < n ∧ ∃ i H', Inv (X.blk sc Hc scope env fp) [] (wipe σ (own.map (·.2))) H' s' ∧ tn i s'.heap ∧ (∀ b ∈ fp, H' b = none) ∧ W i m H' := fun {s' H'} I' on => by
      obtain ⟨m', lt, at'⟩ := next H' on
      have kept : ∀ b ∈ fp, ∀ o, sg.heap.get? b = some o → s'.heap.get? b = some o ∧ H' b = none := fun b hb o e => by
        have z := I'.pin (b, o) (List.mem_append_right _ (List.mem_append_right _ (mem_pinsAt hb e)))
        exact ⟨z.1, z.2.1⟩
      have len : (wipe σ (own.map (·.2))).length = σh.length := by
        rw [← wh, wipe_length]
      refine ⟨m', lt, i + 1, H', (I'.unpinned (pins := [])).weak len (fun j y e => ?_), T.keep _ _ _ tg' fun b hb o e => (kept b hb o e).1, fun b hb => ?_, at'⟩
      · rw [← wh] at e
        exact (wipe_some e).1
      · obtain ⟨o, e, _⟩ := T.obj _ _ tg' b hb
        exact (kept b hb o e).2
    cases b with
    | false =>
      simp only [Bool.false_eq_true, if_false] at qi ⊢
      exact ends Ii qi
    | true =>
      simp only [if_true] at qi ⊢
      refine thnF (g3.run _ si σh Hi _ Ii qi) fun z sj ⟨yk, Hj, Ij, rj, ys, k, ek, eDk, few, on⟩ => ?_
      subst ek
      obtain ⟨tk, rfl⟩ := rj
      have R : SetT X.w sj.heap D ys := (Ij.hok D _ eDk).1
      refine addT R few fun h' sb' new => ends (Ij.write (e := D) (t' := sj.toks + 1) (by rw [eDk]; trivial) (.inl rfl) (fun b u hb hu => (sb'.2 b hb).trans hu) ?_ (setTx_new new)) on
      obtain ⟨o, _, _, _, ho, _⟩ := new
      exact ⟨o, ho⟩
end
section
variable {w : World} {J : It} {G : Hp → Prop} {Y : Nat → Hp → V → Hp → Prop} {g : TG} {tt : TT} {te : TE} {vs : List Nat} {σ : St} {H1 : Hp} {D : Addr} {Qd : Hp → Prop}
/-- {e for x in ..}, xs the texts that e is, one after another -/
theorem scG (xs : List Str) (wk : Walk J xs.length G Y) (hz : xs.length < 4000) (hD : H1 D = none) (hY : ∀ i H x H', Y i H x H' → Same H H') (hG : ∀ H', Same H1 H' → G H')
    (turn : ∀ (i : Nat) (a : Str) (x : V) (H' H'' : Hp) (k : V → Hp → Prop) (k0 : Hp → Prop), xs[i]? = some a → Same H1 H' → Y i H' x H'' → (∀ H4, Same H'' H4 → k (.str a) H4) →
      g x (wipe σ vs) H'' fun σ2 H2 => wipe σ2 vs = wipe σ vs ∧ tt σ2 H2 fun b H3 => if b = true then te σ2 H3 fun y H4 => k y H4 else k0 H3)
    (hd : ∀ H', Same H1 H' → H' D = some (SetTx w D (setFold xs)) → Qd H') :
    ∃ W : Nat → Nat → Hp → Prop, (∃ m, W 0 m (upd H1 D (SetTx w D []))) ∧ ∀ i m H, W i m H →
      (J.stop i H ∧ Qd H) ∨ (J.go i H ∧ ∃ On : Hp → Prop, (∀ H', On H' → ∃ m', m' < m ∧ W (i + 1) m' H') ∧ ∀ x H', J.yld i H x H' → g x (wipe σ vs) H' fun σ2 H2 => wipe σ2 vs = wipe σ vs ∧ tt σ2 H2 fun b H3 =>
        if b = true then te σ2 H3 fun y H4 => ∃ ys k, y = .str k ∧ H4 D = some (SetTx w D ys) ∧ ys.length + 1 < scanBound ∧ On (upd H4 D (SetTx w D (ins ys k))) else On H3) := by
  refine dc_it wk (nx := fun i H' => Same H1 H' ∧ H' D = some (SetTx w D (setFold (xs.take i)))) (body := fun i x H' On => g x (wipe σ vs) H' fun σ2 H2 => wipe σ2 vs = wipe σ vs ∧ tt σ2 H2 fun b H3 =>
        if b = true then te σ2 H3 fun y H4 => ∃ ys k, y = .str k ∧ H4 D = some (SetTx w D ys) ∧ ys.length + 1 < scanBound ∧ On (upd H4 D (SetTx w D (ins ys k))) else On H3)
    ⟨same_new hD, upd_same⟩ (fun i H _ h => hG H h.1) (fun i x H H' hi h hy => ?_) (fun H h => hd H h.1 (by rw [h.2, List.take_length]))
  have ei : xs[i]? = some xs[i] := List.getElem?_eq_getElem hi
  have sy := hY _ _ _ _ hy
  refine turn i xs[i] x H H' (fun y H5 => ∃ ys k, y = .str k ∧ H5 D = some (SetTx w D ys) ∧ ys.length + 1 < scanBound ∧ _) _ ei h.1 hy fun H4 s4 => ⟨_, _, rfl, s4 _ _ (sy _ _ h.2), ?_, fun b o z => ?_, ?_⟩
  · have := setFold_len i (xs.take i) (by rw [List.length_take]; omega)
    unfold scanBound
    omega
  · rw [upd_ne (ne_of_none z hD)]
    exact s4 _ _ (sy _ _ (h.1 b o z))
  · rw [upd_same, List.take_add_one, ei]
    show some (SetTx w D _) = some (SetTx w D (setFold (xs.take i ++ [xs[i]])))
    rw [setFold_snoc]
end
end L2
namespace PySem.SeqAt
open AutoSeq1 (wpAny_loadPart')
open MeetsSeq
theorem str_declines_dict (x : Str) (u : Tok) (a : Addr) (es : Array DictEntry) (n : Nat) (dd : Option Addr) (sl : Array (Option Value)) :
    Meets (Builtin.«str.__eq__» ⟨[.str x u, .ref a], []⟩) (fun _ R s => s.heap.get? a = some { cls := .type "dict", dict := dd, data := .dict es n, slots := sl } ∧ R (.ok (.ret .notImplemented)) s) :=
  .of_wp fun prog w A R s h => by
    obtain ⟨hp, g, d, tk, os⟩ := s
    obtain ⟨ha, h⟩ := h
    wp_walk using wpAny_loadPart' ha, wpAny_load ha
    exact ⟨_, rfl, h⟩
theorem dict_declines_str (x : Str) (u : Tok) (a : Addr) (es : Array DictEntry) (n : Nat) (dd : Option Addr) (sl : Array (Option Value)) :
    Meets (Builtin.«dict.__eq__» ⟨[.ref a, .str x u], []⟩) (fun _ R s => s.heap.get? a = some { cls := .type "dict", dict := dd, data := .dict es n, slots := sl } ∧ R (.ok (.ret .notImplemented)) s) :=
  .of_wp fun prog w A R s h => by
    obtain ⟨hp, g, d, tk, os⟩ := s
    obtain ⟨ha, h⟩ := h
    have f1 := F.sub_str_dict
    wp_walk using wpAny_loadPart' ha, wpAny_load ha
    exact ⟨_, rfl, h⟩
section
variable {A : Around} {s : Shared} {a : Addr} {o : Obj} {es : Array DictEntry} {n : Nat}
theorem rc_str_dict (x : Str) (u : Tok) (ho : s.heap.get? a = some o) (hc : o.cls = .type "dict") (hd : o.data = .dict es n) (hu : A.units < cLine) : RcAt A s (.str x u) (.ref a) false := fun prog w E Q h => by
  obtain ⟨cls, dd, data, sl⟩ := o
  dsimp only at hc hd
  subst hc hd
  refine rc_eq_decline_or (k := false) (typeIs_str s x u) ⟨_, ho, rfl⟩ (by decide) F.sub_dict_str F.slot_str_eq F.slot_dict_eq_refl (fun _ hq => ?_) (fun _ hq => ?_) (fun _ hq => wpAny_of_eq (rfl : isSame (.str x u) (.ref a) = pure false) hq) (.inr hu) h
  · exact call_meets F.slot_str_eq (typeIs_str s x u) F.entry_str_eq (F.args_str_eq_2 _ _) (str_declines_dict x u a es n dd sl) ⟨ho, hq⟩
  · exact call_meets F.slot_dict_eq_refl ⟨_, ho, rfl⟩ F.entry_dict_eq (F.args_dict_eq_2 _ _) (dict_declines_str x u a es n dd sl) ⟨ho, hq⟩
theorem rc_dict_str (x : Str) (u : Tok) (ho : s.heap.get? a = some o) (hc : o.cls = .type "dict") (hd : o.data = .dict es n) (hu : A.units < cLine) : RcAt A s (.ref a) (.str x u) false := fun prog w E Q h => by
  obtain ⟨cls, dd, data, sl⟩ := o
  dsimp only at hc hd
  subst hc hd
  refine rc_eq_decline_or (k := false) ⟨_, ho, rfl⟩ (typeIs_str s x u) (by decide) F.sub_str_dict F.slot_dict_eq F.slot_str_eq_refl (fun _ hq => ?_) (fun _ hq => ?_) (fun _ hq => wpAny_of_eq (rfl : isSame (.ref a) (.str x u) = pure false) hq) (.inr hu) h
  · exact call_meets F.slot_dict_eq ⟨_, ho, rfl⟩ F.entry_dict_eq (F.args_dict_eq_2 _ _) (dict_declines_str x u a es n dd sl) ⟨ho, hq⟩
  · exact call_meets F.slot_str_eq_refl (typeIs_str s x u) F.entry_str_eq (F.args_str_eq_2 _ _) (str_declines_dict x u a es n dd sl) ⟨ho, hq⟩
theorem eq_str_dict (x : Str) (u : Tok) (ho : s.heap.get? a = some o) (hc : o.cls = .type "dict") (hd : o.data = .dict es n) (hu : A.units < cLine) : EqAt A s (.str x u) (.ref a) false := fun prog w E Q h => by
  unfold eqBool
  refine wpAny_holding (wpAny_ite_split (fun z => absurd (eq_of_beq z) nofun) fun _ => ?_)
  exact wpAny_bind (rc_str_dict x u ho hc hd hu prog w E _ (wpAny_truthy_bool h))
end
end PySem.SeqAt
namespace L2
open PySem PySem.Spec PyProof.Rows PySem.GX
/-- the data is this text -/
def isTx (z : Str) : PyData → Bool
  | .str y => decide (y = z)
  | _ => false
section
variable {X : Cx} {pins : List (Addr × Obj)} {σ : St} {H : Hp} {s : Shared}
/-- a text beside any thing -/
theorem sh_eqAt (I : Inv X pins σ H s) {x : V} {d : PyData} {v : Value} (h : Sh X.K H x d) (r : RelV x v) {A : Around} (hu : A.units < cLine) (z : Str) (t : Tok) : SeqAt.EqAt A s (.str z t) v (isTx z d) := by
  cases h with
  | fl f =>
    cases f with
    | non => cases r; exact SeqAt.EqAt.str_none z t
    | bl b => cases r; exact SeqAt.EqAt.str_bool z t b
    | int i => obtain ⟨u, rfl⟩ := r; exact SeqAt.EqAt.str_int z t i u
    | str y =>
      obtain ⟨u, rfl⟩ := r
      have e : isTx z (.str y) = (z == y) := by
        show decide (y = z) = _
        by_cases q : y = z
        · subst q; simp
        · rw [decide_eq_false q]
          exact (beq_eq_false_iff_ne.mpr (Ne.symm q)).symm
      rw [e]
      exact SeqAt.EqAt.str_str z t y u
  | lst hq _ =>
    cases r
    obtain ⟨its, rv, ⟨o, n, ho, hc, _, hd⟩, _⟩ := I.list hq
    exact SeqAt.EqAt.str_list z t ⟨o, ho, hc, n, hd⟩ hu
  | tup hq _ =>
    cases r
    obtain ⟨its, rv, ⟨o, ho, hc, n, hd⟩, _⟩ := I.tuple hq
    exact SeqAt.EqAt.str_tuple z t ⟨o, ho, hc, n, hd⟩ hu
  | dic hq _ _ =>
    cases r
    obtain ⟨_, hsys, vs, rkv, o, es, ep, ho, ⟨hc, _⟩, hd, _⟩ := I.hok _ _ hq
    exact SeqAt.eq_str_dict z t ho hc hd hu
theorem sh_rcAt (I : Inv X pins σ H s) {x : V} {d : PyData} {v : Value} (h : Sh X.K H x d) (r : RelV x v) {A : Around} (hu : A.units < cLine) (z : Str) (t : Tok) : SeqAt.RcAt A s v (.str z t) (isTx z d) := by
  cases h with
  | fl f =>
    cases f with
    | non => cases r; exact SeqAt.RcAt.none_str z t
    | bl b => cases r; exact SeqAt.RcAt.bool_str b z t
    | int i => obtain ⟨u, rfl⟩ := r; exact SeqAt.RcAt.int_str i u z t
    | str y =>
      obtain ⟨u, rfl⟩ := r
      have e : isTx z (.str y) = (y == z) := by
        show decide (y = z) = _
        by_cases q : y = z
        · subst q; simp
        · rw [decide_eq_false q]
          exact (beq_eq_false_iff_ne.mpr q).symm
      rw [e]
      exact SeqAt.RcAt.str_str y u z t
  | lst hq _ =>
    cases r
    obtain ⟨its, rv, ⟨o, n, ho, hc, _, hd⟩, _⟩ := I.list hq
    exact SeqAt.RcAt.list_str z t ⟨o, ho, hc, n, hd⟩ hu
  | tup hq _ =>
    cases r
    obtain ⟨its, rv, ⟨o, ho, hc, n, hd⟩, _⟩ := I.tuple hq
    exact SeqAt.RcAt.tuple_str z t ⟨o, ho, hc, n, hd⟩ hu
  | dic hq _ _ =>
    cases r
    obtain ⟨_, hsys, vs, rkv, o, es, ep, ho, ⟨hc, _⟩, hd, _⟩ := I.hok _ _ hq
    exact SeqAt.rc_dict_str z t ho hc hd hu
end
/-- x not in a list of texts, x anything -/
def rNotInTx (K : PySem.W.Frag) : R2 := fun x y H Q => ∃ (d : PyData) (p : Addr) (ws : List Str), Sh K H x d ∧ y = .ref p ∧ SqL K H p (ws.map V.str) ∧ Q (.bl (!ws.any fun z => isTx z d)) H
theorem op_notInTx {X : Cx} (hu : X.A.units + 1 < cLine) : OpR X (compareOp .NotIn) (rNotInTx X.K) := by
  intro pins s σ H x y v u Q I rx ry ⟨d, p, ws, hd, ey, hp, q⟩
  subst ey
  cases ry
  obtain ⟨its, rv, ⟨o, n, ho, hc, hnn, hdd⟩, hlen⟩ := I.list hp
  have at_ : ∀ y, y ∈ its.toArray → ∃ z t, y = Value.str z t ∧ z ∈ ws := by
    intro y hy
    have hy' : y ∈ its := by simpa using hy
    clear hdd ho hc hp hy q hlen hnn
    generalize hvs : ws.map V.str = vs at rv
    induction rv generalizing ws with
    | nil => cases hy'
    | cons r _ ih =>
      match ws, hvs with
      | w1 :: wt, hvs =>
        injection hvs with e1 e2
        subst e1
        rcases List.mem_cons.mp hy' with m | m
        · obtain ⟨t, e⟩ := r
          exact ⟨w1, t, by rw [m, e], List.mem_cons_self ..⟩
        · obtain ⟨z, t, a1, a2⟩ := ih wt m e2
          exact ⟨z, t, a1, List.mem_cons_of_mem _ a2⟩
  have any_ : (its.toArray.any fun y => match y with | .str z _ => isTx z d | _ => false) = ws.any fun z => isTx z d := by
    rw [List.any_toArray]
    clear at_ hdd ho hc hp q hlen hnn
    generalize hvs : ws.map V.str = vs at rv
    induction rv generalizing ws with
    | nil =>
      match ws, hvs with
      | [], _ => rfl
    | cons r _ ih =>
      match ws, hvs with
      | w1 :: wt, hvs =>
        injection hvs with e1 e2
        subst e1
        obtain ⟨t, e⟩ := r
        subst e
        rw [List.any_cons, List.any_cons, ih wt e2]
  refine SeqAt.notIn_listAt (fun y => match y with | .str z _ => isTx z d | _ => false) ⟨o, ho, hc, n, hdd⟩ (fun y hy => ?_) ?_
  · obtain ⟨z, t, rfl, _⟩ := at_ y hy
    exact sh_eqAt I hd rx (by show X.A.units + 1 < cLine; exact hu) z t
  · rw [any_]
    exact ⟨.bl _, H, I, rfl, q⟩
/-- x == text, x anything -/
def rEqTx (K : PySem.W.Frag) : R2 := fun x y H Q => ∃ (d : PyData) (z : Str), Sh K H x d ∧ y = .str z ∧ Q (.bl (isTx z d)) H
theorem op_eqTx {X : Cx} (hu : X.A.units < cLine) : OpR X (compareOp .Eq) (rEqTx X.K) := by
  intro pins s σ H x y v u Q I rx ry ⟨d, z, hd, ey, q⟩
  subst ey
  obtain ⟨t, rfl⟩ := ry
  exact sh_rcAt I hd rx hu z t _ _ _ _ ⟨.bl _, H, I, rfl, q⟩
/-- repr(x), x a tuple -/
def rReprT (K : PySem.W.Frag) : List V → Hp → VK → Prop := fun xs H Q => ∃ (a : Addr) (ds : List PyData), xs = [.ref a] ∧ Sh K H (.ref a) (.tuple ds) ∧ PyData.showableAll ds = true ∧ (PyData.tuple ds).shown.length ≤ sizeLine ∧ (PyData.tuple ds).depth ≤ 60 ∧
  Q (.str (PyData.tuple ds).shown) H
theorem call_reprT {X : Cx} {K : PySem.W.Frag} (eK : X.K = K) (hg : X.A.guards = some []) (hu : X.A.units + 64 < cLine) : CallR X (.builtin "repr") (rReprT K) := by
  subst eK
  intro pins s σ H xs us Q I r h
  obtain ⟨a, ds, rfl, hsh, hs, hz, hdp, q⟩ := h
  cases r with
  | cons r1 r2 =>
    cases r2
    cases r1
    cases hsh with
    | fl f => cases f
    | @tup _ xs _ hq ha =>
      obtain ⟨its, rv, ⟨o, ho, hc, n, hd⟩, _⟩ := I.tuple hq
      have hz' : (tupleText (PyData.shownAll ds)).length ≤ sizeLine := by simpa only [PyData.shown] using hz
      obtain ⟨⟨as, hr⟩, bs, hb, hk⟩ := Sh.bothAll I ds xs its ha rv hs (fun t ht => Nat.le_trans (tupleText_mem_le ht) hz')
      have rr : Reads s.heap (.ref a) (.tuple ds) _ := Reads.tuple ho hc hd hr
      have hna : a ∉ bs := not_mem_of_deeper rr (by simp only [PyData.depth]; omega) hb
      simp only [PyData.depth] at hdp
      simp only [PyData.shown] at q
      refine call_repr_slot (by omega) ⟨o, ho, hc⟩ F.slot_tuple_repr ?_
      exact call_tuple_reprK ho hc hd hna hk hg (fun b _ => Clear.nil b) (by show X.A.units + 1 + _ < cLine; omega) (fun _ _ e => e) (fun h' u tk k => ⟨_, _, rfl, .str (tupleText (PyData.shownAll ds)), H, I.kept k, ⟨u, rfl⟩, q⟩) hz'
/-- what is compared can be shown -/
theorem Dp.sh {K : PySem.W.Frag} {H : Hp} : ∀ {d : PyData} {v : V}, Dp K H v d → Sh K H v d := by
  intro d v h
  exact Dp.rec (motive_1 := fun v d _ => Sh K H v d) (motive_2 := fun vs ds _ => ShAll K H vs ds) (.fl .non) (fun b => .fl (.bl b)) (fun i => .fl (.int i)) (fun x => .fl (.str x)) (fun h _ i => .lst h i) (fun h _ i => .tup h i) .nil (fun _ _ i j => .cons i j) h
end L2
namespace L2
open PySem PySem.Spec PyProof.Rows PySem.GX PySem.W
/-- a, b, *c, d = a tuple -/
def gStar (K : PySem.W.Frag) (n i : Nat) (t : TGs) : TG := fun v σ H Q => ∃ a xs, v = .ref a ∧ SqT K H a xs ∧ i < n ∧ n ≤ xs.length + 1 ∧ xs.length ≤ 16384 ∧
  ∀ D, H D = none → t (xs.take i ++ [.ref D] ++ (xs.drop i).drop (xs.length + 1 - n)) σ (upd H D (.lst ((xs.drop i).take (xs.length + 1 - n)))) Q
theorem vals_take {vs : List V} {us : List Value} (r : Vals vs us) : ∀ n, Vals (vs.take n) (us.take n) := by
  induction r with
  | nil => intro n; cases n <;> exact .nil
  | cons a t ih =>
    intro n
    cases n with
    | zero => exact .nil
    | succ n => exact .cons a (ih n)
theorem vals_drop {vs : List V} {us : List Value} (r : Vals vs us) : ∀ n, Vals (vs.drop n) (us.drop n) := by
  induction r with
  | nil => intro n; cases n <;> exact .nil
  | cons a t ih =>
    intro n
    cases n with
    | zero => exact .cons a t
    | succ n => exact ih n
theorem pg_star {X : Cx} {es : List Expr} {k : Nat} {t : TGs} {n i : Nat} {pos : Pos} (hc : X.calm = true) (h : PGs X es t)
    (hn : (assignEach es X.env).length = n := by rfl) (hst : (assignEach es X.env).findIdx? (·.1) = some i := by rfl) : PG X (.Tuple es k pos) (gStar X.K n i t) := by
  refine ⟨fun pins s σ H v u Q I r hw => ?_⟩
  obtain ⟨a, xs, e1, hq, hi, hle, hz, hw⟩ := hw
  subst e1
  cases r
  obtain ⟨its, rv, hl, _⟩ := I.tuple hq
  have hh := I.ok.hd hc
  have hs : xs.length = its.length := rv.length
  generalize hit : its.toArray = items at hl
  have hsz : items.size = its.length := by rw [← hit]; simp
  have htl : items.toList = its := by rw [← hit]
  rw [assign_Tuple]
  refine wpAny_bind (wpAny_standAt ?_)
  unfold unpack
  rw [hn, hst]
  refine wpAny_bind (wpAny_holding ?_)
  have hlt : a ≠ s.heap.objs.size := by obtain ⟨o, ho, _⟩ := hl; exact Nat.ne_of_lt (Heap.lt_size ho)
  unfold unpackItems
  refine wpAny_bind ?_
  unfold notIterableAtAll
  refine wpAny_bind (wpAny_specialOf hl.typeIs slot_tuple_iter.lookup ?_)
  refine wpAny_pure ?_
  simp only [Bool.false_eq_true, if_false]
  refine wpAny_bind (wpAny_holding (iter_tuple hl ?_))
  refine wpAny_bind (wpAny_holding (draw_tuple hlt i 0 _ _ ⟨_, Heap.get?_push_size _ rfl, rfl, rfl⟩ (hl.push _) (by omega) fun h₁ hit₁ hs₁ => ?_))
  have hl₁ : IsTup h₁ a items := (hl.push _).extBut hs₁.extBut hlt
  rw [Nat.zero_add] at hit₁
  have hit₁' := hit₁
  obtain ⟨oi, hoi, _⟩ := hit₁'
  have hl₁' := hl₁
  obtain ⟨ol, hol, _⟩ := hl₁'
  rw [List.drop_zero]
  have hfl : (items.toList.take i).length = i := by rw [List.length_take, Array.length_toList]; omega
  rw [if_neg (show ¬ ((items.toList.take i).length < i) by rw [hfl]; omega)]
  refine wpAny_bind (wpAny_holding (kun_collect (s := { s with heap := h₁ }) (T := "tuple_iterator") (.inr (.inr (.inr rfl))) (Walks.tuple (A := X.A.in1) hh s.heap.objs.size a hlt items) (fun j u st => st.1.typeIs) (k := i) (by omega) ⟨hit₁, hl₁⟩ (Heap.lt_size hoi) (Heap.lt_size hol) (fun h₂ tk hk => ?_) (by rw [sizeLine_eq]; omega)))
  have hrl : (items.toList.drop i).length = items.size - i := by rw [List.length_drop, Array.length_toList]
  have hmid : (items.toList.drop i).length - (n - 1 - i) = items.size + 1 - n := by rw [hrl]; omega
  show wpAny _ _ (if (items.toList.drop i).length < n - 1 - i then _ else _) _ _ _
  rw [if_neg (by rw [hrl]; omega)]
  show wpAny _ _ (newList ((items.toList.drop i).take ((items.toList.drop i).length - (n - 1 - i))) >>= fun d => pure (items.toList.take i ++ [d] ++ (items.toList.drop i).drop ((items.toList.drop i).length - (n - 1 - i)))) _ _ _
  rw [hmid, htl, hsz, ← hs]
  have he : ∀ b o, s.heap.get? b = some o → h₂.get? b = some o := fun b o e => by
    have hb : b ≠ s.heap.objs.size := Nat.ne_of_lt (Heap.lt_size e)
    exact hk b o hb (hs₁.extBut b o hb (Heap.get?_push_of_some _ e))
  have I1 : Inv X pins σ H { s with heap := h₂, toks := tk } := I.kept (t' := tk) he
  have hf : H h₂.objs.size = none := I1.hok.fresh (Nat.le_refl _)
  have hlen : ((its.drop i).take (xs.length + 1 - n)).length ≤ sizeLine := by rw [List.length_take, List.length_drop, sizeLine_eq]; omega
  refine wpAny_bind (wpAny_newObj_type (wpAny_pure ?_) ?_)
  · have I2 := I1.laid (a := h₂.objs.size) (o := .lst ((xs.drop i).take (xs.length + 1 - n))) (t' := tk) (h' := h₂.push { cls := .type "list", data := .seq ((its.drop i).take (xs.length + 1 - n)).toArray 0 }) (fun b u e => Heap.get?_push_of_some _ e) (Nat.le_refl _) ⟨by rw [List.length_take, List.length_drop, sizeLine_eq]; omega, _, 0, vals_take (vals_drop rv i) _, Heap.get?_push_size _ rfl⟩
    exact h.run pins _ σ _ _ _ Q I2 (((vals_take rv i).append (.cons (show RelV (.ref h₂.objs.size) (Value.ref h₂.objs.size) from rfl) .nil)).append (vals_drop (vals_drop rv i) _)) (hw _ hf)
  · size_fits
theorem pgs_star {X : Cx} {e : Expr} {p : Pos} {es : List Expr} {t : TG} {u : TGs} (h1 : PG X e t) (h2 : PGs X es u)
    (hs : (assignEach (.Starred e p :: es) X.env).map (·.2) = assign e X.env :: (assignEach es X.env).map (·.2) := by rfl) : PGs X (.Starred e p :: es) (gCons t u) := by
  refine ⟨fun pins s σ H vs us Q I r h => ?_⟩
  obtain ⟨v, vr, e1, h⟩ := h
  subst e1
  cases r with
  | cons r rr =>
    rw [hs]
    refine assignInOrder_cons (thn (h1.run pins s σ H _ _ _ I r h) fun _ s1 ⟨σ1, H1, I1, q1⟩ => ?_)
    exact h2.run pins s1 σ1 H1 _ _ Q I1 rr q1
/-- text * a number -/
theorem mul_len {x : Str} {n : Nat} : (Txt.mul x (n : Int)).length = x.length * n := by
  unfold Txt.mul
  by_cases h1 : (n : Int) < 1
  · have : n = 0 := by omega
    subst this
    rw [if_pos h1]
    rfl
  · rw [if_neg h1]
    by_cases h2 : ((n : Int) == 1 || x.length == 0) = true
    · rw [if_pos h2]
      rcases Bool.or_eq_true_iff.mp h2 with e | e
      · have : n = 1 := by have := beq_iff_eq.mp e; omega
        subst this
        rw [Nat.mul_one]
      · have : x.length = 0 := by simpa using e
        rw [this, Nat.zero_mul]
    · rw [if_neg h2]
      have go : ∀ (m : Nat) (acc : Array Nat), ((List.replicate m x.cps).foldl (· ++ ·) acc).size = acc.size + x.length * m := by
        intro m
        induction m with
        | zero => intro acc; simp
        | succ m ih =>
          intro acc
          rw [List.replicate_succ, List.foldl_cons, ih, Array.size_append, Nat.mul_succ]
          show acc.size + x.length + _ = _
          omega
      show ((List.replicate (n : Int).toNat x.cps).foldl (· ++ ·) #[]).size = _
      rw [go]
      simp
def rMulX : V → V → Hp → VK → Prop := fun x y H Q => ∃ (z : Str) (n : Nat), x = .str z ∧ y = .int (n : Int) ∧ n ≤ 1000 ∧ z.length ≤ 10000 ∧ ∀ r : Str, r = Txt.mul z (n : Int) → r.length = z.length * n → Q (.str r) H
theorem op_mulX {X : Cx} : OpR X (binaryOp .Mult) rMulX := by
  intro pins s σ H x y v u Q I rx ry ⟨z, n, ex, ey, hn, hz, q⟩
  subst ex ey
  obtain ⟨t, rfl⟩ := rx
  obtain ⟨t', rfl⟩ := ry
  have hm : z.length * n ≤ 10000 * 1000 := Nat.mul_le_mul hz hn
  refine SB.mul ⟨?_, fun h _ => ?_, fun _ _ => ?_⟩ fun t' k => ⟨.str (Txt.mul z (n : Int)), H, I.tok _, ⟨t', rfl⟩, q _ rfl mul_len⟩
  · rw [decide_eq_false (by omega), decide_eq_false (by omega)]
    rfl
  · have h1 : 1 ≤ (n : Int) := by omega
    have e : (1000000 : Int) ≤ (2 ^ 63 - 1) / (n : Int) := by
      apply Int.le_ediv_of_mul_le (by omega)
      have : (n : Int) ≤ 1000 := by omega
      omega
    omega
  · show decide (_ > sizeLine) = false
    rw [sizeLine_eq]
    apply decide_eq_false
    show ¬ z.length * (n : Int).toNat > 16777216
    rw [Int.toNat_natCast]
    omega
end L2
namespace My
open PySem PySem.Spec PyProof.Rows L2 PySem.GX L2H LamX
abbrev kinds : List Str := ["last", "ends", "windows", "sets"]
def isK (d : PyData) : Bool := kinds.any fun z => isTx z d
/-- an integer in bounds -/
def inb (d : PyData) (lo hi : Int) : Bool := match d with
  | .int i => decide (lo ≤ i) && decide (i ≤ hi)
  | _ => false
def leastN (k : Str) : Int := if k = "last" then 0 else 1
def isI : PyData → Bool
  | .int _ => true
  | .bool _ => true
  | _ => false
def isB : PyData → Bool
  | .bool _ => true
  | _ => false
def isS : PyData → Bool
  | .str _ => true
  | _ => false
theorem sh_kit {K : PySem.W.Frag} {H : Hp} {v : V} {d : PyData} (h : Sh K H v d) : ∃ ty, TyX K H v ty ∧ PySem.W.kitOne K ty (.type "int") = some (isI d) ∧ PySem.W.kitOne K ty (.type "bool") = some (isB d) ∧ PySem.W.kitOne K ty (.type "str") = some (isS d) := by
  cases h with
  | fl f =>
    cases f with
    | non => exact ⟨_, .base .non, kit_ty (show _ = some false by decide +kernel), kit_ty (show _ = some false by decide +kernel), kit_ty (show _ = some false by decide +kernel)⟩
    | bl b => exact ⟨_, .base (.bl b), kit_ty (show _ = some true by decide +kernel), kit_ty (show _ = some true by decide +kernel), kit_ty (show _ = some false by decide +kernel)⟩
    | int i => exact ⟨_, .base (.int i), kit_ty (show _ = some true by decide +kernel), kit_ty (show _ = some false by decide +kernel), kit_ty (show _ = some false by decide +kernel)⟩
    | str x => exact ⟨_, .base (.str x), kit_ty (show _ = some false by decide +kernel), kit_ty (show _ = some false by decide +kernel), kit_ty (show _ = some true by decide +kernel)⟩
  | lst h t =>
    rcases h with (h | ⟨o, h⟩) | ⟨o, its, n, hk, hc, _⟩
    · exact ⟨_, .base (.lst h), kit_ty (show _ = some false by decide +kernel), kit_ty (show _ = some false by decide +kernel), kit_ty (show _ = some false by decide +kernel)⟩
    · exact ⟨_, .base (.frz h), kit_ty (show _ = some false by decide +kernel), kit_ty (show _ = some false by decide +kernel), kit_ty (show _ = some false by decide +kernel)⟩
    · exact ⟨_, .kList hk hc, kit_ty (show _ = some false by decide +kernel), kit_ty (show _ = some false by decide +kernel), kit_ty (show _ = some false by decide +kernel)⟩
  | tup h t =>
    rcases h with (h | ⟨o, h⟩) | ⟨o, its, n, hk, hc, _⟩
    · exact ⟨_, .base (.tup h), kit_ty (show _ = some false by decide +kernel), kit_ty (show _ = some false by decide +kernel), kit_ty (show _ = some false by decide +kernel)⟩
    · exact ⟨_, .fTuple h, kit_ty (show _ = some false by decide +kernel), kit_ty (show _ = some false by decide +kernel), kit_ty (show _ = some false by decide +kernel)⟩
    · exact ⟨_, .kTuple hk hc, kit_ty (show _ = some false by decide +kernel), kit_ty (show _ = some false by decide +kernel), kit_ty (show _ = some false by decide +kernel)⟩
  | dic h a b => exact ⟨_, .base (.dK h), kit_ty (show _ = some false by decide +kernel), kit_ty (show _ = some false by decide +kernel), kit_ty (show _ = some false by decide +kernel)⟩
theorem sh_int {K : PySem.W.Frag} {H : Hp} {v : V} {i : Int} (h : Sh K H v (.int i)) : v = .int i := by
  cases h with
  | fl f => cases f; rfl
theorem sh_str {K : PySem.W.Frag} {H : Hp} {v : V} {x : Str} (h : Sh K H v (.str x)) : v = .str x := by
  cases h with
  | fl f => cases f; rfl
/-- the promise where nothing is raised -/
theorem FnOk.calm_ {P : Program} {w : World} {K : PySem.W.Frag} {mg : Str → Option Value} {base : Heap} {k : Nat} {f : Addr} {fd : FuncData} {ps : List Str} {sp sp0 : Sp} (F : FnOk P w K mg base (L2N.CX P w) k f fd ps sp) (m : ∀ vs H Q E, sp0 vs H Q E → sp vs H Q E0) : FnOk P w K mg base CX0 k f fd ps sp0 :=
  ⟨fun vs H Q E h => F.len vs H Q E0 (m _ _ _ _ h), fun A outer s H args us vs Q E hr e0 hb r h => codeAny_mono (F.run A outer s H args us vs Q E0 hr e0 hb r (m _ _ _ _ h)) fun r s' hq => by
    cases r with
    | error e =>
      obtain ⟨a, B, H', cls, d, _, _, _, _, _, _, _, hE⟩ := hq
      exact hE.elim
    | ok fl => cases fl <;> exact hq⟩
/-- raises C with v as what is given -/
def Rz (C : Addr) (v : V) (H : Hp) (E : XK) : Prop := ∀ da H', Same H H' → H' da = some (exd da [("given", v)]) → E (.ref C) (some da) H'
theorem Rz.same {C : Addr} {v : V} {H H1 : Hp} {E : XK} (h : Rz C v H E) (s : Same H H1) : Rz C v H1 E := fun da H' s' e => h da H' (s.trans s') e
/-- what is known of a class that is raised -/
structure RzC (P : Program) (w : World) (K : PySem.W.Frag) (mg : Str → Option Value) (base : Heap) (x : Str) (C : Addr) : Prop where
  mk1 : Mk1 P w K mg base x C "given"
  b1 : PySem.W.subIn K (.ref C) (.type "BaseException") = some true
  b2 : PySem.W.typeIn K (.ref C) = some (.type "type")
theorem PE_imp {X : Cx} {e : Expr} {t t' : TE} (h : PE X e t) (m : ∀ σ H Q, t' σ H Q → t σ H Q) : PE X e t' := ⟨fun pins s σ H Q I q => h.run pins s σ H Q I (m σ H Q q)⟩
def isKs (ws : List Str) (d : PyData) : Bool := ws.any fun z => isTx z d
theorem isK_is (d : PyData) : isK d = isKs kinds d := rfl
/-- the def x is there, and keeps the promise; it may raise -/
structure HvX (P : Program) (w : World) (K : PySem.W.Frag) (mg : Str → Option Value) (base : Heap) (k : Nat) (x : Str) (ps : List Str) (sp : Sp) : Prop where
  ex : ∃ (f : Addr) (fd : FuncData), FnOk P w K mg base (L2N.CX P w) k f fd ps sp ∧ Binds K fd ps [] ∧ mg x = some (.ref f) ∧ PySem.W.keepIn K (.ref f) = true
theorem pe_clX {X : Cx} {k : Nat} {x : Str} {ps : List Str} {sp : Sp} {p pos : Pos} {e : Expr} {es : List Expr} {t : TA} {E : XK} (h : HvX X.prog X.w X.K X.mg X.base k x ps sp) (hr : Room k X.A) (hg : Gl X x) (hx : Passes (L2N.CX X.prog X.w) X E) (ha : PA X (e :: es) t)
    (hdb : (x == ("__debug__" : Str)) = false := by decide) (he : starEach (e :: es) X.env = (false, eval e X.env) :: starEach es X.env := by rfl) (hpl : (backTo pos (starEach es X.env)).any (·.1) = false := by rfl) :
    PE X (.Call (.Name x p) (e :: es) [] pos) (tCall sp [] E t) := by
  obtain ⟨f, fd, F, b, g, kp⟩ := h.ex
  exact pe_call F hr hg g kp b .nil hx ha hdb he hpl
/-- the same, called without its last parameters, whose values are dvs -/
structure HvD (P : Program) (w : World) (K : PySem.W.Frag) (mg : Str → Option Value) (base : Heap) (k : Nat) (x : Str) (ps : List Str) (dvs : List V) (sp : Sp) : Prop where
  ex : ∃ (f : Addr) (fd : FuncData) (ds : List Value), FnOk P w K mg base (L2N.CX P w) k f fd ps sp ∧ Vals dvs ds ∧ Binds K fd ps ds ∧ mg x = some (.ref f) ∧ PySem.W.keepIn K (.ref f) = true
theorem pe_clD {X : Cx} {k : Nat} {x : Str} {ps : List Str} {dvs : List V} {sp : Sp} {p pos : Pos} {e : Expr} {es : List Expr} {t : TA} {E : XK} (h : HvD X.prog X.w X.K X.mg X.base k x ps dvs sp) (hr : Room k X.A) (hg : Gl X x) (hx : Passes (L2N.CX X.prog X.w) X E) (ha : PA X (e :: es) t)
    (hdb : (x == ("__debug__" : Str)) = false := by decide) (he : starEach (e :: es) X.env = (false, eval e X.env) :: starEach es X.env := by rfl) (hpl : (backTo pos (starEach es X.env)).any (·.1) = false := by rfl) :
    PE X (.Call (.Name x p) (e :: es) [] pos) (tCall sp dvs E t) := by
  obtain ⟨f, fd, ds, F, v, b, g, kp⟩ := h.ex
  exact pe_call F hr hg g kp b v hx ha hdb he hpl
def spIsK (K : PySem.W.Frag) : Sp := fun vs H Q _ => ∃ (v : V) (d : PyData) (t : Addr) (ws : List Str), vs = [v, .ref t] ∧ Sh K H v d ∧ SqT K H t (ws.map V.str) ∧ Q (.bl (isKs ws d)) H
def spCKs (K : PySem.W.Frag) (C2 : Addr) : Sp := fun vs H Q E => ∃ (v : V) (d : PyData) (t : Addr) (ws : List Str), vs = [v, .ref t] ∧ Sh K H v d ∧ SqT K H t (ws.map V.str) ∧ (isKs ws d = true → Q .non H) ∧ (isKs ws d = false → Rz C2 v H E)
theorem isKs_str (ws : List Str) (x : Str) : inV (.str x) (ws.map V.str) = isKs ws (.str x) := by
  rw [in_strs]
  unfold isKs
  rw [Bool.eq_iff_iff, decide_eq_true_eq, List.any_eq_true]
  exact ⟨fun h => ⟨x, h, decide_eq_true rfl⟩, fun ⟨z, h1, h2⟩ => by rw [show x = z from of_decide_eq_true h2]; exact h1⟩
theorem isKs_no {ws : List Str} {d : PyData} (h : ¬ isS d = true) : isKs ws d = false := by
  have : ∀ z, isTx z d = false := fun z => by
    match d, h with
    | .str _, h => exact absurd rfl h
    | .int i, _ => rfl
    | .bool b, _ => rfl
    | .none, _ => rfl
    | .list _, _ => rfl
    | .tuple _, _ => rfl
    | .dict _, _ => rfl
  unfold isKs
  rw [Bool.eq_false_iff]
  intro z
  obtain ⟨y, _, e⟩ := List.any_eq_true.mp z
  rw [this y] at e
  cases e
end My
namespace My
open PySem PySem.Spec PyProof.Rows L2 PySem.GX L2H LamX
abbrev sTerm : Stmt := top 45
abbrev sFits : Stmt := top 46
abbrev sBent : Stmt := top 47
theorem PT_imp {X : Cx} {e : Expr} {t t' : L2.St → Hp → (Bool → Hp → Prop) → Prop} (h : PT X e t) (m : ∀ σ H Q, t' σ H Q → t σ H Q) : PT X e t' := ⟨fun pins s σ H Q I q => h.run pins s σ H Q I (m σ H Q q)⟩
def spTerm : Sp := fun vs H Q _ => ∃ w : Str, vs = [.str w] ∧ w.length ≤ 100000 ∧ ∀ H', Same H H' → Q (.bl (isWordL w)) H'
theorem fm_sg (p : Nat → Bool) : ∀ cs : List Nat, (cs.filterMap fun c => if p c = true then some (V.str (sg c)) else none) = ((cs.filter p).map sg).map V.str
  | [] => rfl
  | c :: t => by
    by_cases h : p c = true
    · rw [List.filterMap_cons, if_pos h, List.filter_cons_of_pos h, fm_sg p t]
      rfl
    · rw [List.filterMap_cons, if_neg h, List.filter_cons_of_neg h, fm_sg p t]
section
variable {P : Program} {w : World} {K : PySem.W.Frag} {mg : Str → Option Value} {base : Heap}
abbrev nTerm : List Str := ["_law_word_here", "_law_signs", "_law_glyph"]
theorem scTerm : FnScope nTerm ["_law_word_here"] (defScope sTerm) := ⟨rfl, rfl, rfl, by decide +kernel, rfl, by decide +kernel, by decide +kernel⟩
theorem ok_term {f : Addr} {fd : FuncData} (F : Fun K "_law_is_term" "_law_is_term" sTerm f fd) (hL : mg "len" = none) : FnOk P w K mg base CX0 1 f fd ["_law_word_here"] spTerm := by
  refine F.ok scTerm (fun vs H Q E h => ?_) (fun cdv A outer s H vs Q E hr h => ?_)
  · obtain ⟨w, rfl, _⟩ := h
    rfl
  · obtain ⟨z, rfl, lz, k⟩ := h
    have zz : z.length ≤ sizeLine := by rw [sizeLine_eq]; omega
    refine ⟨_, pss_cons (ps_setLc (i := 1) (own := [("_law_glyph", 2)]) (g := gName 2) (by rfl) scTerm.nd rfl rfl (sw_true rfl rfl rfl (by decide +kernel)) (pi_str (pv 0)) (blkOk_by (N := nTerm) (sc := defScope sTerm) (by decide +kernel)) (fun _ _ _ _ _ => pg_name (i := 2) scTerm.nd rfl (Or.inl rfl))
          (fun _ _ _ _ _ => pts_one (pt_cmpR op_in_sign (pv 2) pe_str (by rfl))) (fun _ _ _ _ _ => pv 2))
      (pss_one (ps_ret (pe_and (pe_chain op_lt op_lt pe_int (pe_callB call_len_str (by rfl) hL PySem.boot_len (pa_cons (pv 0) pa_nil)) pe_int)
        (pe_one (pe_cmpR op_eq (pe_callB call_len_seq (by rfl) hL PySem.boot_len (pa_cons (pv 1) pa_nil)) (pe_callB call_len_str (by rfl) hL PySem.boot_len (pa_cons (pv 0) pa_nil)) (nomark _)))))), ?_⟩
    refine ⟨_, rfl, z, rfl, fun D hD => ?_⟩
    refine lcG (z.cps.toList) (fun c => if decide (c ∈ abc.cps.toList) = true then some (.str (sg c)) else none) (by rw [Array.length_toList]; exact walk_str) (by rw [Array.length_toList]; show z.length ≤ _; omega) hD (fun i H x H' h => by rw [h.1]; exact Same.refl _) (fun _ _ => trivial) (fun i c y H' H'' k1 hc s1 hy k2 => ?_) (fun H' s' e => ?_)
    · obtain ⟨rfl, c', hc', rfl⟩ := hy
      rw [← Array.getElem?_toList, hc] at hc'
      cases hc'
      have kk := k2 _ (Same.refl _)
      refine ⟨rfl, _, rfl, c, abc, rfl, rfl, _, rfl, ite2 (fun b => ?_) (fun b => ?_)⟩
      · rw [if_pos b] at kk
        exact ⟨_, rfl, kk⟩
      · rw [if_neg b] at kk
        exact kk
    · rw [fm_sg] at e
      have et := term_is z
      refine ⟨_, rfl, z, rfl, zz, _, _, rfl, rfl, _, rfl, ite2 (fun c1 => ⟨_, _, rfl, rfl, _, rfl, ite2 (fun c2 => ?_) (fun c2 => ?_)⟩) (fun c1 => ?_)⟩
      · refine ⟨_, rfl, D, _, rfl, .inl (SqL.of e), _, rfl, z, rfl, zz, rfl, ?_⟩
        have : decide (V.int (((((z.cps.toList.filter fun c => decide (c ∈ abc.cps.toList)).map sg).map V.str).length : Nat) : Int) = V.int ((z.length : Nat) : Int)) = isWordL z := by
          rw [← et, decide_eq_true (show 0 < z.length by have := of_decide_eq_true c1; omega), decide_eq_true (show z.length < 9 by have := of_decide_eq_true c2; omega), List.length_map, List.length_map]
          rw [Bool.eq_iff_iff]
          simp
          omega
        rw [this]
        exact k _ s'
      · rw [decide_eq_false (show ¬ z.length < 9 from fun z' => c2 (decide_eq_true (by omega)))] at et
        rw [← et] at k
        simp only [Bool.and_false, Bool.false_and] at k
        exact k _ s'
      · rw [decide_eq_false (show ¬ 0 < z.length from fun z' => c1 (decide_eq_true (by omega)))] at et
        rw [← et] at k
        simp only [Bool.and_false, Bool.false_and] at k
        exact ⟨_, rfl, iteF (k _ s')⟩
end
end My
namespace My
open PySem PySem.Spec PyProof.Rows L2 PySem.GX L2H LamX
/-- the lines of a thing -/
def linesD (d : PyData) : List Str := match d with
  | .str t => Txt.split t nl
  | _ => []
def fitsD (d : PyData) : Bool := fitsB (linesD d)
/-- a thing that may be a text -/
def TxOk (d : PyData) : Prop := ∀ t, d = .str t → t.length ≤ 39000 ∧ PyData.strOk t = true ∧ ∀ l ∈ Txt.split t nl, l.length ≤ 3900
theorem TxOk.ln {d : PyData} (h : TxOk d) : (linesD d).length ≤ 39001 ∧ ∀ l ∈ linesD d, l.length ≤ 3900 ∧ PyData.strOk l = true := by
  match d, h with
  | .str t, h =>
    obtain ⟨a, b, c⟩ := h t rfl
    have := split_few t 10
    refine ⟨?_, fun l hl => ⟨c l hl, split_ok hl b⟩⟩
    show (Txt.split t nl).length ≤ _
    have e : (Txt.split t nl).length ≤ t.length + 1 := this
    omega
  | .none, _ => exact ⟨Nat.zero_le _, fun l hl => by cases hl⟩
  | .bool _, _ => exact ⟨Nat.zero_le _, fun l hl => by cases hl⟩
  | .int _, _ => exact ⟨Nat.zero_le _, fun l hl => by cases hl⟩
  | .list _, _ => exact ⟨Nat.zero_le _, fun l hl => by cases hl⟩
  | .tuple _, _ => exact ⟨Nat.zero_le _, fun l hl => by cases hl⟩
  | .dict _, _ => exact ⟨Nat.zero_le _, fun l hl => by cases hl⟩
theorem op_in_seqK {X : Cx} {K : PySem.W.Frag} (h : X.K = K) : OpR X (compareOp .In) (rIn K false) := by subst h; exact op_in_seq
theorem cut_len (z : Str) (lo hi : Option Int) : (cutS z lo hi).length ≤ z.length := by
  unfold cutS
  show (List.toArray _).size ≤ z.length
  rw [List.size_toArray, List.length_take, List.length_drop, Array.length_toList]
  show _ ≤ z.cps.size
  omega
theorem prs_len (x : Str) (ws : List Str) : (prsL x ws).length = ws.length * x.length := by
  unfold prsL
  induction ws with
  | nil => simp
  | cons a t ih =>
    rw [List.flatMap_cons, List.length_append, ih, List.length_map, Array.length_toList, List.length_cons, Nat.succ_mul, Nat.add_comm]
    rfl
theorem prs_snoc (x : Str) (ws : List Str) (t : Str) : prsL x (ws ++ [t]) = prsL x ws ++ x.cps.toList.map fun c => (t, c) := by
  unfold prsL
  rw [List.flatMap_append]
  simp
theorem goT_len {ws : List Str} : ∀ {ls ds : List Str}, ls.length ≠ ds.length → goT ws ls ds = false
  | [], [], h => absurd rfl h
  | [], _ :: _, _ => rfl
  | _ :: _, [], _ => rfl
  | l :: ls, d :: ds, h => by
    show (rowT ws l d && goT ws ls ds) = false
    rw [goT_len (by simpa using h), Bool.and_false]
theorem goT_all {ws : List Str} : ∀ {ls ds : List Str}, ls.length = ds.length → goT ws ls ds = ((List.range ds.length).map fun i => rowT ws (ls.getD i Str.empty) (ds.getD i Str.empty)).all id
  | [], [], _ => rfl
  | [], _ :: _, h => by cases h
  | _ :: _, [], h => by cases h
  | l :: ls, d :: ds, h => by
    show (rowT ws l d && goT ws ls ds) = _
    rw [goT_all (by simpa using h), List.length_cons, List.range_succ_eq_map, List.map_cons, List.all_cons, List.map_map]
    rfl
def spFits (K : PySem.W.Frag) : Sp := fun vs H Q _ => ∃ (v : V) (d : PyData), vs = [v] ∧ Sh K H v d ∧ TxOk d ∧ ∀ H', Same H H' → Q (.bl (fitsD d)) H'
def tLines (K : PySem.W.Frag) : TE := fun σ H Q => ∃ (v : V) (d : PyData), σ[0]? = some (some v) ∧ Sh K H v d ∧ TxOk d ∧ ∀ l H', Same H H' → H' l = some (.lst ((linesD d).map V.str)) → Q (.ref l) H'
section
variable {P : Program} {w : World} {K : PySem.W.Frag} {mg : Str → Option Value} {base : Heap}
abbrev nFits : List Str := ["_law_sheet", "_law_lines", "_law_letters", "_law_tempers", "_law_fine", "_law_due", "_law_temper", "_law_rows", "_law_word_here", "_law_glyph", "_law_k"]
theorem scFits : FnScope nFits ["_law_sheet"] (defScope sFits) := ⟨rfl, rfl, rfl, by decide +kernel, rfl, by decide +kernel, by decide +kernel⟩
theorem ok_fits {f : Addr} {fd : FuncData} (F : Fun K "_law_fits" "_law_fits" sFits f fd) (hTm : Hv P w K mg base 1 "_law_is_term" ["_law_word_here"] spTerm) (hIs : mg "isinstance" = none) (hSt : mg "str" = none) (hL : mg "len" = none) (hSe : mg "set" = none) (hSo : mg "sorted" = none) (hA : mg "all" = none) (hR : mg "range" = none) :
    FnOk P w K mg base CX0 2 f fd ["_law_sheet"] (spFits K) := by
  refine F.ok scFits (fun vs H Q E h => ?_) (fun cdv A outer s H vs Q E hr h => ?_)
  · obtain ⟨v, d, rfl, _⟩ := h
    rfl
  · obtain ⟨v, d, rfl, hd, tx, k⟩ := h
    have hu := hr.units
    refine ⟨_, pss_cons (ps_set (i := 1) scFits.nd rfl (Or.inl rfl) (PE_imp (t' := tLines K) (pe_ifExp (pt_val (pe_callB call_isi (by rfl) hIs (by decide +kernel) (pa_cons (pv 0) (pa_cons (pe_bltn (v := .ty "str") (by rfl) hSt (by decide +kernel) rfl) pa_nil))))
          (pe_m1 PySem.F.slot_str_split PySem.F.type_str_split mt_split (pv 0) pe_str) (pe_lst pa_nil)) ?iL))
      (pss_cons (ps_if (PW.pt (pw_or (pt_cmpR op_lt (pe_callB call_len_seq (by rfl) hL PySem.boot_len (pa_cons (pv 1) pa_nil)) pe_int (nomark _))
          (pw_or (pt_cmpR op_ne (pe_slice sl_str (pe_ix ix_list (pv 1) pe_int (fun _ _ => rfl)) po_none (po_some pe_int)) pe_str (nomark _))
          (pw_or1 (pt_cmpR op_ne (pe_slice sl_str (pe_ix ix_list (pv 1) pe_int (fun _ _ => rfl)) po_none (po_some pe_int)) pe_str (nomark _)))))) (pss_one (ps_ret pe_bl)) pss_nil)
      (pss_cons (ps_asg (pe_tup (pa_cons (pe_slice sl_str (pe_ix ix_list (pv 1) pe_int (fun _ _ => rfl)) (po_some pe_int) po_none)
          (pa_cons (pe_slice sl_list (pe_m1 PySem.F.slot_str_split PySem.F.type_str_split mt_split (pe_ix ix_list (pv 1) pe_int (fun _ _ => rfl)) pe_str) (po_some pe_int) po_none)
          (pa_cons (pe_m1 PySem.F.slot_str_split PySem.F.type_str_split mt_split (pe_ix ix_list (pv 1) pe_int (fun _ _ => rfl)) pe_str) pa_nil))))
          (pg_tup (by rfl) (pgs_cons (pg_name (i := 2) scFits.nd rfl (Or.inl rfl)) (pgs_cons (pg_name (i := 3) scFits.nd rfl (Or.inr rfl)) (pgs_cons (pg_name (i := 4) scFits.nd rfl (Or.inr rfl)) pgs_nil)))))
      (pss_cons (ps_if (PW.pt (pw_or (pt_not (pt_val (pe_cl hTm hr rfl pass0 (pa_cons (pv 2) pa_nil))))
          (pw_or (pt_cmpR op_gt (pe_callB call_len_str (by rfl) hL PySem.boot_len (pa_cons (pv 2) pa_nil)) pe_int (nomark _))
          (pw_or1 (pt_cmpR op_ne (pe_join pe_str (pe_callB (cr_sortedTx rfl) (by rfl) hSo (by decide +kernel) (pa_cons (pe_callTy (cr_setS rfl) (by rfl) hSe (by decide +kernel) (pa_cons (pv 2) pa_nil)) pa_nil))) (pv 2) (nomark _)))))) (pss_one (ps_ret pe_bl)) pss_nil)
      (pss_cons (ps_if (PW.pt (pw_or (pt_cmpR (op_neD hu) (pe_lc (own := [("_law_word_here", 8)]) (g := gName 8) rfl scFits.nd (pi_list (pv 3)) (blkOk_by (N := nFits) (sc := defScope sFits) (by decide +kernel)) (fun _ _ _ _ _ => pg_name (i := 8) scFits.nd rfl (Or.inl rfl))
            (fun _ _ _ _ _ => pts_one (pt_not (pt_val (pe_cl hTm hr rfl pass0 (pa_cons (pv 8) pa_nil))))) (fun _ _ _ _ _ => pv 8)) (pe_lst pa_nil) (nomark _))
          (pw_or (pt_cmpR op_ne (pe_callB cr_lenSet (by rfl) hL PySem.boot_len (pa_cons (pe_callTy (cr_setL rfl) (by rfl) hSe (by decide +kernel) (pa_cons (pv 3) pa_nil)) pa_nil)) (pe_callB call_len_seq (by rfl) hL PySem.boot_len (pa_cons (pv 3) pa_nil)) (nomark _))
          (pw_or1 (pt_cmpR op_gt (pe_callB call_len_seq (by rfl) hL PySem.boot_len (pa_cons (pv 3) pa_nil)) pe_int (nomark _)))))) (pss_one (ps_ret pe_bl)) pss_nil)
      (pss_cons (ps_if (PW.pt (pw_or (pt_cmpR op_ne (pe_ix ix_list (pv 4) pe_int (fun _ _ => rfl)) pe_str (nomark _))
          (pw_or1 (pt_cmpR (op_neD hu) (pe_slice sl_list (pv 4) (po_some pe_int) po_none) (pe_lc (own := [("_law_word_here", 8)]) (g := gName 8) rfl scFits.nd (pi_list (pv 3)) (blkOk_by (N := nFits) (sc := defScope sFits) (by decide +kernel)) (fun _ _ _ _ _ => pg_name (i := 8) scFits.nd rfl (Or.inl rfl))
            (fun _ _ _ _ _ => pts_one (pt_cmpR (op_in_seqK (K := K) rfl) (pv 8) (pe_slice (sl_listK (K := K) rfl) (pv 4) (po_some pe_int) po_none) (by rfl))) (fun _ _ _ _ _ => pv 8)) (nomark _))))) (pss_one (ps_ret pe_bl)) pss_nil)
      (pss_cons (ps_set (i := 5) scFits.nd rfl (Or.inr rfl) (pe_lst pa_nil))
      (pss_cons (ps_for PassesOwn.never rfl (pi_list (pv 3)) (pg_name (i := 6) scFits.nd rfl (Or.inr rfl)) (pss_one (ps_set (i := 5) scFits.nd rfl (Or.inr rfl) (pe_op op_cat (pv 5) (pe_lc (own := [("_law_glyph", 9)]) (g := gName 9) (tt := tYes) rfl scFits.nd (pi_str (pv 2)) (blkOk_by (N := nFits) (sc := defScope sFits) (by decide +kernel))
            (fun _ _ _ _ _ => pg_name (i := 9) scFits.nd rfl (Or.inl rfl)) (fun _ _ _ _ _ => pts_nil) (fun _ _ _ _ _ => pe_op op_add_str (pe_op op_add_str (pe_op op_add_str (pv 6) pe_str) (pv 9)) pe_str))))))
      (pss_cons (ps_set (i := 7) scFits.nd rfl (Or.inr rfl) (pe_slice sl_list (pv 1) (po_some pe_int) po_none))
      (pss_cons (ps_if (pt_cmpR op_ne (pe_callB call_len_seq (by rfl) hL PySem.boot_len (pa_cons (pv 7) pa_nil)) (pe_callB call_len_seq (by rfl) hL PySem.boot_len (pa_cons (pv 5) pa_nil)) (nomark _)) (pss_one (ps_ret pe_bl)) pss_nil)
      (pss_one (ps_ret (pe_callB (cr_all rfl) (by rfl) hA (by decide +kernel) (pa_cons (pe_lc (own := [("_law_k", 10)]) (g := gName 10) (tt := tYes) rfl scFits.nd (pi_range1 rfl hR (pa_cons (pe_callB call_len_seq (by rfl) hL PySem.boot_len (pa_cons (pv 5) pa_nil)) pa_nil))
            (blkOk_by (N := nFits) (sc := defScope sFits) (by decide +kernel)) (fun _ _ _ _ _ => pg_name (i := 10) scFits.nd rfl (Or.inl rfl)) (fun _ _ _ _ _ => pts_nil)
            (fun _ _ _ _ _ => pe_and (pe_cmpR op_eq (pe_slice sl_str (pe_ix (ix_listK (K := K) rfl) (pv 7) (pv 10) (fun _ _ => rfl)) po_none (po_some (pe_callB call_len_str (by rfl) hL PySem.boot_len (pa_cons (pe_ix (ix_listK (K := K) rfl) (pv 5) (pv 10) (fun _ _ => rfl)) pa_nil)))) (pe_ix (ix_listK (K := K) rfl) (pv 5) (pv 10) (fun _ _ => rfl)) (nomark _))
              (pe_one (pe_cmpR (op_in_seqK (K := K) rfl) (pe_slice sl_str (pe_ix (ix_listK (K := K) rfl) (pv 7) (pv 10) (fun _ _ => rfl)) (po_some (pe_callB call_len_str (by rfl) hL PySem.boot_len (pa_cons (pe_ix (ix_listK (K := K) rfl) (pv 5) (pv 10) (fun _ _ => rfl)) pa_nil))) po_none) (pv 3) (by rfl))))) pa_nil))))))))))))), ?_⟩
    case iL =>
      rintro σ H Q ⟨v, d, e0, hd, tx, q⟩
      have enl : (Str.ofString "\n") = nl := by decide +kernel
      rcases sh_ty hd with ⟨t, rfl, rfl⟩ | ⟨ty, hty, hk⟩
      · refine ⟨_, e0, .str t, .ty "str", _, .type "str", true, rfl, .ty _, .base (.str t), kit_ty (by decide +kernel), _, rfl, iteT ?_⟩
        refine ⟨_, e0, ⟨_, rfl⟩, t, _, rfl, rfl, rfl, by rw [sizeLine_eq]; have := (tx t rfl).1; omega, fun p hp => ?_⟩
        rw [enl]
        exact q p _ (same_new hp) upd_same
      · refine ⟨_, e0, v, .ty "str", ty, .type "str", false, rfl, .ty _, hty, hk, _, rfl, iteF ⟨by show 0 ≤ sizeLine; decide, fun l hl => q l _ (same_new hl) ?_⟩⟩
        have : linesD d = [] := by
          match d, hd with
          | .str z, hd =>
            cases hd with
            | fl f =>
              cases f
              exfalso
              cases hty with
              | base b => cases b; rw [kit_ty (show _ = some true by decide +kernel)] at hk; cases hk
          | .none, _ => rfl
          | .int _, _ => rfl
          | .bool _, _ => rfl
          | .list _, _ => rfl
          | .tuple _, _ => rfl
          | .dict _, _ => rfl
        rw [this]
        exact upd_same
    refine ⟨v, d, rfl, hd, tx, fun l1 H1 s1 e1 => ?_⟩
    obtain ⟨tl, tl2⟩ := tx.ln
    have k : ∀ H', Same H H' → Q (.bl (fitsB (linesD d))) H' := k
    generalize linesD d = L at e1 tl tl2 k
    clear hd tx
    have esp : (Str.ofString " ") = sp := by decide +kernel
    refine ⟨_, rfl, l1, _, rfl, .inl (SqL.of e1), _, _, rfl, rfl, _, rfl, ite2 (fun c => ?_) (fun c => ?_)⟩
    · have l3 : L.length < 3 := by
        have := of_decide_eq_true c
        rw [List.length_map] at this
        omega
      have : fitsB L = false := by
        match L, l3 with
        | [], _ => rfl
        | [_], _ => rfl
        | [_, _], _ => rfl
      rw [this] at k
      exact iteT (k _ s1)
    · have l3 : 3 ≤ L.length := by
        have : ¬ L.length < 3 := fun z => c (decide_eq_true (by rw [List.length_map]; omega))
        omega
      obtain ⟨y0, y1, y2, rows, rfl⟩ : ∃ y0 y1 y2 rows, L = y0 :: y1 :: y2 :: rows := by
        match L, l3 with
        | y0 :: y1 :: y2 :: rows, _ => exact ⟨y0, y1, y2, rows, rfl⟩
      clear c l3
      obtain ⟨z0, k0⟩ := tl2 y0 (by simp)
      obtain ⟨z1, k1⟩ := tl2 y1 (by simp)
      obtain ⟨z2, k2⟩ := tl2 y2 (by simp)
      have zs0 : y0.length ≤ sizeLine := by rw [sizeLine_eq]; omega
      have zs1 : y1.length ≤ sizeLine := by rw [sizeLine_eq]; omega
      have fe : fitsB (y0 :: y1 :: y2 :: rows) = (decide (cutS y0 none (some (6 : Int)) = "signs ") && decide (cutS y1 none (some (6 : Int)) = "moods ") &&
        (isWordL (cutS y0 (some (6 : Int)) none) && decide ((cutS y0 (some (6 : Int)) none).length ≤ 3) && decide ((cutS y0 (some (6 : Int)) none).cps.toList.Pairwise (· < ·))) &&
        ((Txt.split y1 sp).tail.all isWordL && decide (Txt.split y1 sp).tail.Nodup && decide ((Txt.split y1 sp).tail.length ≤ 300)) &&
        (decide ((Txt.split y2 sp).headD Str.empty = "good") && decide ((Txt.split y2 sp).tail = (Txt.split y1 sp).tail.filter fun w => decide (w ∈ (Txt.split y2 sp).tail))) &&
        goT (Txt.split y1 sp).tail rows ((prsL (cutS y0 (some (6 : Int)) none) (Txt.split y1 sp).tail).map dueOf)) := rfl
      rw [fe] at k
      clear fe
      refine ⟨_, rfl, l1, _, _, _, rfl, rfl, SqL.of e1, atI_nat (j := 0) rfl, _, rfl, y0, rfl, zs0, rfl, _, rfl, ite2 (fun c => ?_) (fun c => ?_)⟩
      · have : ¬ cutS y0 none (some (6 : Int)) = "signs " := fun z => by
          rw [z] at c
          simp at c
        rw [decide_eq_false this] at k
        simp only [Bool.false_and, Bool.and_false] at k
        exact iteT (k _ s1)
      have a0 : cutS y0 none (some (6 : Int)) = "signs " := by
        apply Classical.byContradiction
        intro z
        exact c (by simp [z])
      clear c
      refine ⟨_, rfl, l1, _, _, _, rfl, rfl, SqL.of e1, atI_nat (j := 1) rfl, _, rfl, y1, rfl, zs1, rfl, _, rfl, ite2 (fun c => ?_) (fun c => ?_)⟩
      · have : ¬ cutS y1 none (some (6 : Int)) = "moods " := fun z => by
          rw [z] at c
          simp at c
        rw [decide_eq_false this] at k
        simp only [Bool.false_and, Bool.and_false] at k
        exact k _ s1
      have a1 : cutS y1 none (some (6 : Int)) = "moods " := by
        apply Classical.byContradiction
        intro z
        exact c (by simp [z])
      clear c
      rw [decide_eq_true a0, decide_eq_true a1, Bool.and_self, Bool.true_and] at k
      refine ⟨_, rfl, l1, _, _, _, rfl, rfl, SqL.of e1, atI_nat (j := 0) rfl, _, rfl, y0, rfl, zs0, ?_⟩
      refine ⟨_, rfl, l1, _, _, _, rfl, rfl, SqL.of e1, atI_nat (j := 1) rfl, ⟨_, rfl⟩, y1, _, rfl, rfl, rfl, by rw [sizeLine_eq]; omega, fun p1 hp1 => ?_⟩
      rw [esp]
      refine ⟨_, rfl, p1, _, rfl, SqL.of upd_same, fun l3 h3 => ?_⟩
      rw [show (1 : Int) = ((1 : Nat) : Int) from rfl, cut_fromV _ 1 (by decide), ← List.map_drop, List.drop_one]
      have e3 : upd (upd H1 p1 (.lst ((Txt.split y1 sp).map V.str))) l3 (.lst ((Txt.split y1 sp).tail.map V.str)) l3 = some (.lst ((Txt.split y1 sp).tail.map V.str)) := upd_same
      have sA : Same H1 (upd (upd H1 p1 (.lst ((Txt.split y1 sp).map V.str))) l3 (.lst ((Txt.split y1 sp).tail.map V.str))) := (same_new hp1).trans (same_new h3)
      generalize upd (upd H1 p1 (.lst ((Txt.split y1 sp).map V.str))) l3 (.lst ((Txt.split y1 sp).tail.map V.str)) = H2 at e3 sA ⊢
      have e1 := sA _ _ e1
      have s1 := s1.trans sA
      clear sA h3 hp1
      refine ⟨_, rfl, l1, _, _, _, rfl, rfl, SqL.of e1, atI_nat (j := 2) rfl, ⟨_, rfl⟩, y2, _, rfl, rfl, rfl, by rw [sizeLine_eq]; omega, fun l4 h4 => ?_⟩
      refine ⟨by show 3 ≤ sizeLine; decide, fun t5 h5 => ?_⟩
      have e4 : upd (upd H2 l4 (.lst ((Txt.split y2 sp).map V.str))) t5 (.tup [.str (cutS y0 (some (6 : Int)) none), .ref l3, .ref l4]) l4 = some (.lst ((Txt.split y2 sp).map V.str)) := keep1 upd_same h5
      refine ⟨t5, _, rfl, SqT.of upd_same, rfl, _, _, rfl, _, _, rfl, _, _, rfl, rfl, ?_⟩
      have sA : Same H2 (upd (upd H2 l4 (.lst ((Txt.split y2 sp).map V.str))) t5 (.tup [.str (cutS y0 (some (6 : Int)) none), .ref l3, .ref l4])) := (same_new h4).trans (same_new h5)
      generalize upd (upd H2 l4 (.lst ((Txt.split y2 sp).map V.str))) t5 (.tup [.str (cutS y0 (some (6 : Int)) none), .ref l3, .ref l4]) = H3 at e4 sA ⊢
      have e1 := sA _ _ e1
      have e3 := sA _ _ e3
      have s1 := s1.trans sA
      clear sA h4 h5
      have lx : (cutS y0 (some (6 : Int)) none).length ≤ 3900 := Nat.le_trans (cut_len _ _ _) z0
      have wz : ∀ z ∈ (Txt.split y1 sp).tail, z.length ≤ 3900 ∧ PyData.strOk z = true := fun z hz => ⟨Nat.le_trans (split_small (List.mem_of_mem_tail hz)) z1, split_ok (List.mem_of_mem_tail hz) k1⟩
      have wn : (Txt.split y1 sp).tail.length ≤ 3900 := by
        have : (Txt.split y1 sp).length ≤ y1.length + 1 := split_few y1 32
        rw [List.length_tail]
        omega
      have fz : ∀ z ∈ Txt.split y2 sp, z.length ≤ 3900 ∧ PyData.strOk z = true := fun z hz => ⟨Nat.le_trans (split_small hz) z2, split_ok hz k2⟩
      have fn : (Txt.split y2 sp).length ≤ 3901 := by
        have : (Txt.split y2 sp).length ≤ y2.length + 1 := split_few y2 32
        omega
      obtain ⟨g0, gs, efs⟩ := List.exists_cons_of_ne_nil (split_ne y2 32)
      have efs : Txt.split y2 sp = g0 :: gs := efs
      rw [efs] at k e4 fz fn
      have k : ∀ H', Same H H' → Q (.bl ((isWordL (cutS y0 (some (6 : Int)) none) && decide ((cutS y0 (some (6 : Int)) none).length ≤ 3) && decide ((cutS y0 (some (6 : Int)) none).cps.toList.Pairwise (· < ·))) &&
        ((Txt.split y1 sp).tail.all isWordL && decide (Txt.split y1 sp).tail.Nodup && decide ((Txt.split y1 sp).tail.length ≤ 300)) &&
        (decide (g0 = "good") && decide (gs = (Txt.split y1 sp).tail.filter fun w => decide (w ∈ gs))) &&
        goT (Txt.split y1 sp).tail rows ((prsL (cutS y0 (some (6 : Int)) none) (Txt.split y1 sp).tail).map dueOf))) H' := k
      generalize cutS y0 (some (6 : Int)) none = x at lx k ⊢
      generalize (Txt.split y1 sp).tail = ws at wz wn k e3
      clear efs a0 a1 z0 z1 z2 k0 k1 k2 zs0 zs1
      refine ⟨_, rfl, x, rfl, by omega, fun H4 s4 => ⟨_, rfl, ite2 (fun c => ?_) (fun c => ?_)⟩⟩
      · have : isWordL x = false := by simpa using c
        rw [this] at k
        simp only [Bool.false_and, Bool.and_false] at k
        exact iteT (k _ (s1.trans s4))
      have b1 : isWordL x = true := by simpa using c
      clear c
      have e1 := s4 _ _ e1
      have e3 := s4 _ _ e3
      have e4 := s4 _ _ e4
      have s1 := s1.trans s4
      clear s4
      have zx : x.length ≤ sizeLine := by rw [sizeLine_eq]; omega
      refine ⟨_, rfl, x, rfl, zx, _, _, rfl, rfl, _, rfl, ite2 (fun c => ?_) (fun c => ?_)⟩
      · have : ¬ x.length ≤ 3 := by have := of_decide_eq_true c; omega
        rw [decide_eq_false this] at k
        simp only [Bool.false_and, Bool.and_false] at k
        exact iteT (k _ s1)
      have b2 : x.length ≤ 3 := by
        apply Classical.byContradiction
        intro z
        exact c (decide_eq_true (by omega))
      clear c
      refine ⟨⟨_, rfl⟩, _, rfl, x, rfl, (by omega), fun p hp => ⟨p, _, rfl, upd_same, fun zs q pz sz hq => ?_⟩⟩
      have hlen : zs.length ≤ 3 := by
        rw [pz.length_eq]
        have := setFold_len _ (signsOf x) rfl
        have e2 : (signsOf x).length = x.length := by unfold signsOf; rw [List.length_map, Array.length_toList]; rfl
        omega
      have hone : ∀ z ∈ zs, z.length = 1 := fun z hz => by
        have := (setFold_all _ (signsOf x) rfl).2.1 z |>.mp (pz.mem_iff.mp hz)
        unfold signsOf at this
        obtain ⟨c, _, rfl⟩ := List.mem_map.mp this
        rfl
      refine ⟨_, q, zs, rfl, rfl, .inl (SqL.of upd_same), ?_, ?_⟩
      · have : (zs.map (·.length)).sum = zs.length := by
          clear pz sz hq hlen
          induction zs with
          | nil => rfl
          | cons z t ih =>
            rw [List.map_cons, List.sum_cons, ih (fun y hy => hone y (by simp [hy])), hone z (by simp), List.length_cons]
            omega
        rw [this]
        have e0 : (Str.ofString "").length = 0 := rfl
        rw [e0]
        omega
      have ej : decide (V.str (Txt.join Str.empty zs) = V.str x) = decide (x.cps.toList.Pairwise (· < ·)) := by
        rw [← asc_join pz sz, Bool.eq_iff_iff, decide_eq_true_eq, decide_eq_true_eq]
        exact ⟨Eq.symm, Eq.symm⟩
      have sB : Same H (upd (upd H4 p (SetTx w p (setFold (signsOf x)))) q (.lst (zs.map V.str))) := s1.trans ((same_new hp).trans (same_new (o := .lst (zs.map V.str)) hq))
      have e1 := keep1 (keep1 (o := SetTx w p (setFold (signsOf x))) e1 hp) (o := .lst (zs.map V.str)) hq
      have e3 := keep1 (keep1 (o := SetTx w p (setFold (signsOf x))) e3 hp) (o := .lst (zs.map V.str)) hq
      have e4 := keep1 (keep1 (o := SetTx w p (setFold (signsOf x))) e4 hp) (o := .lst (zs.map V.str)) hq
      refine ⟨_, rfl, rfl, _, rfl, ?_⟩
      show if (!decide (V.str (Txt.join Str.empty zs) = V.str x)) = true then _ else _
      rw [ej]
      rw [show (cxOf CX0 P w K mg base nFits "_law_fits" (defScope sFits) f cdv A outer s H E).nox.w = w from rfl]
      generalize upd (upd H4 p (SetTx w p (setFold (signsOf x)))) q (.lst (zs.map V.str)) = H5 at sB e1 e3 e4 ⊢
      have s1 := sB
      clear ej hone hlen pz sz hq hp sB
      refine ite2 (fun c => ?_) (fun c => ?_)
      · have : decide (x.cps.toList.Pairwise (· < ·)) = false := by simpa using c
        rw [this] at k
        simp only [Bool.false_and, Bool.and_false] at k
        exact k _ s1
      have b3 : decide (x.cps.toList.Pairwise (· < ·)) = true := by simpa using c
      clear c
      rw [b1, b3, decide_eq_true b2, Bool.and_self, Bool.and_self, Bool.true_and] at k
      refine ⟨_, rfl, l3, rfl, ⟨_, SqL.of e3⟩, fun D hD => ?_⟩
      refine lcG ws (fun z => if (!isWordL z) = true then some (.str z) else none) (walk_listL ws V.str) (by omega) hD (yat_same _) (fun H' s => SqL.of (s _ _ e3)) (fun i z u H' H'' kk hz s2 hy k2 => ?_) (fun H6 s6 e6 => ?_)
      · obtain ⟨rfl, hy⟩ := hy
        obtain rfl := map_get hz hy
        refine ⟨rfl, _, rfl, z, rfl, by have := (wz z (List.mem_of_getElem? hz)).1; omega, fun H7 s7 => ⟨_, rfl, ?_⟩⟩
        have k3 := k2 _ s7
        refine ite2 (fun b => ?_) (fun b => ?_)
        · rw [if_pos b] at k3
          exact ⟨_, rfl, k3⟩
        · rw [if_neg b] at k3
          exact k3
      rw [fm_filter] at e6
      have e1 := s6 _ _ e1
      have e3 := s6 _ _ e3
      have e4 := s6 _ _ e4
      have s1 := s1.trans s6
      refine ⟨by show 0 ≤ sizeLine; decide, fun l hl => ⟨_, _, dp_dTx (keep1 e6 hl), dp_dTx (ws := []) upd_same, shaped_dTx (fun z hz => (wz z (List.mem_filter.mp hz).1).2), shaped_dTx (fun z hz => by cases hz), _, rfl, ?_⟩⟩
      rw [eqv_dTx]
      have e1 := keep1 e1 hl (o := .lst [])
      have e3 := keep1 e3 hl (o := .lst [])
      have e4 := keep1 e4 hl (o := .lst [])
      have s1 := s1.trans (same_new hl (o := .lst []))
      have ew : decide (ws.filter (fun z => !isWordL z) = []) = ws.all isWordL := by
        rw [Bool.eq_iff_iff, decide_eq_true_eq, List.filter_eq_nil_iff, List.all_eq_true]
        exact ⟨fun h z hz => by simpa using h z hz, fun h z hz => by simpa using h z hz⟩
      rw [ew]
      generalize upd H6 l (.lst []) = H7 at e1 e3 e4 s1 ⊢
      clear e6 hl s6 hD ew
      refine ite2 (fun c => ?_) (fun c => ?_)
      · have : ws.all isWordL = false := by simpa using c
        rw [this] at k
        simp only [Bool.false_and, Bool.and_false] at k
        exact iteT (k _ s1)
      have d1 : ws.all isWordL = true := by simpa using c
      clear c
      refine ⟨_, rfl, l3, ws, rfl, SqL.of e3, by omega, fun p hp => ⟨p, setFold ws, rfl, upd_same, _, rfl, l3, _, rfl, .inl (SqL.of (keep1 e3 hp)), rfl, _, rfl, ?_⟩⟩
      have e1 := keep1 e1 hp (o := SetTx w p (setFold ws))
      have e3 := keep1 e3 hp (o := SetTx w p (setFold ws))
      have e4 := keep1 e4 hp (o := SetTx w p (setFold ws))
      have s1 := s1.trans (same_new hp (o := SetTx w p (setFold ws)))
      have en : decide (V.int ((setFold ws).length : Int) = V.int ((ws.map V.str).length : Int)) = decide ws.Nodup := by
        rw [← setFold_eqlen, List.length_map, Bool.eq_iff_iff, decide_eq_true_eq, decide_eq_true_eq]
        constructor
        · intro z
          have : ((setFold ws).length : Int) = (ws.length : Int) := by injection z
          omega
        · intro z
          rw [z]
      show if (!decide (V.int ((setFold ws).length : Int) = V.int ((ws.map V.str).length : Int))) = true then _ else _
      rw [en]
      try rw [show (cxOf CX0 P w K mg base nFits "_law_fits" (defScope sFits) f cdv A outer s H E).nox.w = w from rfl]
      generalize upd H7 p (SetTx w p (setFold ws)) = H8 at e1 e3 e4 s1 ⊢
      clear en hp
      refine ite2 (fun c => ?_) (fun c => ?_)
      · have : decide ws.Nodup = false := by simpa using c
        rw [this] at k
        simp only [Bool.false_and, Bool.and_false] at k
        exact iteT (k _ s1)
      have d2 : decide ws.Nodup = true := by simpa using c
      clear c
      refine ⟨_, rfl, l3, _, rfl, .inl (SqL.of e3), _, _, rfl, rfl, _, rfl, ite2 (fun c => ?_) (fun c => ?_)⟩
      · have : ¬ ws.length ≤ 300 := by
          have := of_decide_eq_true c
          rw [List.length_map] at this
          omega
        rw [decide_eq_false this] at k
        simp only [Bool.false_and, Bool.and_false] at k
        exact k _ s1
      have d3 : ws.length ≤ 300 := by
        apply Classical.byContradiction
        intro z
        exact c (decide_eq_true (by rw [List.length_map]; omega))
      clear c
      rw [d1, d2, decide_eq_true d3, Bool.and_self, Bool.and_self, Bool.true_and] at k
      refine ⟨_, rfl, l4, _, _, _, rfl, rfl, SqL.of e4, atI_nat (j := 0) rfl, rfl, _, rfl, ite2 (fun c => ?_) (fun c => ?_)⟩
      · have : ¬ g0 = "good" := fun z => by
          rw [z] at c
          simp at c
        rw [decide_eq_false this] at k
        simp only [Bool.false_and, Bool.and_false] at k
        exact iteT (k _ s1)
      have f1 : g0 = "good" := by
        apply Classical.byContradiction
        intro z
        exact c (by simp [z])
      clear c
      rw [decide_eq_true f1, Bool.true_and] at k
      refine ⟨_, rfl, _, rfl, l4, _, rfl, SqL.of e4, fun p hp => ?_⟩
      rw [cut_fromV _ 1 (by decide)]
      have ep : upd H8 p (.lst (((g0 :: gs).map V.str).drop 1)) p = some (.lst (gs.map V.str)) := upd_same
      have e1 := keep1 e1 hp (o := .lst (((g0 :: gs).map V.str).drop 1))
      have e3 := keep1 e3 hp (o := .lst (((g0 :: gs).map V.str).drop 1))
      have e4 := keep1 e4 hp (o := .lst (((g0 :: gs).map V.str).drop 1))
      have s1 := s1.trans (same_new hp (o := .lst (((g0 :: gs).map V.str).drop 1)))
      generalize upd H8 p (.lst (((g0 :: gs).map V.str).drop 1)) = H9 at ep e1 e3 e4 s1 ⊢
      refine ⟨_, rfl, l3, rfl, ⟨_, SqL.of e3⟩, fun D hD => ?_⟩
      refine lcG ws (fun z => if decide (z ∈ gs) = true then some (.str z) else none) (walk_listL ws V.str) (by omega) hD (yat_same _) (fun H' s => SqL.of (s _ _ e3)) (fun i z u H' H'' kk hz s2 hy k2 => ?_) (fun HA sA eA => ?_)
      · obtain ⟨rfl, hy⟩ := hy
        obtain rfl := map_get hz hy
        refine ⟨rfl, _, rfl, _, rfl, _, rfl, l4, _, rfl, SqL.of (s2 _ _ e4), fun q hq => ?_⟩
        rw [cut_fromV _ 1 (by decide)]
        refine ⟨q, gs.map V.str, rfl, .inl (SqL.of upd_same), rfl, flat_strs _, _, rfl, ?_⟩
        have k3 := k2 _ (same_new (o := .lst (((g0 :: gs).map V.str).drop 1)) hq)
        show if inV (.str z) (gs.map V.str) = true then _ else _
        rw [in_strs]
        refine ite2 (fun b => ?_) (fun b => ?_)
        · rw [if_pos b] at k3
          exact ⟨_, rfl, k3⟩
        · rw [if_neg b] at k3
          exact k3
      rw [fm_filter] at eA
      have e1 := sA _ _ e1
      have e3 := sA _ _ e3
      have s1 := s1.trans sA
      refine ⟨_, _, dp_dTx (sA _ _ ep), dp_dTx eA, shaped_dTx (fun z hz => (fz z (List.mem_cons_of_mem _ hz)).2), shaped_dTx (fun z hz => (wz z (List.mem_filter.mp hz).1).2), _, rfl, ?_⟩
      rw [eqv_dTx]
      clear eA ep e4 hD hp
      refine ite2 (fun c => ?_) (fun c => ?_)
      · have : decide (gs = ws.filter fun w => decide (w ∈ gs)) = false := by simpa using c
        rw [this] at k
        simp only [Bool.false_and, Bool.and_false] at k
        exact k _ s1
      have f2 : decide (gs = ws.filter fun w => decide (w ∈ gs)) = true := by simpa using c
      clear c
      rw [f2, Bool.true_and] at k
      refine ⟨by show 0 ≤ sizeLine; decide, fun l5 h5 => ?_⟩
      have e1 := keep1 e1 h5 (o := .lst [])
      have e3 := keep1 e3 h5 (o := .lst [])
      have s1 := s1.trans (same_new h5 (o := .lst []))
      have e5 : upd HA l5 (.lst []) l5 = some (.lst []) := upd_same
      generalize upd HA l5 (.lst []) = HB at e1 e3 e5 s1 ⊢
      clear h5
      refine ⟨_, rfl, l3, rfl, ⟨_, SqL.of e3⟩, ?_⟩
      refine for_it (walk_listL ws V.str) (fun i σ H' => ∃ (l : Addr) (v6 : Option V), σ = [some v, some (.ref l1), some (.str x), some (.ref l3), some (.ref l4), some (.ref l), v6, none, none, none, none] ∧ Same HB H' ∧ H' l = some (.lst (((prsL x (ws.take i)).map dueOf).map V.str))) ⟨l5, none, rfl, Same.refl _, e5⟩ (fun i σ H' _ h => by
          obtain ⟨l, v6, rfl, sB, _⟩ := h
          exact SqL.of (sB _ _ e3)) (fun i y σ H2 H3 hi h hy => ?_) (fun σ H2 h => ?_)
      · obtain ⟨rfl, hy⟩ := hy
        obtain ⟨l, v6, rfl, sB, el⟩ := h
        have hz : ws[i]? = some ws[i] := List.getElem?_eq_getElem hi
        obtain rfl := map_get hz hy
        have zt := (wz _ (List.mem_of_getElem? hz)).1
        refine ⟨_, rfl, _, rfl, x, rfl, fun D hD => ?_⟩
        refine lcG (x.cps.toList) (fun c => some (.str (dueOf (ws[i], c)))) (by rw [Array.length_toList]; exact walk_str) (by rw [Array.length_toList]; show x.length ≤ _; omega) hD (fun i H x H' h => by rw [h.1]; exact Same.refl _) (fun _ _ => trivial) (fun j c y H' H'' k1 hc s2 hy k2 => ?_) (fun HC sC eC => ?_)
        · obtain ⟨rfl, c', hc', rfl⟩ := hy
          rw [← Array.getElem?_toList, hc] at hc'
          cases hc'
          have l0 : sp.length = 1 := rfl
          refine ⟨rfl, _, rfl, _, _, rfl, rfl, by rw [l0, sizeLine_eq]; omega, _, rfl, _, _, rfl, rfl, by rw [len_app, l0, sizeLine_eq]; show _ + 1 + 1 ≤ _; omega, _, _, rfl, rfl, by rw [len_app, len_app, l0, sizeLine_eq]; show _ + 1 + 1 + 1 ≤ _; omega, ?_⟩
          exact k2 _ (Same.refl _)
        · have eC' : HC D = some (.lst ((x.cps.toList.map fun c => dueOf (ws[i], c)).map V.str)) := by
            rw [eC, List.filterMap_eq_map', List.map_map]
            rfl
          have dl : ((prsL x (ws.take i)).map dueOf).length ≤ 1000000 := by
            rw [List.length_map, prs_len, List.length_take]
            have : min i ws.length * x.length ≤ 300 * 3 := Nat.mul_le_mul (by omega) b2
            omega
          have dxl : (x.cps.toList.map fun c => dueOf (ws[i], c)).length = x.length := by
            rw [List.length_map, Array.length_toList]
            rfl
          refine ⟨l, D, _, _, rfl, rfl, sC _ _ el, eC', by rw [List.length_map (f := V.str), List.length_map (f := V.str), dxl, sizeLine_eq]; omega, fun q hq => ⟨q, _, rfl, sB.trans (sC.trans (same_new hq)), ?_⟩⟩
          rw [upd_same, ← List.map_append]
          congr 3
          rw [List.take_add_one, hz, Option.toList_some, prs_snoc, List.map_append, List.map_map]
          rfl
      · obtain ⟨l, v6, rfl, sB, el⟩ := h
        rw [List.take_length] at el
        have e1 := sB _ _ e1
        have e3 := sB _ _ e3
        have s1 := s1.trans sB
        clear sB e5
        refine ⟨_, rfl, _, rfl, l1, _, rfl, SqL.of e1, fun l7 h7 => ?_⟩
        rw [show (3 : Int) = ((3 : Nat) : Int) from rfl, cut_fromV _ 3 (by decide), ← List.map_drop]
        have e7 : upd H2 l7 (.lst (((y0 :: y1 :: y2 :: rows).drop 3).map V.str)) l7 = some (.lst (rows.map V.str)) := upd_same
        have e3 := keep1 e3 h7 (o := .lst (((y0 :: y1 :: y2 :: rows).drop 3).map V.str))
        have el := keep1 el h7 (o := .lst (((y0 :: y1 :: y2 :: rows).drop 3).map V.str))
        have s1 := s1.trans (same_new h7 (o := .lst (((y0 :: y1 :: y2 :: rows).drop 3).map V.str)))
        generalize upd H2 l7 (.lst (((y0 :: y1 :: y2 :: rows).drop 3).map V.str)) = HD at e7 e3 el s1 ⊢
        clear h7 e1
        generalize hdu : (prsL x ws).map dueOf = du at el k
        have dz : ∀ z ∈ du, z.length ≤ 4000 := fun z hz => by
          rw [← hdu] at hz
          obtain ⟨q, hq, rfl⟩ := List.mem_map.mp hz
          unfold prsL at hq
          obtain ⟨t, ht, hq⟩ := List.mem_flatMap.mp hq
          obtain ⟨c, _, rfl⟩ := List.mem_map.mp hq
          unfold dueOf
          rw [len_app, len_app, len_app]
          have := (wz t ht).1
          show t.length + 1 + 1 + 1 ≤ 4000
          omega
        have dn : du.length ≤ 1000000 := by
          rw [← hdu, List.length_map, prs_len]
          have : ws.length * x.length ≤ 300 * 3 := Nat.mul_le_mul d3 b2
          omega
        refine ⟨_, rfl, l7, _, rfl, .inl (SqL.of e7), _, rfl, l, _, rfl, .inl (SqL.of el), rfl, _, rfl, ite2 (fun c => ?_) (fun c => ?_)⟩
        · have ne : rows.length ≠ du.length := fun z => by
            rw [List.length_map, List.length_map, z] at c
            simp at c
          rw [goT_len ne] at k
          exact k _ s1
        have eq : rows.length = du.length := by
          apply Classical.byContradiction
          intro z
          apply c
          rw [List.length_map, List.length_map]
          simp
          omega
        clear c
        rw [goT_all eq] at k
        refine ⟨_, rfl, l, _, rfl, .inl (SqL.of el), (du.length : Int), by rw [List.length_map], by omega, by omega, fun D hD => ?_⟩
        refine lcG (List.range du.length) (fun i => some (.bl (rowT ws (rows.getD i Str.empty) (du.getD i Str.empty)))) (by rw [List.length_range]; exact walk_range (lo := 0)) (by rw [List.length_range]; omega) hD (fun i H x H' h => by rw [h.1]; exact Same.refl _) (fun _ _ => trivial) (fun j i' y H' H'' k1 hj s2 hy k2 => ?_) (fun HE sE eE => ?_)
        · obtain ⟨rfl, rfl⟩ := hy
          have hj' : j < du.length := by
            apply Classical.byContradiction
            intro z
            rw [List.getElem?_eq_none (by rw [List.length_range]; omega)] at hj
            cases hj
          rw [List.getElem?_range hj'] at hj
          cases hj
          have er : (rows.map V.str)[j]? = some (.str (rows.getD j Str.empty)) := by
            rw [List.getElem?_map, List.getD_eq_getElem?_getD, List.getElem?_eq_getElem (by omega)]
            rfl
          have ed : (du.map V.str)[j]? = some (.str (du.getD j Str.empty)) := by
            rw [List.getElem?_map, List.getD_eq_getElem?_getD, List.getElem?_eq_getElem hj']
            rfl
          have zr : (rows.getD j Str.empty).length ≤ sizeLine := by
            rw [List.getD_eq_getElem?_getD, List.getElem?_eq_getElem (show j < rows.length by omega)]
            have := (tl2 rows[j] (by simp)).1
            rw [sizeLine_eq]
            show rows[j].length ≤ _
            omega
          have zd : (du.getD j Str.empty).length ≤ sizeLine := by
            rw [List.getD_eq_getElem?_getD, List.getElem?_eq_getElem hj']
            have := dz du[j] (List.getElem_mem hj')
            rw [sizeLine_eq]
            show du[j].length ≤ _
            omega
          have at_ : ∀ {xs : List V} {z : V}, xs[j]? = some z → atI xs (0 + (j : Int)) = some z := fun h => by
            rw [Int.zero_add]
            exact atI_nat h
          refine ⟨rfl, _, rfl, _, rfl, l7, _, _, _, rfl, rfl, SqL.of (s2 _ _ e7), at_ er, _, rfl, _, rfl, l, _, _, _, rfl, rfl, SqL.of (s2 _ _ el), at_ ed, _, rfl, zd, _, rfl, _, rfl, zr, ?_⟩
          refine ⟨_, rfl, _, rfl, l, _, _, _, rfl, rfl, SqL.of (s2 _ _ el), at_ ed, rfl, _, rfl, ite2 (fun c => ?_) (fun c => ?_)⟩
          · refine ⟨_, rfl, _, rfl, l7, _, _, _, rfl, rfl, SqL.of (s2 _ _ e7), at_ er, _, rfl, _, rfl, l, _, _, _, rfl, rfl, SqL.of (s2 _ _ el), at_ ed, _, rfl, zd, _, rfl, _, rfl, zr, _, rfl, l3, _, rfl, .inl (SqL.of (s2 _ _ e3)), rfl, flat_strs _, ?_⟩
            have k3 := k2 _ (Same.refl _)
            unfold rowT at k3
            have c' : cutS (rows.getD j Str.empty) none (some ((du.getD j Str.empty).length : Int)) = du.getD j Str.empty := by
              have z := of_decide_eq_true c
              injection z
            rw [decide_eq_true c', Bool.true_and] at k3
            show (fun y H4 => k1 (some y) H4) (.bl (inV (.str (cutS (rows.getD j Str.empty) (some ((du.getD j Str.empty).length : Int)) none)) (ws.map V.str))) _
            rw [in_strs]
            exact k3
          · have k3 := k2 _ (Same.refl _)
            unfold rowT at k3
            have c' : ¬ cutS (rows.getD j Str.empty) none (some ((du.getD j Str.empty).length : Int)) = du.getD j Str.empty := fun z => c (decide_eq_true (by rw [z]))
            rw [decide_eq_false c', Bool.false_and] at k3
            exact k3
        · refine ⟨D, (List.range du.length).map fun i => rowT ws (rows.getD i Str.empty) (du.getD i Str.empty), rfl, SqL.of ?_, k _ (s1.trans sE)⟩
          rw [eE, List.filterMap_eq_map', List.map_map]
          rfl
end
end My
namespace My
open PySem PySem.Spec PyProof.Rows L2
/-- the fields of a rule -/
abbrev rFs (t : Str) (p : Parts) (M G D : Addr) : List (Str × V) := [("written", .str t), ("letters", .str p.sg), ("words", .ref M), ("chosen", .ref G), ("goals", .ref D)]
/-- a rule stands at a -/
def RuleAt (H : Hp) (C a : Addr) (t : Str) (p : Parts) : Prop := ∃ dx M G D, H a = some (.ins C dx (rFs t p M G D)) ∧ H M = some (.tup (p.ms.map V.str)) ∧ H G = some (.tup (p.gs.map V.str)) ∧ H D = some (.dT (goalsD p.rs))
theorem RuleAt.same {H H' : Hp} {C a : Addr} {t : Str} {p : Parts} (h : RuleAt H C a t p) (s : Same H H') : RuleAt H' C a t p := by
  obtain ⟨dx, M, G, D, e1, e2, e3, e4⟩ := h
  exact ⟨dx, M, G, D, s _ _ e1, s _ _ e2, s _ _ e3, s _ _ e4⟩
def spInit (C : Addr) : Sp := fun vs H Q _ => ∃ (a dx : Addr) (t : Str) (p : Parts), vs = [.ref a, .str t] ∧ H a = some (.ins C dx []) ∧ t.length ≤ 1000000 ∧ PyData.strOk t = true ∧ parseL t = some p ∧
  ∀ H', (∀ b o, b ≠ a → H b = some o → H' b = some o) → RuleAt H' C a t p → Q .non H'
/-- what is fixed of the class -/
structure RuC (K : PySem.W.Frag) (C : Addr) : Prop where
  cl : Cls K C
  f1 : NoAttr K C "written"
  f2 : NoAttr K C "letters"
  f3 : NoAttr K C "words"
  f4 : NoAttr K C "chosen"
  f5 : NoAttr K C "goals"
section
variable {P : Program} {w : World} {K : PySem.W.Frag} {mg : Str → Option Value} {base : Heap}
abbrev sInit : Stmt := inClass sRule 0
abbrev nInit : List Str := ["self", "text", "parts"]
theorem scInit : FnScope nInit ["self", "text"] (defScope sInit) := ⟨rfl, rfl, rfl, by decide +kernel, rfl, by decide +kernel, by decide +kernel⟩
theorem ok_init {f C : Addr} {fd : FuncData} (F : Fun K "__init__" "Rule.__init__" sInit f fd) (T : RuC K C) (hR : Hv P w K mg base 4 "read_rule" ["text"] spRead) (hIs : mg "isinstance" = none) (hSt : mg "str" = none) : FnOk P w K mg base CX0 5 f fd ["self", "text"] (spInit C) := by
  refine F.ok scInit (fun vs H Q E h => ?_) (fun cdv A outer s H vs Q E hr h => ?_)
  · obtain ⟨a, dx, t, p, rfl, _⟩ := h
    rfl
  · obtain ⟨a, dx, t, p, rfl, ha, zt, ot, pt, k⟩ := h
    refine ⟨_, pss_cons (ps_set (i := 2) scInit.nd rfl (Or.inl rfl) (pe_ifExp (pt_val (pe_callB call_isi (by rfl) hIs (by decide +kernel) (pa_cons (pv 1) (pa_cons (pe_bltn (v := .ty "str") (by rfl) hSt (by decide +kernel) rfl) pa_nil)))) (pe_cl hR hr rfl pass0 (pa_cons (pv 1) pa_nil)) pe_non))
      (pss_cons (ps_if (pt_cmpR op_isN (pv 2) pe_non (nomark _)) (pss_one ps_never) pss_nil)
      (pss_cons (ps_fld (pv 0) (pv 1) rfl)
      (pss_one (ps_asg (pv 2) (pg_tup (by rfl) (pgs_cons (pg_fld (pv 0)) (pgs_cons (pg_fld (pv 0)) (pgs_cons (pg_fld (pv 0)) (pgs_cons (pg_fld (pv 0)) pgs_nil))))))))), ?_⟩
    refine ⟨_, rfl, .str t, .ty "str", _, .type "str", true, rfl, .ty _, .base (.str t), kit_ty (by decide +kernel), _, rfl, iteT ?_⟩
    refine ⟨_, rfl, t, rfl, zt, ot, (fun z => by rw [pt] at z; cases z), fun p' hp' T' H1 s1 hT => ?_⟩
    rw [pt] at hp'
    cases hp'
    obtain ⟨M, G, D, e1, e2, e3, e4⟩ := hT
    have ea := s1 _ _ ha
    refine ⟨_, rfl, rfl, _, rfl, iteF ?_⟩
    refine ⟨_, rfl, _, rfl, a, C, dx, _, rfl, ea, T.cl, T.f1, by decide, ?_⟩
    have ne : ∀ {b : Addr} {xs : List V}, H1 b = some (.tup xs) → b ≠ a := fun e => ne_of e ea (by intro z; cases z)
    have nD : D ≠ a := ne_of e4 ea (by intro z; cases z)
    refine ⟨_, rfl, T', _, rfl, SqT.of (by rw [upd_ne (ne e1)]; exact e1), rfl, _, _, rfl, _, rfl, a, C, dx, _, rfl, upd_same, T.cl, T.f2, (by show 1 < 1000; decide), ?_⟩
    rw [upd_upd]
    refine ⟨_, _, rfl, _, rfl, a, C, dx, _, rfl, upd_same, T.cl, T.f3, (by show 2 < 1000; decide), ?_⟩
    rw [upd_upd]
    refine ⟨_, _, rfl, _, rfl, a, C, dx, _, rfl, upd_same, T.cl, T.f4, (by show 3 < 1000; decide), ?_⟩
    rw [upd_upd]
    refine ⟨_, _, rfl, _, rfl, a, C, dx, _, rfl, upd_same, T.cl, T.f5, (by show 4 < 1000; decide), ?_⟩
    rw [upd_upd]
    refine ⟨rfl, k _ (fun b o n e => by rw [upd_ne n]; exact s1 _ _ e) ⟨dx, M, G, D, upd_same, ?_, ?_, ?_⟩⟩
    · rw [upd_ne (ne e2)]; exact e2
    · rw [upd_ne (ne e3)]; exact e3
    · rw [upd_ne nD]; exact e4
end
end My
namespace My
open PySem PySem.Spec PyProof.Rows L2 PySem.GX
def spRow : Sp := fun vs H Q _ => ∃ (r x : Str), vs = [.str r, .str x] ∧ r.length ≤ 16000000 ∧ ∀ H', Same H H' → Q (.bl (isRowL x r)) H'
def spRowX (K : PySem.W.Frag) : Sp := fun vs H Q _ => ∃ (v : V) (x : Str), vs = [v, .str x] ∧ NoRow K H x v ∧ ∀ H', Same H H' → Q (.bl false) H'
section
variable {P : Program} {w : World} {K : PySem.W.Frag} {mg : Str → Option Value} {base : Heap}
theorem pe_neverE {X : Cx} {e : Expr} : PE X e (fun _ _ _ => False) := ⟨fun _ _ _ _ _ _ h => h.elim⟩
theorem FnOk.or_ {CX : CXT} {k : Nat} {f : Addr} {fd : FuncData} {ps : List Str} {s1 s2 : Sp} (a : FnOk P w K mg base CX k f fd ps s1) (b : FnOk P w K mg base CX k f fd ps s2) : FnOk P w K mg base CX k f fd ps (fun vs H Q E => s1 vs H Q E ∨ s2 vs H Q E) :=
  ⟨fun vs H Q E h => h.elim (a.len vs H Q E) (b.len vs H Q E), fun A outer s H args us vs Q E hr e0 hb r h => h.elim (a.run A outer s H args us vs Q E hr e0 hb r) (b.run A outer s H args us vs Q E hr e0 hb r)⟩
theorem FnOk.imp_ {CX : CXT} {k : Nat} {f : Addr} {fd : FuncData} {ps : List Str} {s1 s2 : Sp} (a : FnOk P w K mg base CX k f fd ps s1) (m : ∀ vs H Q E, s2 vs H Q E → s1 vs H Q E) : FnOk P w K mg base CX k f fd ps s2 :=
  ⟨fun vs H Q E h => a.len vs H Q E (m _ _ _ _ h), fun A outer s H args us vs Q E hr e0 hb r h => a.run A outer s H args us vs Q E hr e0 hb r (m _ _ _ _ h)⟩
theorem scRow : FnScope ["value", "letters"] ["value", "letters"] (defScope sRowOf) := ⟨rfl, rfl, rfl, by decide +kernel, rfl, by decide +kernel, by decide +kernel⟩
theorem made_all (x r : Str) : madeL r x = r.cps.toList.all fun c => decide (c ∈ x.cps.toList) := by
  unfold madeL
  rw [List.all_map]
  rfl
theorem ok_row {f : Addr} {fd : FuncData} {tA : Tok} (F : Fun K "is_row_of" "is_row_of" sRowOf f fd) (hO : Hv P w K mg base 1 "made_of" ["text", "letters"] spMade) (hIs : mg "isinstance" = none) (hSt : mg "str" = none) (hL : mg "len" = none) (gM : mg "MOST_ROW" = some (.int 1000 tA)) : FnOk P w K mg base CX0 2 f fd ["value", "letters"] spRow := by
  refine F.ok scRow (fun vs H Q E h => ?_) (fun cdv A outer s H vs Q E hr h => ?_)
  · obtain ⟨r, x, rfl, _⟩ := h
    rfl
  · obtain ⟨r, x, rfl, zr, k⟩ := h
    refine ⟨_, pss_one (ps_ret (pe_and (pe_callB call_isi (by rfl) hIs (by decide +kernel) (pa_cons (pv 0) (pa_cons (pe_bltn (v := .ty "str") (by rfl) hSt (by decide +kernel) rfl) pa_nil)))
        (pe_and (pe_cmpR op_le (pe_callB call_len_str (by rfl) hL PySem.boot_len (pa_cons (pv 0) pa_nil)) (pe_glob (v := .int 1000) rfl gM ⟨_, rfl⟩) (nomark _)) (pe_one (pe_cl hO hr rfl pass0 (pa_cons (pv 0) (pa_cons (pv 1) pa_nil))))))), ?_⟩
    refine ⟨_, rfl, .str r, .ty "str", _, .type "str", true, rfl, .ty _, .base (.str r), kit_ty (by decide +kernel), _, rfl, iteT ?_⟩
    refine ⟨_, rfl, r, rfl, (by rw [sizeLine_eq]; omega), _, _, rfl, rfl, _, rfl, ite2 (fun c => ?_) (fun c => ?_)⟩
    · have h1 : (r.length : Int) ≤ 1000 := of_decide_eq_true c
      refine ⟨_, rfl, _, rfl, r, x, rfl, zr, fun H' s' => ?_⟩
      have e : madeL r x = isRowL x r := by
        unfold isRowL
        rw [decide_eq_true (by omega : r.length ≤ 1000), Bool.true_and, made_all]
      rw [e]
      exact k _ s'
    · have h1 : ¬ (r.length : Int) ≤ 1000 := by simpa using c
      have e : isRowL x r = false := by
        unfold isRowL
        rw [decide_eq_false (by omega : ¬ r.length ≤ 1000)]
        rfl
      rw [e] at k
      exact k _ (Same.refl _)
def spRowT (K : PySem.W.Frag) : Sp := fun vs H Q _ => ∃ (v : V) (x : Str) (ty : Value), vs = [v, .str x] ∧ TyX K H v ty ∧ PySem.W.kitOne K ty (.type "str") = some false ∧ Q (.bl false) H
theorem ok_rowT {f : Addr} {fd : FuncData} (F : Fun K "is_row_of" "is_row_of" sRowOf f fd) (hIs : mg "isinstance" = none) (hSt : mg "str" = none) : FnOk P w K mg base CX0 2 f fd ["value", "letters"] (spRowT K) := by
  refine F.ok scRow (fun vs H Q E h => ?_) (fun cdv A outer s H vs Q E hr h => ?_)
  · obtain ⟨v, x, ty, rfl, _⟩ := h
    rfl
  · obtain ⟨v, x, ty, rfl, hty, hk, k⟩ := h
    refine ⟨_, pss_one (ps_ret (pe_and (pe_callB call_isi (by rfl) hIs (by decide +kernel) (pa_cons (pv 0) (pa_cons (pe_bltn (v := .ty "str") (by rfl) hSt (by decide +kernel) rfl) pa_nil))) pe_neverE)), ?_⟩
    exact ⟨_, rfl, v, .ty "str", ty, .type "str", false, rfl, .ty _, hty, hk, _, rfl, iteF k⟩
theorem ok_rowX {f : Addr} {fd : FuncData} {tA : Tok} (F : Fun K "is_row_of" "is_row_of" sRowOf f fd) (hO : Hv P w K mg base 1 "made_of" ["text", "letters"] spMade) (hIs : mg "isinstance" = none) (hSt : mg "str" = none) (hL : mg "len" = none) (gM : mg "MOST_ROW" = some (.int 1000 tA)) : FnOk P w K mg base CX0 2 f fd ["value", "letters"] (spRowX K) := by
  refine FnOk.imp_ (FnOk.or_ (ok_row F hO hIs hSt hL gM) (ok_rowT F hIs hSt)) fun vs H Q E ⟨v, x, e, nr, k⟩ => ?_
  rcases nr with ⟨r, rfl, zr, ir⟩ | ⟨ty, hty, hk⟩
  · exact .inl ⟨r, x, e, zr, by rw [ir]; exact k⟩
  · exact .inr ⟨v, x, ty, e, hty, hk, k _ (Same.refl _)⟩
end
end My
namespace My
open PySem PySem.Spec PyProof.Rows L2
abbrev sMood : Stmt := inClass sRule 8
abbrev sHas : Stmt := inClass sRule 9
/-- the method x of C is there, and keeps the promise -/
structure HvM (P : Program) (w : World) (K : PySem.W.Frag) (mg : Str → Option Value) (base : Heap) (k : Nat) (C : Addr) (x : Str) (ps : List Str) (sp : Sp) : Prop where
  ex : ∃ (f : Addr) (fd : FuncData), FnOk P w K mg base CX0 k f fd ps sp ∧ Binds K fd ps [] ∧ Meth K C x f
theorem pe_mt {X : Cx} {k : Nat} {C : Addr} {x : Str} {ps : List Str} {sp : Sp} {apos pos : Pos} {o e : Expr} {es : List Expr} {ta : TE} {t : TA} {E : XK} {pl : Sem Bool} (h : HvM X.prog X.w X.K X.mg X.base k C x ps sp) (ho : PE X o ta) (c : Cls X.K C) (hr : Room k X.A) (hx : Passes CX0 X E) (ha : PA X (e :: es) t)
    (hst : starEach (e :: es) X.env = (false, eval e X.env) :: starEach es X.env := by rfl) (hpl : (backTo pos (starEach es X.env)).any (·.1) = false := by rfl)
    (ht : eval (.Call (.Attribute o x apos) (e :: es) [] pos) X.env = (do
      let ov ← eval o X.env
      standAt apos.atName
      let (f, first) ← holding [ov] (getMethod ov x pl)
      callWith pos f first (backTo pos (starEach (e :: es) X.env)) (backToKw pos (keywordEach [] X.env))) := by rfl) :
    PE X (.Call (.Attribute o x apos) (e :: es) [] pos) (tMeth C x sp [] E ta t) := by
  obtain ⟨f, fd, F, b, m⟩ := h.ex
  exact pe_meth ho c m F hr b .nil hx ha hst hpl ht
theorem pe_fldK {X : Cx} {K : PySem.W.Frag} {e : Expr} {f : Str} {ta : TE} {pos : Pos} (h : X.K = K) (he : PE X e ta) (hb : attributeBase e f X.env (eval e X.env) = eval e X.env) : PE X (.Attribute e f pos) (tFld K ta f) := by subst h; exact pe_fld he hb
/-- what a text that is one writes -/
structure PartsOk (p : Parts) : Prop where
  sgs : areSignsL [p.sg] = true
  mds : areMoodsL p.ms = true
  gds : areGoodL p.gs p.ms = true
  gls : goalsOkL p.sg p.ms p.rs = true
theorem parts_ok {t : Str} {p : Parts} (h : parseL t = some p) : PartsOk p := by
  unfold parseL partsL at h
  split at h
  · rename_i t0 s0 t1 m0 t2 g0 rs heq
    split at h
    · rename_i hc
      cases h
      obtain ⟨x, e, _⟩ := signs_one hc.2.1
      subst e
      exact ⟨hc.2.1, hc.2.2.1, hc.2.2.2.1, hc.2.2.2.2⟩
    · cases h
  · cases h
theorem dOf_some {α κ : Type} [DecidableEq κ] {key : α → κ} {val : α → V} {k : κ} : ∀ (xs : List α), (∃ a ∈ xs, key a = k) → ∃ a ∈ xs, key a = k ∧ valV (dOf key val xs) k = some (val a) := by
  suffices h : ∀ (n : Nat) (xs : List α), xs.length = n → (∃ a ∈ xs, key a = k) → ∃ a ∈ xs, key a = k ∧ valV (dOf key val xs) k = some (val a) from fun xs => h _ xs rfl
  intro n
  induction n with
  | zero =>
    intro xs h ⟨a, ha, _⟩
    have : xs = [] := List.eq_nil_of_length_eq_zero h
    subst this
    cases ha
  | succ n ih =>
    intro xs h h2
    have hne : xs ≠ [] := by intro z; subst z; cases h
    obtain ⟨ys, a, rfl⟩ : ∃ ys a, xs = ys ++ [a] := ⟨xs.dropLast, xs.getLast hne, (List.dropLast_concat_getLast hne).symm⟩
    have hl : ys.length = n := by rw [List.length_append] at h; simpa using h
    rw [dOf_snoc, valV_put]
    by_cases e : k = key a
    · exact ⟨a, by simp, e.symm, by rw [if_pos e]⟩
    · rw [if_neg e]
      obtain ⟨b, hb, eb⟩ := h2
      rcases List.mem_append.mp hb with m | m
      · obtain ⟨d, hd, ed, hv⟩ := ih ys hl ⟨b, m, eb⟩
        exact ⟨d, by simp [hd], ed, hv⟩
      · have : b = a := by simpa using m
        exact absurd (this ▸ eb.symm) e
/-- where the sign c leads from the mood t -/
def ledL (p : Parts) (t : Str) (c : Nat) : Str := gf (goalsD p.rs) t c
theorem PartsOk.goal {p : Parts} (h : PartsOk p) {t : Str} (ht : t ∈ p.ms) {c : Nat} (hc : c ∈ p.sg.cps.toList) : ledL p t c ∈ p.ms ∧ valV (goalsD p.rs) (kT t c) = some (.str (ledL p t c)) := by
  have hg := h.gls
  unfold goalsOkL at hg
  rw [Bool.and_eq_true_iff] at hg
  have ep : p.rs.map (List.take 2) = pairsL p.sg p.ms := of_decide_eq_true hg.1
  have hm : [t, sg c] ∈ p.rs.map (List.take 2) := by
    rw [ep]
    unfold pairsL
    exact List.mem_flatMap.mpr ⟨t, ht, List.mem_map.mpr ⟨c, hc, rfl⟩⟩
  obtain ⟨r, hr, er⟩ := List.mem_map.mp hm
  have key : ∀ q : List Str, q.take 2 = [t, sg c] → [(Sum.inr (q.getD 0 Str.empty) : Key), Sum.inr (q.getD 1 Str.empty)] = kT t c := fun q hq => by
    match q, hq with
    | [], hq => cases hq
    | [_], hq => simp at hq
    | a :: b :: _, hq =>
      have : [a, b] = [t, sg c] := hq
      injection this with e1 this
      injection this with e2 _
      subst e1 e2
      rfl
  obtain ⟨q, hq, eq, hv⟩ := dOf_some (key := fun r : List Str => [(Sum.inr (r.getD 0 Str.empty) : Key), Sum.inr (r.getD 1 Str.empty)]) (val := fun r => V.str (r.getD 2 Str.empty)) (k := kT t c) p.rs ⟨r, hr, key r er⟩
  have ok := List.all_eq_true.mp hg.2 q hq
  unfold rowOkL at ok
  rw [Bool.and_eq_true_iff] at ok
  have e : ledL p t c = q.getD 2 Str.empty := gf_is hv
  rw [e]
  exact ⟨of_decide_eq_true ok.2, hv⟩
/-- a row leads from t -/
def walkL (p : Parts) (t : Str) (cs : List Nat) : Str := cs.foldl (ledL p) t
def firstL (p : Parts) : Str := p.ms.headD Str.empty
def moodL (p : Parts) (r : Str) : Str := walkL p (firstL p) r.cps.toList
theorem walk_mem {p : Parts} (h : PartsOk p) : ∀ (cs : List Nat) (t : Str), t ∈ p.ms → (∀ c ∈ cs, c ∈ p.sg.cps.toList) → walkL p t cs ∈ p.ms
  | [], _, ht, _ => ht
  | c :: cs, t, ht, hc => walk_mem h cs _ (h.goal ht (hc c (by simp))).1 fun d hd => hc d (by simp [hd])
theorem PartsOk.first {p : Parts} (h : PartsOk p) : ∃ ms, p.ms = firstL p :: ms := by
  have := h.mds
  unfold areMoodsL at this
  simp only [Bool.and_eq_true] at this
  have l1 : 1 ≤ p.ms.length := of_decide_eq_true this.1.1.1
  unfold firstL
  match hm : p.ms, l1 with
  | a :: t, _ => exact ⟨t, rfl⟩
def spMood (C : Addr) : Sp := fun vs H Q _ => ∃ (a : Addr) (r t : Str) (p : Parts), vs = [.ref a, .str r] ∧ RuleAt H C a t p ∧ PartsOk p ∧ isRowL p.sg r = true ∧ ∀ H', Same H H' → Q (.str (moodL p r)) H'
def spHas (C : Addr) : Sp := fun vs H Q _ => ∃ (a : Addr) (r t : Str) (p : Parts), vs = [.ref a, .str r] ∧ RuleAt H C a t p ∧ PartsOk p ∧ isRowL p.sg r = true ∧ ∀ H', Same H H' → Q (.bl (decide (moodL p r ∈ p.gs))) H'
section
variable {P : Program} {w : World} {K : PySem.W.Frag} {mg : Str → Option Value} {base : Heap}
theorem scMood : FnScope ["self", "row", "reached", "sign"] ["self", "row"] (defScope sMood) := ⟨rfl, rfl, rfl, by decide +kernel, rfl, by decide +kernel, by decide +kernel⟩
theorem ok_mood {f C : Addr} {fd : FuncData} (F : Fun K "mood" "Rule.mood" sMood f fd) (T : RuC K C) (hR : Hv P w K mg base 2 "is_row_of" ["value", "letters"] spRow) : FnOk P w K mg base CX0 3 f fd ["self", "row"] (spMood C) := by
  refine F.ok scMood (fun vs H Q E h => ?_) (fun cdv A outer s H vs Q E hr h => ?_)
  · obtain ⟨a, r, t, p, rfl, _⟩ := h
    rfl
  · obtain ⟨a, r, t, p, rfl, hA, ok, ir, k⟩ := h
    refine ⟨_, pss_cons (ps_if (pt_not (pt_val (pe_cl hR hr rfl pass0 (pa_cons (pv 1) (pa_cons (pe_fld (pv 0) rfl) pa_nil))))) (pss_one ps_never) pss_nil)
      (pss_cons (ps_set (i := 2) scMood.nd rfl (Or.inl rfl) (pe_ix ix_tup (pe_fld (pv 0) rfl) pe_int (fun _ _ => rfl)))
      (pss_cons (ps_for PassesOwn.never rfl (pi_str (pv 1)) (pg_name (i := 3) scMood.nd rfl (Or.inl rfl)) (pss_one (ps_set (i := 2) scMood.nd rfl (Or.inl rfl) (pe_dget (hu_of hr) (pe_fld (pv 0) rfl) (pe_tup (pa_cons (pv 2) (pa_cons (pv 3) pa_nil))) (fun _ _ => rfl)))))
      (pss_one (ps_ret (pv 2))))), ?_⟩
    obtain ⟨dx, M, G, D, e1, e2, e3, e4⟩ := id hA
    have hl : r.length ≤ 1000 := by
      unfold isRowL at ir
      exact of_decide_eq_true (Bool.and_eq_true_iff.mp ir).1
    have hin : ∀ c ∈ r.cps.toList, c ∈ p.sg.cps.toList := fun c hc => by
      unfold isRowL at ir
      exact of_decide_eq_true (List.all_eq_true.mp (Bool.and_eq_true_iff.mp ir).2 c hc)
    refine ⟨_, rfl, _, rfl, a, C, dx, _, .str p.sg, rfl, e1, T.cl, T.f2, rfl, r, p.sg, rfl, by omega, fun H1 s1 => ⟨_, rfl, ?_⟩⟩
    rw [ir]
    refine iteF ?_
    obtain ⟨ms, em⟩ := ok.first
    have ef : (p.ms.map V.str)[0]? = some (.str (firstL p)) := by rw [em]; rfl
    refine ⟨_, rfl, a, C, dx, _, .ref M, rfl, s1 _ _ e1, T.cl, T.f3, rfl, M, _, _, _, rfl, rfl, SqT.of (s1 _ _ e2), atI_nat (j := 0) ef, ?_⟩
    refine ⟨_, rfl, r, rfl, ?_⟩
    refine for_it walk_str (fun i σ H' => ∃ v3, σ = [some (.ref a), some (.str r), some (.str (walkL p (firstL p) (r.cps.toList.take i))), v3] ∧ Same H1 H') ⟨none, rfl, Same.refl _⟩ (fun _ _ _ _ _ => trivial) (fun i y σ H2 H3 hi h hy => ?_) (fun σ H2 h => ?_)
    · obtain ⟨rfl, c, hc, rfl⟩ := hy
      obtain ⟨v3, rfl, s2⟩ := h
      have hc' : r.cps.toList[i]? = some c := by rw [Array.getElem?_toList]; exact hc
      have hm := walk_mem ok (r.cps.toList.take i) (firstL p) (by rw [em]; simp) fun d hd => hin d (List.mem_of_mem_take hd)
      have hg := ok.goal hm (hin c (List.mem_of_getElem? hc'))
      have s3 := s1.trans s2
      refine ⟨_, rfl, a, C, dx, _, .ref D, rfl, s3 _ _ e1, T.cl, T.f5, rfl, _, rfl, _, rfl, (by show 2 ≤ sizeLine; decide), fun t' ht => ⟨D, .str (ledL p (walkL p (firstL p) (r.cps.toList.take i)) c), rfl, ?_, ?_⟩⟩
      · have := DGet.t (k := kT (walkL p (firstL p) (r.cps.toList.take i)) c) (keep1 (s3 _ _ e4) ht) (upd_same (o := .tup ((kT (walkL p (firstL p) (r.cps.toList.take i)) c).map kV)))
        rw [hg.2] at this
        exact this
      · refine ⟨some (.str (sg c)), ?_, s2.trans (same_new ht)⟩
        rw [List.take_add_one, hc']
        show _ = [_, _, some (V.str (walkL p (firstL p) (r.cps.toList.take i ++ [c]))), _]
        unfold walkL
        rw [List.foldl_append]
        rfl
    · obtain ⟨v3, rfl, s2⟩ := h
      refine ⟨_, rfl, ?_⟩
      have : r.cps.toList.take r.cps.size = r.cps.toList := by rw [← Array.length_toList, List.take_length]
      rw [this]
      exact k _ (s1.trans s2)
theorem scHas : FnScope ["self", "row"] ["self", "row"] (defScope sHas) := ⟨rfl, rfl, rfl, by decide +kernel, rfl, by decide +kernel, by decide +kernel⟩
theorem ok_has {f C : Addr} {fd : FuncData} (F : Fun K "has" "Rule.has" sHas f fd) (T : RuC K C) (hM : HvM P w K mg base 3 C "mood" ["self", "row"] (spMood C)) : FnOk P w K mg base CX0 4 f fd ["self", "row"] (spHas C) := by
  refine F.ok scHas (fun vs H Q E h => ?_) (fun cdv A outer s H vs Q E hr h => ?_)
  · obtain ⟨a, r, t, p, rfl, _⟩ := h
    rfl
  · obtain ⟨a, r, t, p, rfl, hA, ok, ir, k⟩ := h
    refine ⟨_, pss_one (ps_ret (pe_cmpR op_in_seq (pe_mt hM (pv 0) T.cl hr pass0 (pa_cons (pv 1) pa_nil)) (pe_fld (pv 0) rfl) (by rfl))), ?_⟩
    obtain ⟨dx, M, G, D, e1, e2, e3, e4⟩ := id hA
    refine ⟨_, rfl, a, dx, _, rfl, e1, rfl, _, rfl, a, r, t, p, rfl, hA, ok, ir, fun H1 s1 => ?_⟩
    refine ⟨_, rfl, a, C, dx, _, .ref G, rfl, s1 _ _ e1, T.cl, T.f4, rfl, G, _, rfl, .inr (SqT.of (s1 _ _ e3)), rfl, flat_strs _, ?_⟩
    show Q (.bl (inV (.str (moodL p r)) (p.gs.map V.str))) H1
    rw [in_strs]
    exact k _ s1
end
end My
namespace My
open PySem PySem.Spec PyProof.Rows L2 PySem.GX
/-- o.m(k = e) -/
def tMethK (C : Addr) (m : Str) (sp : Sp) (E : XK) (ta : TE) (t : TA) : TE := fun σ H Q => ta σ H fun x H1 => ∃ a dx fs, x = .ref a ∧ H1 a = some (.ins C dx fs) ∧ fs.lookup m = none ∧ t σ H1 fun zs H2 => ∃ v, zs = [v] ∧ sp [.ref a, v] H2 Q E
theorem pe_methK1 {X : Cx} {CX : CXT} {k : Nat} {C f : Addr} {fd : FuncData} {m : Str} {ps : List Str} {sp : Sp} {apos pos : Pos} {o : Expr} {kws : List Keyword} {ta : TE} {tk : TA} {E : XK} {pl : Sem Bool} {y : Str} (ho : PE X o ta) (c : Cls X.K C) (hm : Meth X.K C m f) (F : FnOk X.prog X.w X.K X.mg X.base CX k f fd ps sp) (hr : Room k X.A)
    (hb : KBn X.K fd ps 1 [y] (fun us ws => us ++ ws) (fun vs zs => vs ++ zs)) (hx : Passes CX X E) (hkw : PK X kws tk)
    (hall : (backToKw pos (keywordEach kws X.env)).all (·.1.isSome) = true := by rfl) (hks : (backToKw pos (keywordEach kws X.env)).filterMap (·.1) = [y] := by rfl)
    (hpl : ((backTo pos (starEach [] X.env)).any (·.1) || (backToKw pos (keywordEach kws X.env)).any (·.1.isNone)) = false := by rfl)
    (ht : eval (.Call (.Attribute o m apos) [] kws pos) X.env = (do
      let ov ← eval o X.env
      standAt apos.atName
      let (f, first) ← holding [ov] (getMethod ov m pl)
      callWith pos f first (backTo pos (starEach [] X.env)) (backToKw pos (keywordEach kws X.env))) := by rfl) :
    PE X (.Call (.Attribute o m apos) [] kws pos) (tMethK C m sp E ta tk) := by
  refine ⟨fun pins s σ H Q I want => PySem.W.methodCall_KW (pl := pl) (thn (ho.run pins s σ H _ I want) fun u s1 ⟨x, H1, I1, rx, a, dx, fs, ex, ea, l, q⟩ => ?_) ht⟩
  subst ex
  obtain rfl : u = Value.ref a := rx
  refine getmeth_ok I1 ea c hm l (PySem.W.callWith_KW0 (first := [.ref a]) (h₀ := X.base) I.ok.mod.kin hm.kp hall (thn (hkw.run pos pins s1 σ H1 _ I1 q) fun ws s2 ⟨zs, H2, I2, rz, v, ev, q2⟩ => ⟨I2.kIn, ?_⟩) hpl)
  subst ev
  rw [hks]
  exact run_fnN (us := [.ref a]) (vs := [.ref a]) (n := 1) (ks := [y]) F hr hb hx I2 (.cons rfl .nil) rz rfl rfl q2
def spMoodX (K : PySem.W.Frag) (C CR : Addr) : Sp := fun vs H Q E => ∃ (a : Addr) (v : V) (t : Str) (p : Parts), vs = [.ref a, v] ∧ RuleAt H C a t p ∧ NoRow K H p.sg v ∧ ∀ d H', Same H H' → H' d = some (exd d [("given", v)]) → E (.ref CR) (some d) H'
section
variable {P : Program} {w : World} {K : PySem.W.Frag} {mg : Str → Option Value} {base : Heap}
theorem ok_moodX {f C CR : Addr} {fd : FuncData} (F : Fun K "mood" "Rule.mood" sMood f fd) (T : RuC K C) (hR : Hv P w K mg base 2 "is_row_of" ["value", "letters"] (spRowX K)) (M : Mk1 P w K mg base "InvalidRow" CR "given")
    (b1 : PySem.W.subIn K (.ref CR) (.type "BaseException") = some true) (b2 : PySem.W.typeIn K (.ref CR) = some (.type "type")) : FnOk P w K mg base (L2N.CX P w) 3 f fd ["self", "row"] (spMoodX K C CR) := by
  refine F.okN scMood (fun vs H Q E h => ?_) (fun cdv A outer s H vs Q E hr h => ?_)
  · obtain ⟨a, v, t, p, rfl, _⟩ := h
    rfl
  · obtain ⟨a, v, t, p, rfl, hA, nr, k⟩ := h
    refine ⟨_, pss_cons (ps_if (pt_not (pt_val (pe_cl hR hr rfl pass0 (pa_cons (pv 1) (pa_cons (pe_fld (pv 0) rfl) pa_nil))))) (pss_one (ps_raise1 M hr rfl rfl rfl (L2N.takes_of rfl rfl rfl rfl) (pa_cons (pv 1) pa_nil))) pss_nil)
      (pss_cons ps_never (pss_cons ps_never (pss_one ps_never))), ?_⟩
    obtain ⟨dx, M', G, D, e1, e2, e3, e4⟩ := id hA
    refine ⟨_, rfl, _, rfl, a, C, dx, _, .str p.sg, rfl, e1, T.cl, T.f2, rfl, v, p.sg, rfl, nr, fun H1 s1 => ⟨_, rfl, iteT ?_⟩⟩
    refine ⟨_, rfl, v, rfl, fun a' d H2 na ne s2 ex => rs1_end (X := cxOf (L2N.CX P w) P w K mg base _ _ _ f cdv A outer s H E) (W := fun cls d _ H => E cls d H) (σ := []) (raises_own b1 b2) s1 na ne s2 ex fun H3 s3 e3 => k d H3 (s1.trans s3) e3⟩
theorem ok_hasX {f fM C CR : Addr} {fd fdM : FuncData} (F : Fun K "has" "Rule.has" sHas f fd) (T : RuC K C) (G : FnOk P w K mg base (L2N.CX P w) 3 fM fdM ["self", "row"] (spMoodX K C CR)) (b : Binds K fdM ["self", "row"] []) (hm : Meth K C "mood" fM) :
    FnOk P w K mg base (L2N.CX P w) 4 f fd ["self", "row"] (spMoodX K C CR) := by
  refine F.okN scHas (fun vs H Q E h => ?_) (fun cdv A outer s H vs Q E hr h => ?_)
  · obtain ⟨a, v, t, p, rfl, _⟩ := h
    rfl
  · obtain ⟨a, v, t, p, rfl, hA, nr, k⟩ := h
    refine ⟨_, pss_one (ps_ret (pe_cmpR op_in_seq (pe_meth (pv 0) T.cl hm G hr b .nil (L2N.passes_call (L2N.takes_of rfl rfl rfl rfl) (fun _ _ _ _ z => z)) (pa_cons (pv 1) pa_nil)) (pe_fld (pv 0) rfl) (by rfl))), ?_⟩
    obtain ⟨dx, M', G', D, e1, e2, e3, e4⟩ := id hA
    exact ⟨_, rfl, a, dx, _, rfl, e1, rfl, _, rfl, a, v, t, p, rfl, hA, nr, k⟩
end
end My
namespace My
open PySem PySem.Spec PyProof.Rows L2 PySem.GX L2H LamX
/-- the parts of a thing that is a text of a rule -/
def partsD (d : PyData) : Option Parts := match d with
  | .str t => parseL t
  | _ => none
theorem fits_parts (d : PyData) : fitsD d = (partsD d).isSome := by
  match d with
  | .str t =>
    show fitsB (Txt.split t nl) = (partsL (rowsL t)).isSome
    rw [fits_is]
    rfl
  | .none => rfl
  | .bool _ => rfl
  | .int _ => rfl
  | .list _ => rfl
  | .tuple _ => rfl
  | .dict _ => rfl
def TxL (d : PyData) : Prop := ∀ t, d = .str t → t.length ≤ 1000000 ∧ PyData.strOk t = true
def spInitB (K : PySem.W.Frag) (C C0 : Addr) : Sp := fun vs H Q E => ∃ (a dx : Addr) (v : V) (d : PyData), vs = [.ref a, v] ∧ H a = some (.ins C dx []) ∧ Sh K H v d ∧ TxL d ∧
  (∀ t p, d = .str t → partsD d = some p → ∀ H', (∀ b o, b ≠ a → H b = some o → H' b = some o) → RuleAt H' C a t p → Q .non H') ∧ (partsD d = none → Rz C0 v H E)
def tParts (K : PySem.W.Frag) : TE := fun σ H Q => ∃ (v : V) (d : PyData), σ[1]? = some (some v) ∧ Sh K H v d ∧ TxL d ∧ (partsD d = none → ∀ H', Same H H' → Q .non H') ∧ ∀ p, partsD d = some p → ∀ T H', Same H H' → PartsAt H' T p → Q (.ref T) H'
section
variable {P : Program} {w : World} {K : PySem.W.Frag} {mg : Str → Option Value} {base : Heap}
theorem ok_initB {f C C0 : Addr} {fd : FuncData} (F : Fun K "__init__" "Rule.__init__" sInit f fd) (T : RuC K C) (Z : RzC P w K mg base "InvalidText" C0) (hR : Hv P w K mg base 4 "read_rule" ["text"] spRead) (hIs : mg "isinstance" = none) (hSt : mg "str" = none) : FnOk P w K mg base (L2N.CX P w) 5 f fd ["self", "text"] (spInitB K C C0) := by
  refine F.okN scInit (fun vs H Q E h => ?_) (fun cdv A outer s H vs Q E hr h => ?_)
  · obtain ⟨a, dx, v, d, rfl, _⟩ := h
    rfl
  · obtain ⟨a, dx, v, d, rfl, ha, hd, tx, ok, no⟩ := h
    refine ⟨_, pss_cons (ps_set (i := 2) scInit.nd rfl (Or.inl rfl) (PE_imp (t' := tParts K) (pe_ifExp (pt_val (pe_callB call_isi (by rfl) hIs (by decide +kernel) (pa_cons (pv 1) (pa_cons (pe_bltn (v := .ty "str") (by rfl) hSt (by decide +kernel) rfl) pa_nil)))) (pe_cl hR hr rfl pass0 (pa_cons (pv 1) pa_nil)) pe_non) ?iP))
      (pss_cons (ps_if (pt_cmpR op_isN (pv 2) pe_non (nomark _)) (pss_one (ps_raise1 Z.mk1 (hr.mono (by decide)) rfl rfl rfl (L2N.takes_of rfl rfl rfl rfl) (pa_cons (pv 1) pa_nil))) pss_nil)
      (pss_cons (ps_fld (pv 0) (pv 1) rfl)
      (pss_one (ps_asg (pv 2) (pg_tup (by rfl) (pgs_cons (pg_fld (pv 0)) (pgs_cons (pg_fld (pv 0)) (pgs_cons (pg_fld (pv 0)) (pgs_cons (pg_fld (pv 0)) pgs_nil))))))))), ?_⟩
    case iP =>
      rintro σ H Q ⟨v, d, e1, hd, tx, q1, q2⟩
      rcases sh_ty hd with ⟨t, rfl, rfl⟩ | ⟨ty, hty, hk⟩
      · refine ⟨_, e1, .str t, .ty "str", _, .type "str", true, rfl, .ty _, .base (.str t), kit_ty (by decide +kernel), _, rfl, iteT ?_⟩
        exact ⟨_, e1, t, rfl, (tx t rfl).1, (tx t rfl).2, q1, fun p hp T' H' s' h' => q2 p hp T' H' s' h'⟩
      · refine ⟨_, e1, v, .ty "str", ty, .type "str", false, rfl, .ty _, hty, hk, _, rfl, iteF ?_⟩
        have : partsD d = none := by
          match d, hd with
          | .str z, hd =>
            cases hd with
            | fl f =>
              cases f
              exfalso
              cases hty with
              | base b => cases b; rw [kit_ty (show _ = some true by decide +kernel)] at hk; cases hk
          | .none, _ => rfl
          | .int _, _ => rfl
          | .bool _, _ => rfl
          | .list _, _ => rfl
          | .tuple _, _ => rfl
          | .dict _, _ => rfl
        exact q1 this _ (Same.refl _)
    refine ⟨v, d, rfl, hd, tx, fun hn H1 s1 => ?_, fun p hp T' H1 s1 hT => ?_⟩
    · refine ⟨_, rfl, rfl, _, rfl, iteT ?_⟩
      refine ⟨_, rfl, _, rfl, fun a' d' H2 na ne s2 ex => rs1_end (X := cxOf (L2N.CX P w) P w K mg base _ _ _ f cdv A outer s H E) (W := fun cls d _ H => E cls d H) (σ := []) (raises_own Z.b1 Z.b2) s1 na ne s2 ex fun H3 s3 e3 => no hn d' H3 (s1.trans s3) e3⟩
    · obtain ⟨t, rfl⟩ : ∃ t, d = .str t := by
        match d, hp with
        | .str t, _ => exact ⟨t, rfl⟩
      obtain rfl : v = .str t := by
        cases hd with
        | fl f => cases f; rfl
      have k := ok t p rfl hp
      obtain ⟨M, G, D, e1, e2, e3, e4⟩ := hT
      have ea := s1 _ _ ha
      refine ⟨_, rfl, rfl, _, rfl, iteF ?_⟩
      refine ⟨_, rfl, _, rfl, a, C, dx, _, rfl, ea, T.cl, T.f1, by decide, ?_⟩
      have ne : ∀ {b : Addr} {xs : List V}, H1 b = some (.tup xs) → b ≠ a := fun e => ne_of e ea (by intro z; cases z)
      have nD : D ≠ a := ne_of e4 ea (by intro z; cases z)
      refine ⟨_, rfl, T', _, rfl, SqT.of (by rw [upd_ne (ne e1)]; exact e1), rfl, _, _, rfl, _, rfl, a, C, dx, _, rfl, upd_same, T.cl, T.f2, (by show 1 < 1000; decide), ?_⟩
      rw [upd_upd]
      refine ⟨_, _, rfl, _, rfl, a, C, dx, _, rfl, upd_same, T.cl, T.f3, (by show 2 < 1000; decide), ?_⟩
      rw [upd_upd]
      refine ⟨_, _, rfl, _, rfl, a, C, dx, _, rfl, upd_same, T.cl, T.f4, (by show 3 < 1000; decide), ?_⟩
      rw [upd_upd]
      refine ⟨_, _, rfl, _, rfl, a, C, dx, _, rfl, upd_same, T.cl, T.f5, (by show 4 < 1000; decide), ?_⟩
      rw [upd_upd]
      refine ⟨rfl, k _ (fun b o n e => by rw [upd_ne n]; exact s1 _ _ e) ⟨dx, M, G, D, upd_same, ?_, ?_, ?_⟩⟩
      · rw [upd_ne (ne e2)]; exact e2
      · rw [upd_ne (ne e3)]; exact e3
      · rw [upd_ne nD]; exact e4
end
end My
namespace My
open PySem PySem.Spec PyProof.Rows L2 PySem.GX L2H LamX
abbrev sWd : Stmt := top 40
def wordT (n : Nat) : Str := ("m" : Str) ++ sg (97 + n / 26) ++ sg (97 + n % 26)
def spWd : Sp := fun vs H Q _ => ∃ n : Nat, vs = [.int (n : Int)] ∧ n < 676 ∧ ∀ H', Same H H' → Q (.str (wordT n)) H'
theorem abc_get : ∀ n, n < 26 → abc.cps.toList[n]? = some (97 + n) := by decide +kernel
section
variable {P : Program} {w : World} {K : PySem.W.Frag} {mg : Str → Option Value} {base : Heap}
abbrev nWd : List Str := ["_law_measure", "_law_letters"]
theorem scWd : FnScope nWd ["_law_measure"] (defScope sWd) := ⟨rfl, rfl, rfl, by decide +kernel, rfl, by decide +kernel, by decide +kernel⟩
theorem ok_wd {f : Addr} {fd : FuncData} (F : Fun K "_law_word" "_law_word" sWd f fd) (hI : mg "int" = none) : FnOk P w K mg base CX0 1 f fd ["_law_measure"] spWd := by
  refine F.ok scWd (fun vs H Q E h => ?_) (fun cdv A outer s H vs Q E hr h => ?_)
  · obtain ⟨w, rfl, _⟩ := h
    rfl
  · obtain ⟨n, rfl, lz, k⟩ := h
    refine ⟨_, pss_cons (ps_set (i := 1) scWd.nd rfl (Or.inl rfl) pe_str)
      (pss_one (ps_ret (pe_op op_add_str (pe_op op_add_str pe_str (pe_ix ix_str (pv 1) (pe_op op_fdiv (pv 0) pe_int) (fun _ _ => rfl)))
        (pe_ix ix_str (pv 1) (pe_op op_mod (pe_callTy call_int1 (by rfl) hI (by decide +kernel) (pa_cons (pv 0) pa_nil)) pe_int) (fun _ _ => rfl))))), ?_⟩
    have la : abc.length ≤ sizeLine := by decide +kernel
    have l2 : ("m" : Str).length + (sg (97 + n / 26)).length ≤ sizeLine := by show 1 + 1 ≤ sizeLine; decide
    have l3 : (("m" : Str) ++ sg (97 + n / 26)).length + (sg (97 + n % 26)).length ≤ sizeLine := by
      rw [Str.length_append]
      show 1 + 1 + 1 ≤ sizeLine
      decide
    have e1 : ((n : Int) / 26) = ((n / 26 : Nat) : Int) := by omega
    have e2 : ((n : Int) % 26) = ((n % 26 : Nat) : Int) := by omega
    refine ⟨_, rfl, _, rfl, n, 26, rfl, rfl, ⟨by decide, by decide⟩, abc, _, 97 + n / 26, rfl, rfl, la, ?_, ?_⟩
    · rw [e1]
      exact atI_nat (abc_get (n / 26) (by omega))
    refine ⟨_, _, rfl, rfl, l2, _, rfl, _, rfl, Or.inl ⟨_, rfl, ?_⟩⟩
    refine ⟨n, 26, rfl, rfl, (by show (0 : Int) < 26; decide), abc, _, 97 + n % 26, rfl, rfl, la, ?_, ?_⟩
    · rw [e2]
      exact atI_nat (abc_get (n % 26) (by omega))
    exact ⟨_, _, rfl, rfl, l3, k _ (Same.refl _)⟩
end
end My
namespace My
open PySem PySem.Spec PyProof.Rows L2 PySem.GX L2H LamX
/-- c + f with a written text c: behind it a token is out -/
theorem pa_lit {X : Cx} {x : Str} {j : Nat} {p pos : Pos} {op : Operator} {r : R2} {f : Expr} {es : List Expr} {tf : TE} {ta : TA} (ho : OpR X (binaryOp op) r) (hf : PE X f tf) (hr : PAT X es ta)
    (hs : starEach (.BinOp (.Constant (.str x) j p) op f pos :: es) X.env = (false, eval (.BinOp (.Constant (.str x) j p) op f pos) X.env) :: starEach es X.env := by rfl) :
    PA X (.BinOp (.Constant (.str x) j p) op f pos :: es) (tCons (tOp r (tC (.str x)) tf) ta) := by
  refine ⟨fun pos' pins s σ H Q I h => ?_⟩
  rw [hs]
  refine Calls.spliced_cons ?_
  refine wpAny_BinOp (Calls.Constant_str ?_)
  have I0 : Inv X pins σ H { s with toks := s.toks + 1 } := I.tok _
  refine wpAny_mono (PySem.wpAny_toks (hf.run pins _ σ H _ I0 h)) (fun v s1 q => ?_) fun _ _ z => z.2
  obtain ⟨hk, y, H1, I1, r1, q1⟩ := q
  have h1 : 1 ≤ s1.toks := by
    have : s.toks + 1 ≤ s1.toks := hk
    omega
  refine wpAny_mono (PySem.wpAny_toks (ho pins s1 σ H1 (.str x) y _ v _ I1 ⟨_, rfl⟩ r1 q1)) (fun u s2 q => ?_) fun _ _ z => z.2
  obtain ⟨hk2, z, H2, I2, r2, q2⟩ := q
  exact thn (hr pos' pins s2 σ H2 _ (Nat.le_trans h1 hk2) I2 q2) fun us s3 ⟨xs, H3, I3, r3, q3⟩ => ⟨z :: xs, H3, I3, .cons r2 r3, q3⟩
theorem PS_imp {X : Cx} {st : Stmt} {t t' : TS} (h : PS X st t) (m : ∀ D σ H, t' D σ H → t D σ H) : PS X st t' := ⟨fun pins s σ H D I q => h.run pins s σ H D I (m D σ H q)⟩
/-- lines with their ends -/
def WL (ls : List Str) : Nat := (ls.map fun x => x.length + 1).sum
theorem WL_nil : WL [] = 0 := rfl
theorem WL_cons (a : Str) (l : List Str) : WL (a :: l) = a.length + 1 + WL l := by
  unfold WL
  rw [List.map_cons, List.sum_cons]
theorem WL_app (a b : List Str) : WL (a ++ b) = WL a + WL b := by
  induction a with
  | nil => rw [List.nil_append, WL_nil, Nat.zero_add]
  | cons x t ih => rw [List.cons_append, WL_cons, WL_cons, ih]; omega
theorem WL_sub {a b : List Str} (h : a.Sublist b) : WL a ≤ WL b := by
  induction h with
  | slnil => exact Nat.le_refl _
  | cons x _ ih => rw [WL_cons]; omega
  | cons_cons x _ ih => rw [WL_cons, WL_cons]; omega
theorem WL_mem {a : Str} {l : List Str} (h : a ∈ l) : a.length + 1 ≤ WL l := by
  have := WL_sub (List.singleton_sublist.mpr h)
  rw [WL_cons, WL_nil] at this
  exact this
theorem WL_len (l : List Str) : l.length ≤ WL l := by
  induction l with
  | nil => exact Nat.le_refl _
  | cons x t ih => rw [WL_cons, List.length_cons]; omega
theorem WL_sum (l : List Str) : WL l = (l.map (·.length)).sum + l.length := by
  induction l with
  | nil => rfl
  | cons x t ih => rw [WL_cons, ih, List.map_cons, List.sum_cons, List.length_cons]; omega
theorem join_WL (c : Nat) (ls : List Str) : (Str.join (sg c) ls).length ≤ WL ls := by
  cases ls with
  | nil => exact Nat.zero_le _
  | cons a l =>
    rw [len_join_cons, WL_sum, List.length_cons]
    show _ + l.length * 1 ≤ _
    omega
theorem split_WL (x : Str) (c : Nat) : WL (Txt.split x (sg c)) ≤ x.length + 1 := by
  rw [WL_sum]
  exact split_weight x (sg c) (Nat.le_refl 1)
theorem join_low {c : Nat} {ls : List Str} (hc : c < 256) (h : ∀ x ∈ ls, Low x) : Low (Str.join (sg c) ls) := fun d hd => by
  rcases join_from _ _ _ hd with m | ⟨p, hp, m⟩
  · exact sg_low hc d m
  · exact h p hp d m
theorem split_low {x p : Str} {c : Nat} (hx : Low x) (h : p ∈ Txt.split x (sg c)) : Low p := fun d hd => hx d (by
  have := join_mem (sg c) _ p h d hd
  rw [StrLaws.join_split] at this
  exact this)
theorem up_low {x : Str} (h : ∀ c ∈ x.cps.toList, c < 128) : Low (Txt.upper x) ∧ (Txt.upper x).length = x.length := by
  rw [upper_ascii h]
  refine ⟨fun c hc => ?_, by show (x.cps.map up1).size = x.cps.size; exact Array.size_map⟩
  have hc' : c ∈ (x.cps.map up1).toList := hc
  rw [Array.toList_map] at hc'
  obtain ⟨d, hd, rfl⟩ := List.mem_map.mp hc'
  have := h d hd
  unfold up1
  split <;> omega
/-- a thing that can be shown -/
structure Sho (d : PyData) : Prop where
  ab : d.showable = true
  ln : d.shown.length ≤ 100000
  dp : d.depth ≤ 50
  lo : Low d.shown
theorem sho_menu : ∀ d ∈ menu, Sho d := by
  have h : ∀ d ∈ menu, d.showable = true ∧ d.shown.length ≤ 100000 ∧ d.depth ≤ 50 ∧ ∀ c ∈ d.shown.cps.toList, c < 256 := by decide +kernel
  exact fun d hd => let ⟨a, b, c, e⟩ := h d hd; ⟨a, b, c, e⟩
theorem sho_str {r : Str} (h : Low r) (hl : r.length ≤ 9000) : Sho (.str r) := by
  have := repr_short h
  refine ⟨by simp only [PyData.showable], ?_, by simp only [PyData.depth]; omega, ?_⟩
  · simp only [PyData.shown]
    omega
  · simp only [PyData.shown]
    exact repr_low h
theorem tx_str {r : Str} (h : Low r) (hl : r.length ≤ 3000) : TxOk (.str r) := fun t e => by
  cases e
  exact ⟨by omega, ok_low h, fun l hl' => by have := split_small hl'; omega⟩
end My
namespace My
open PySem PySem.Spec PyProof.Rows L2 PySem.GX L2H LamX
theorem from_low : ∀ (ts : List Str) (k : Nat) (acc : Str), Low acc → (∀ t ∈ ts, Low t) → Low (textFrom k acc ts)
  | [], _, _, ha, _ => ha
  | t :: ts, k, acc, ha, h => by
    refine from_low ts (k + 1) _ (Low.app (Low.app ha ?_) (h t (List.mem_cons_self ..))) fun z hz => h z (List.mem_cons_of_mem _ hz)
    by_cases c : k > 0
    · simp only [c, if_true]; unfold Low; decide +kernel
    · simp only [c, if_false]; unfold Low; decide +kernel
theorem from_len : ∀ (ts : List Str) (k : Nat) (acc : Str), (textFrom k acc ts).length ≤ acc.length + (ts.map fun t => t.length + 2).sum
  | [], _, _ => Nat.le_refl _
  | t :: ts, k, acc => by
    have := from_len ts (k + 1) (acc ++ (if k > 0 then ", " else "" : String) ++ t)
    rw [len_app, len_app] at this
    have e : (Str.ofString (if k > 0 then ", " else "" : String)).length ≤ 2 := by
      by_cases c : k > 0
      · simp only [c, if_true]; decide +kernel
      · simp only [c, if_false]; decide +kernel
    show (textFrom (k + 1) (acc ++ (if k > 0 then ", " else "" : String) ++ t) ts).length ≤ _
    rw [List.map_cons, List.sum_cons]
    omega
theorem shown_strs : ∀ ls : List Str, PyData.shownAll (ls.map PyData.str) = ls.map reprText
  | [] => rfl
  | a :: t => by
    rw [List.map_cons, List.map_cons, ← shown_strs t]
    simp only [PyData.shownAll, PyData.shown]
theorem able_strs : ∀ ls : List Str, PyData.showableAll (ls.map PyData.str) = true
  | [] => rfl
  | a :: t => by
    rw [List.map_cons]
    simp only [PyData.showableAll, PyData.showable, able_strs t, Bool.and_self]
theorem depth_strs : ∀ ls : List Str, PyData.depthAll (ls.map PyData.str) ≤ 1
  | [] => Nat.zero_le _
  | a :: t => by
    have := depth_strs t
    rw [List.map_cons]
    simp only [PyData.depthAll, PyData.depth]
    omega
theorem reprs_sum : ∀ ls : List Str, (∀ x ∈ ls, Low x) → ((ls.map reprText).map fun t => t.length + 2).sum ≤ 10 * WL ls
  | [], _ => Nat.zero_le _
  | a :: t, h => by
    have := reprs_sum t fun z hz => h z (List.mem_cons_of_mem _ hz)
    have := repr_short (h a (List.mem_cons_self ..))
    rw [List.map_cons, List.map_cons, List.sum_cons, WL_cons]
    omega
theorem sho_lines {ls : List Str} (h : ∀ x ∈ ls, Low x) (hl : WL ls ≤ 9000) : Sho (.list (ls.map PyData.str)) := by
  have e : (PyData.list (ls.map PyData.str)).shown = listText (ls.map reprText) := by
    rw [← shown_strs]
    simp only [PyData.shown]
  have d := depth_strs ls
  refine ⟨?_, ?_, ?_, ?_⟩
  · simp only [PyData.showable]
    exact able_strs ls
  · rw [e]
    unfold listText
    rw [len_app]
    have a := from_len (ls.map reprText) 0 "["
    have b := reprs_sum ls h
    have c1 : ("[" : Str).length = 1 := by decide +kernel
    have c2 : ("]" : Str).length = 1 := by decide +kernel
    omega
  · simp only [PyData.depth]
    omega
  · rw [e]
    unfold listText
    refine Low.app (from_low _ _ _ (by unfold Low; decide +kernel) fun t ht => ?_) (by unfold Low; decide +kernel)
    obtain ⟨z, hz, rfl⟩ := List.mem_map.mp ht
    exact repr_low (h z hz)
theorem low7_only {y : Str} (h : madeL y abc = true) : ∀ c ∈ y.cps.toList, c < 128 := fun c hc => by
  unfold madeL at h
  rw [List.all_map, List.all_eq_true] at h
  have := h c hc
  have m : c ∈ abc.cps.toList := by simpa using this
  have all : ∀ d ∈ abc.cps.toList, d < 128 := by decide +kernel
  exact all c m
theorem text_low7 {x : Str} {ws fs : List Str} {kvs : List (List Key × V)} (h : Fine x ws fs kvs) : ∀ c ∈ (textL x ws fs kvs).cps.toList, c < 128 := by
  have wl : ∀ y ∈ ws, ∀ c ∈ y.cps.toList, c < 128 := fun y hy => low7_only (Bool.and_eq_true_iff.mp (moods_word h.mds y hy)).2
  have xl : ∀ c ∈ x.cps.toList, c < 128 := by
    have := h.sgs
    rw [areS1] at this
    simp only [Bool.and_eq_true] at this
    exact low7_only this.1.2
  intro c hc
  unfold textL at hc
  rw [TL.join_eq] at hc
  rcases join_from nl _ c hc with m | ⟨p, hp, m⟩
  · have : c = 10 := by simpa using m
    omega
  · unfold linesL at hp
    rcases List.mem_append.mp hp with hp | hp
    · unfold headL at hp
      simp only [List.mem_cons, List.not_mem_nil, or_false] at hp
      rcases hp with rfl | rfl | rfl
      · rw [cps_app, List.mem_append] at m
        rcases m with m | m
        · have : ∀ d ∈ ("signs " : Str).cps.toList, d < 128 := by decide +kernel
          exact this c m
        · exact xl c m
      · rw [TL.join_eq] at m
        rcases join_from sp _ c m with m | ⟨p, hp, m⟩
        · have : c = 32 := by simpa using m
          omega
        · rcases List.mem_cons.mp hp with rfl | hp
          · have : ∀ d ∈ ("moods" : Str).cps.toList, d < 128 := by decide +kernel
            exact this c m
          · exact wl p hp c m
      · rw [TL.join_eq] at m
        rcases join_from sp _ c m with m | ⟨p, hp, m⟩
        · have : c = 32 := by simpa using m
          omega
        · rcases List.mem_cons.mp hp with rfl | hp
          · have : ∀ d ∈ ("good" : Str).cps.toList, d < 128 := by decide +kernel
            exact this c m
          · exact wl p (h.sub.subset hp) c m
    · unfold bodyL at hp
      obtain ⟨t, ht, hp⟩ := List.mem_flatMap.mp hp
      obtain ⟨d, hd, rfl⟩ := List.mem_map.mp hp
      obtain ⟨y, hy, e⟩ := h.gl t ht d hd
      unfold lineL at m
      rw [gf_is e, cps_app, cps_app, cps_app, cps_app] at m
      simp only [List.mem_append] at m
      rcases m with (((m | m) | m) | m) | m
      · exact wl t ht c m
      · have : c = 32 := by simpa using m
        omega
      · have : c = d := by simpa using m
        rw [this]; exact xl d hd
      · have : c = 32 := by simpa using m
        omega
      · exact wl y hy c m
theorem words5 : ∀ y ∈ menuW, y.length ≤ 5 := by decide +kernel
theorem text_500 {x : Str} {ws fs : List Str} {kvs : List (List Key × V)} (h : SkOk 4 x ws fs kvs) : (textL x ws fs kvs).length ≤ 500 := by
  have hx := x_small h.hx
  have l2 := h.l2
  have lw : ∀ y ∈ ws, y.length ≤ 5 := fun y hy => words5 y (h.mem y hy)
  have lf : ∀ y ∈ fs, y.length ≤ 5 := fun y hy => lw y (h.sub.subset hy)
  have nf : fs.length ≤ 4 := Nat.le_trans h.sub.length_le l2
  have wl : ∀ zs : List Str, zs.length ≤ 4 → (∀ y ∈ zs, y.length ≤ 5) → WL zs ≤ 24 := fun zs h1 h2 => by
    rw [WL_sum]
    have := sum_le h2
    omega
  have j1 : (Txt.join sp (("moods" : Str) :: ws)).length ≤ 30 := by
    rw [TL.join_eq]
    have a := join_WL 32 (("moods" : Str) :: ws)
    have b := wl ws l2 lw
    rw [WL_cons] at a
    have c : ("moods" : Str).length = 5 := by decide +kernel
    have a' : (Str.join sp (("moods" : Str) :: ws)).length ≤ ("moods" : Str).length + 1 + WL ws := a
    omega
  have j2 : (Txt.join sp (("good" : Str) :: fs)).length ≤ 30 := by
    rw [TL.join_eq]
    have a := join_WL 32 (("good" : Str) :: fs)
    have b := wl fs nf lf
    rw [WL_cons] at a
    have c : ("good" : Str).length = 4 := by decide +kernel
    have a' : (Str.join sp (("good" : Str) :: fs)).length ≤ ("good" : Str).length + 1 + WL fs := a
    omega
  have each : ∀ l ∈ linesL x ws fs kvs, l.length ≤ 30 := by
    intro l hl
    unfold linesL at hl
    rcases List.mem_append.mp hl with hp | hp
    · unfold headL at hp
      simp only [List.mem_cons, List.not_mem_nil, or_false] at hp
      rcases hp with rfl | rfl | rfl
      · rw [len_app]
        have c : ("signs " : Str).length = 6 := by decide +kernel
        omega
      · exact j1
      · exact j2
    · unfold bodyL at hp
      obtain ⟨t, ht, hp⟩ := List.mem_flatMap.mp hp
      obtain ⟨d, hd, rfl⟩ := List.mem_map.mp hp
      obtain ⟨y, hy, e⟩ := (h.fine (by decide)).gl t ht d hd
      unfold lineL
      rw [gf_is e, len_app, len_app, len_app, len_app]
      have := lw t ht
      have := lw y hy
      have c1 : sp.length = 1 := rfl
      have c2 : (sg d).length = 1 := rfl
      omega
  have num : (linesL x ws fs kvs).length ≤ 15 := by
    unfold linesL headL bodyL
    rw [List.length_append]
    have : ∀ zs : List Str, (zs.flatMap fun t => x.cps.toList.map fun c => lineL kvs t c).length = zs.length * x.length := fun zs => by
      induction zs with
      | nil => rw [List.flatMap_nil, List.length_nil, Nat.zero_mul]
      | cons a t ih =>
        rw [List.flatMap_cons, List.length_append, ih, List.length_map, Array.length_toList, List.length_cons, Nat.succ_mul]
        show x.length + _ = _
        omega
    rw [this]
    have a : ws.length * x.length ≤ 4 * 3 := Nat.mul_le_mul l2 hx
    show 3 + _ ≤ 15
    omega
  unfold textL
  rw [TL.join_eq]
  have a := join_WL 10 (linesL x ws fs kvs)
  have b := sum_le each
  rw [WL_sum] at a
  have a' : (Str.join nl (linesL x ws fs kvs)).length ≤ ((linesL x ws fs kvs).map (·.length)).sum + (linesL x ws fs kvs).length := a
  omega
end My
namespace My
open PySem PySem.Spec PyProof.Rows L2 PySem.GX L2H LamX
/-- a slice of a list of texts, no matter which -/
def tSubl (j : Nat) (G : L2.St → Prop) : TE := fun σ H Q => G σ ∧ ∃ (l : Addr) (ls : List Str), σ[j]? = some (some (.ref l)) ∧ H l = some (.lst (ls.map V.str)) ∧
  ∀ (xs : List Str) (q : Addr) (H' : Hp), xs.Sublist ls → Same H H' → H q = none → H' q = some (.lst (xs.map V.str)) → Q (.ref q) H'
def GoodP (G : L2.St → Prop) (t : TO) : Prop := ∀ σ H Q, G σ → (∀ o, Q o H) → t σ H Q
theorem cut_strs (ls : List Str) (lo hi : Option Int) : ∃ xs : List Str, xs.Sublist ls ∧ cutV (ls.map V.str) lo hi = xs.map V.str := by
  unfold cutV
  rw [← List.map_drop, ← List.map_take]
  exact ⟨_, (List.take_sublist _ _).trans (List.drop_sublist _ _), rfl⟩
theorem pe_subl {X : Cx} {e : Expr} {lo hi : Option Expr} {tl th : TO} {j : Nat} {p2 pos : Pos} {G : L2.St → Prop} (h : PE X e (tVar j)) (hl : PO X lo tl) (hu : PO X hi th) (gl : GoodP G tl) (gu : GoodP G th) : PE X (.Subscript e (.Slice lo hi none p2) pos) (tSubl j G) :=
  PE_imp (pe_slice sl_list h hl hu) fun σ H Q ⟨g, l, ls, e1, e2, k⟩ => by
    refine ⟨_, e1, gl σ H _ g fun lo => gu σ H _ g fun hi => ⟨l, _, rfl, SqL.of e2, fun q hq => ?_⟩⟩
    obtain ⟨xs, hs, ec⟩ := cut_strs ls lo hi
    rw [ec]
    exact k xs q _ hs (same_new hq) hq upd_same
/-- the two numbers -/
def At (i : Nat) (σ : L2.St) : Prop := ∃ n : Int, σ[i]? = some (some (.int n))
theorem gp_none {G : L2.St → Prop} : GoodP G tNoPart := fun σ H Q _ k => k none
theorem gp_var {i : Nat} : GoodP (At i) (tPart (tVar i)) := fun σ H Q ⟨n, e⟩ k => ⟨_, e, n, rfl, k _⟩
theorem gp_add {i : Nat} {m : Int} : GoodP (At i) (tPart (tOp (rI0 fun i j => .int (i + j)) (tVar i) (tC (.int m)))) := fun σ H Q ⟨n, e⟩ k => ⟨_, e, _, _, rfl, rfl, _, rfl, k _⟩
abbrev Bst (p : Addr) (t : Str) (l : Addr) (n way : Nat) (o5 o6 o7 : Option V) : L2.St := [some (.ref p), some (.str t), some (.ref l), some (.int (n : Int)), some (.int (way : Int)), o5, o6, o7]
structure Bh (H : Hp) (p l : Addr) (ls : List Str) : Prop where
  w : Wl H p
  e : H l = some (.lst (ls.map V.str))
  lo : ∀ x ∈ ls, Low x
  wl : WL ls ≤ 2100
def tBs (a b : Nat) : TS := fun D σ H => ∃ (p l : Addr) (t : Str) (n way : Nat) (o5 o6 o7 : Option V) (ls : List Str), σ = Bst p t l n way o5 o6 o7 ∧ Bh H p l ls ∧ ((n < ls.length ∧ WL ls ≤ 501) ∨ way < a) ∧
  ∀ (l' : Addr) (o5' o6' o7' : Option V) (ls' : List Str) (H' : Hp), Bh H' p l' ls' → ((n < ls'.length ∧ WL ls' ≤ 501) ∨ way < b) → (∀ b o, b ≠ p → b ≠ l → H b = some o → H' b = some o) → (l' = l ∨ H l' = none) → D.nx (Bst p t l' n way o5' o6' o7') H'
theorem WL_sub2 {ls xs : List Str} {m : Nat} (h : xs.Sublist ls) (hl : WL ls ≤ m) : WL xs ≤ m := Nat.le_trans (WL_sub h) hl
abbrev nBent : List Str := ["_law_well_here", "_law_sheet", "_law_lines", "_law_at", "_law_way", "_law_parts", "_law_k", "_law_word_here"]
theorem scBent : FnScope nBent ["_law_well_here", "_law_sheet"] (defScope sBent) := ⟨rfl, rfl, rfl, by decide +kernel, rfl, by decide +kernel, by decide +kernel⟩
def bs (i : Nat) : Stmt := (defBody sBent).getD i (.Pass ⟨0, 0, 0, 0⟩)
theorem way_of {m : Nat} {mi : Int} (hm : mi = (m : Int)) {u : TS} (h : ∀ (D : Ends) (p l : Addr) (t : Str) (n : Nat) (o5 o6 o7 : Option V) (ls : List Str) (H : Hp), Bh H p l ls → n < ls.length → WL ls ≤ 501 →
    (∀ (l' : Addr) (o5' o6' o7' : Option V) (ls' : List Str) (H' : Hp), Bh H' p l' ls' → (∀ b o, b ≠ p → b ≠ l → H b = some o → H' b = some o) → (l' = l ∨ H l' = none) → D.nx (Bst p t l' n m o5' o6' o7') H') → u D (Bst p t l n m o5 o6 o7) H) :
    ∀ D σ H, tBs m (m + 1) D σ H → tIfS (tTest (tOp rEq (tVar 4) (tC (V.int mi)))) u tNext D σ H := by
  rintro D σ H ⟨p, l, t, n, way, o5, o6, o7, ls, rfl, hB, hf, k⟩
  subst hm
  refine ⟨_, rfl, rfl, _, rfl, ite2 (fun c => ?_) fun c => ?_⟩
  · rw [dec_int] at c
    have c' : way = m := by
      have := eq_of_beq c
      omega
    subst c'
    rcases hf with ⟨h1, h2⟩ | h1
    · exact h D p l t n o5 o6 o7 ls H hB h1 h2 fun l' o5' o6' o7' ls' H' hB' fr nw => k l' o5' o6' o7' ls' H' hB' (Or.inr (by omega)) fr nw
    · omega
  · refine k l o5 o6 o7 ls H hB ?_ (fun b o _ _ e => e) (Or.inl rfl)
    rcases hf with h1 | h1
    · exact Or.inl h1
    · exact Or.inr (by omega)
theorem Bh.next {H H' : Hp} {p l q : Addr} {ls zs : List Str} (hB : Bh H p l ls) (s : Same H H') (e : H' q = some (.lst (zs.map V.str))) (lo : ∀ x ∈ zs, Low x) (wl : WL zs ≤ 2100) : Bh H' p q zs := ⟨hB.w.same s, e, lo, wl⟩
theorem Bh.few {H : Hp} {p l : Addr} {ls : List Str} (hB : Bh H p l ls) : ls.length ≤ 2100 := Nat.le_trans (WL_len _) hB.wl
theorem len_sub {ls xs : List Str} {m : Nat} (h : xs.Sublist ls) (hl : ls.length ≤ m) : (xs.map V.str).length ≤ m := by
  rw [List.length_map]
  exact Nat.le_trans h.length_le hl
theorem at_line {ls : List Str} {n : Nat} (h : n < ls.length) : atI (ls.map V.str) (n : Int) = some (V.str ls[n]) := atI_nat (by rw [List.getElem?_map, List.getElem?_eq_getElem h]; rfl)
section
variable {P : Program} {w : World} {K : PySem.W.Frag} {mg : Str → Option Value} {base : Heap}
theorem cat2 {D : Ends} {p l : Addr} {t : Str} {n m : Nat} {o5 o6 o7 : Option V} {ls : List Str} {H : Hp} (hB : Bh H p l ls) (h2 : WL ls ≤ 501)
    (k : ∀ (l' : Addr) (o5' o6' o7' : Option V) (ls' : List Str) (H' : Hp), Bh H' p l' ls' → (∀ b o, b ≠ p → b ≠ l → H b = some o → H' b = some o) → (l' = l ∨ H l' = none) → D.nx (Bst p t l' n m o5' o6' o7') H') :
    tAsg (tOp rCat (tSubl 2 (At 3)) (tSubl 2 (At 3))) (gName 2) D (Bst p t l n m o5 o6 o7) H := by
  refine ⟨⟨_, rfl⟩, l, ls, rfl, hB.e, fun xs q1 H1 hx s1 n1 e1 => ⟨⟨_, rfl⟩, l, ls, rfl, s1 _ _ hB.e, fun ys q2 H2 hy s2 n2 e2 => ?_⟩⟩
  have fw := hB.few
  have lx := len_sub hx fw
  have ly := len_sub hy fw
  refine ⟨q1, q2, _, _, rfl, rfl, s2 _ _ e1, e2, by rw [sizeLine_eq]; omega, fun q3 n3 => ?_⟩
  have s3 : Same H (upd H2 q3 (.lst (xs.map V.str ++ ys.map V.str))) := (s1.trans s2).trans (same_new n3)
  refine k q3 o5 o6 o7 (xs ++ ys) _ (hB.next s3 (by rw [List.map_append]; exact upd_same) (fun x hx' => ?_) ?_) (fun b o _ _ e => s3 b o e) (Or.inr ((s1.trans s2).free n3))
  · rcases List.mem_append.mp hx' with h | h
    · exact hB.lo x (hx.subset h)
    · exact hB.lo x (hy.subset h)
  · rw [WL_app]
    have := WL_sub2 hx h2
    have := WL_sub2 hy h2
    omega
theorem way0 {f : Addr} {cdv : Value} {A : Around} {outer : List Env} {s : Shared} {H : Hp} {E : XK} : PS (cxOf CX0 P w K mg base nBent "_law_bent" (defScope sBent) f cdv A outer s H E).nox (bs 2) (tBs 0 1) :=
  PS_imp (ps_if (pt_cmpR op_eq (pv 4) pe_int (nomark _)) (pss_one (ps_set (i := 2) scBent.nd rfl (Or.inl rfl) (pe_op op_cat (pe_subl (pv 2) po_none (po_some (pv 3)) gp_none gp_var) (pe_subl (pv 2) (po_some (pe_op op_add (pv 3) pe_int)) po_none gp_add gp_none)))) pss_nil)
    (way_of (by decide) fun D p l t n o5 o6 o7 ls H hB _ h2 k => cat2 hB h2 k)
theorem way1 {f : Addr} {cdv : Value} {A : Around} {outer : List Env} {s : Shared} {H : Hp} {E : XK} : PS (cxOf CX0 P w K mg base nBent "_law_bent" (defScope sBent) f cdv A outer s H E).nox (bs 3) (tBs 1 2) :=
  PS_imp (ps_if (pt_cmpR op_eq (pv 4) pe_int (nomark _)) (pss_one (ps_set (i := 2) scBent.nd rfl (Or.inl rfl) (pe_op op_cat (pe_subl (pv 2) po_none (po_some (pe_op op_add (pv 3) pe_int)) gp_none gp_add) (pe_subl (pv 2) (po_some (pv 3)) po_none gp_var gp_none)))) pss_nil)
    (way_of (by decide) fun D p l t n o5 o6 o7 ls H hB _ h2 k => cat2 hB h2 k)
theorem way2 {f : Addr} {cdv : Value} {A : Around} {outer : List Env} {s : Shared} {H : Hp} {E : XK} : PS (cxOf CX0 P w K mg base nBent "_law_bent" (defScope sBent) f cdv A outer s H E).nox (bs 4) (tBs 2 3) := by
  refine PS_imp (ps_if (pt_cmpR op_eq (pv 4) pe_int (nomark _)) (pss_one (ps_set (i := 2) scBent.nd rfl (Or.inl rfl) (pe_op op_cat (pe_op op_cat (pe_op op_cat (pe_subl (pv 2) po_none (po_some (pv 3)) gp_none gp_var) (pe_subl (pv 2) (po_some (pe_op op_add (pv 3) pe_int)) (po_some (pe_op op_add (pv 3) pe_int)) gp_add gp_add)) (pe_lst (pa_cons (pe_ix (ix_listK (K := K) rfl) (pv 2) (pv 3) (fun _ _ => rfl)) pa_nil))) (pe_subl (pv 2) (po_some (pe_op op_add (pv 3) pe_int)) po_none gp_add gp_none)))) pss_nil)
    (way_of (by decide) fun D p l t n o5 o6 o7 ls H hB hn h2 k => ?_)
  refine ⟨⟨_, rfl⟩, l, ls, rfl, hB.e, fun xs q1 H1 hx s1 n1 e1 => ⟨⟨_, rfl⟩, l, ls, rfl, s1 _ _ hB.e, fun ys q2 H2 hy s2 n2 e2 => ?_⟩⟩
  have fw := hB.few
  have lx := len_sub hx fw
  have ly := len_sub hy fw
  refine ⟨q1, q2, _, _, rfl, rfl, s2 _ _ e1, e2, by rw [sizeLine_eq]; omega, fun q3 n3 => ?_⟩
  have s3 : Same H (upd H2 q3 (.lst (xs.map V.str ++ ys.map V.str))) := (s1.trans s2).trans (same_new n3)
  have e3 : upd H2 q3 (.lst (xs.map V.str ++ ys.map V.str)) q3 = some (.lst ((xs ++ ys).map V.str)) := by rw [List.map_append]; exact upd_same
  generalize upd H2 q3 (.lst (xs.map V.str ++ ys.map V.str)) = H3 at s3 e3 ⊢
  have ez := at_line hn
  refine ⟨_, rfl, _, rfl, l, _, _, _, rfl, rfl, SqL.of (s3 _ _ hB.e), ez, (by show 1 ≤ sizeLine; decide), fun q4 n4 => ?_⟩
  have s4 := s3.trans (same_new (o := .lst [.str ls[n]]) n4)
  have e4 : upd H3 q4 (.lst [.str ls[n]]) q4 = some (.lst ([ls[n]].map V.str)) := upd_same
  have e34 := same_new (o := .lst [.str ls[n]]) n4 _ _ e3
  generalize upd H3 q4 (.lst [.str ls[n]]) = H4 at s4 e4 e34 ⊢
  refine ⟨q3, q4, _, _, rfl, rfl, e34, e4, by rw [sizeLine_eq, List.map_append, List.length_append, List.length_map (as := [ls[n]])]; show _ + 1 ≤ _; omega, fun q5 n5 => ?_⟩
  have s5 := s4.trans (same_new (o := .lst ((xs ++ ys).map V.str ++ [ls[n]].map V.str)) n5)
  have e5 : upd H4 q5 (.lst ((xs ++ ys).map V.str ++ [ls[n]].map V.str)) q5 = some (.lst ((xs ++ ys ++ [ls[n]]).map V.str)) := by rw [upd_same, ← List.map_append]
  generalize upd H4 q5 (.lst ((xs ++ ys).map V.str ++ [ls[n]].map V.str)) = H5 at s5 e5 ⊢
  refine ⟨⟨_, rfl⟩, l, ls, rfl, s5 _ _ hB.e, fun us q6 H6 hu s6 n6 e6 => ?_⟩
  have lu := len_sub hu fw
  refine ⟨q5, q6, _, _, rfl, rfl, s6 _ _ e5, e6, by rw [sizeLine_eq, List.map_append, List.map_append, List.length_append, List.length_append, List.length_map (as := [ls[n]])]; show _ + 1 + _ ≤ _; omega, fun q7 n7 => ?_⟩
  have s7 := (s5.trans s6).trans (same_new (o := .lst ((xs ++ ys ++ [ls[n]]).map V.str ++ us.map V.str)) n7)
  refine k q7 o5 o6 o7 (xs ++ ys ++ [ls[n]] ++ us) _ (hB.next s7 (by rw [List.map_append (l₂ := us)]; exact upd_same) (fun x hx' => ?_) ?_) (fun b o _ _ e => s7 b o e) (Or.inr ((s5.trans s6).free n7))
  · have hm : x ∈ ls := by
      rcases List.mem_append.mp hx' with h | h
      · rcases List.mem_append.mp h with h | h
        · rcases List.mem_append.mp h with h | h
          · exact hx.subset h
          · exact hy.subset h
        · rw [List.mem_singleton.mp h]
          exact List.getElem_mem hn
      · exact hu.subset h
    exact hB.lo x hm
  · rw [WL_app, WL_app, WL_app, WL_cons, WL_nil]
    have := WL_sub2 hx h2
    have := WL_sub2 hy h2
    have := WL_sub2 hu h2
    have := WL_mem (List.getElem_mem hn)
    omega
end
end My
namespace My
open PySem PySem.Spec PyProof.Rows L2 PySem.GX L2H LamX
def G2 (σ : L2.St) : Prop := At 6 σ ∧ At 4 σ
theorem gp_k : GoodP G2 (tPart (tVar 6)) := fun σ H Q ⟨⟨n, e⟩, _⟩ k => ⟨_, e, n, rfl, k _⟩
theorem gp_kw {m : Int} : GoodP G2 (tPart (tOp (rI0 fun i j => .int (i - j)) (tOp (rI0 fun i j => .int (i + j)) (tVar 6) (tVar 4)) (tC (.int m)))) := fun σ H Q ⟨⟨n, e⟩, ⟨n', e'⟩⟩ k => ⟨_, e, _, e', _, _, rfl, rfl, _, _, rfl, rfl, _, rfl, k _⟩
abbrev menuB : List Str := ["", "a", "out", "good", "b", "ab", "ba", "x y", "A", "maa"]
abbrev menuBV : List V := [.str "", .str "a", .str "out", .str "good", .str "b", .str "ab", .str "ba", .str "x y", .str "A", .str "maa"]
theorem menuB_ok : ∀ z ∈ menuB, z.length ≤ 5 ∧ ∀ c ∈ z.cps.toList, c < 256 := by decide +kernel
theorem e_sp : Str.ofString " " = sg 32 := by decide +kernel
theorem ix_nat {m n : Nat} (h : n < m) : ixN m (n : Int) = some n := by
  unfold ixN
  rw [if_pos (by omega), if_pos (by omega), Int.toNat_natCast]
theorem WL_set {ls : List Str} {z : Str} : ∀ {n : Nat}, WL (ls.set n z) ≤ WL ls + z.length := by
  induction ls with
  | nil => exact Nat.zero_le _
  | cons a t ih =>
    intro n
    cases n with
    | zero => rw [List.set_cons_zero, WL_cons, WL_cons]; omega
    | succ n => rw [List.set_cons_succ, WL_cons, WL_cons]; have := @ih n; omega
theorem set_line {H : Hp} {p l : Addr} {ls : List Str} {n : Nat} {z : Str} (w : Wl H p) (e : H l = some (.lst (ls.map V.str))) (ne : l ≠ p) (lo : ∀ x ∈ ls, Low x) (h2 : WL ls ≤ 501) (lz : Low z) (hz : z.length ≤ 1500) :
    Bh (upd H l (.lst ((ls.map V.str).set n (.str z)))) p l (ls.set n z) := by
  refine ⟨w.upd_ ne, by rw [upd_same, List.map_set], fun x hx => ?_, by have := @WL_set ls z n; omega⟩
  rcases List.mem_or_eq_of_mem_set hx with h | h
  · exact lo x h
  · rw [h]; exact lz
section
variable {P : Program} {w : World} {K : PySem.W.Frag} {mg : Str → Option Value} {base : Heap}
theorem way3 {f : Addr} {cdv : Value} {A : Around} {outer : List Env} {s : Shared} {H : Hp} {E : XK} (hr : Room 2 (A.deeper (envOfC ("_law_bent" : Str) (defScope sBent) s.heap.objs.size f cdv)))
    (hD : Hv P w K mg base 1 "_law_dip" ["_law_well_here", "_law_size"] spDip) (hP : Hv P w K mg base 2 "_law_pick" ["_law_well_here", "_law_menu"] spPickL) (hL : mg "len" = none) :
    PS (cxOf CX0 P w K mg base nBent "_law_bent" (defScope sBent) f cdv A outer s H E).nox (bs 5) (tBs 3 5) := by
  refine PS_imp (ps_if (pt_cmpR (op_in_seqK (K := K) rfl) (pv 4) (pe_lst (pa_cons pe_int (pa_cons pe_int pa_nil))) (by rfl))
      (pss_cons (ps_set (i := 5) scBent.nd rfl (Or.inl rfl) (pe_split (pe_ix (ix_listK (K := K) rfl) (pv 2) (pv 3) (fun _ _ => rfl)) pe_str))
      (pss_cons (ps_par (i := 6) (j := 7) rfl scBent.nd rfl rfl (by decide) rfl rfl (pa_cons (pe_cl hD (hr.mono (by decide)) rfl pass0 (pa_cons (pv 0) (pa_cons (pe_callB call_len_seq (by rfl) hL PySem.boot_len (pa_cons (pv 5) pa_nil)) pa_nil)))
          (pa_cons (pe_cl hP hr rfl pass0 (pa_cons (pv 0) (pa_cons (pe_lst (pa_cons pe_str (pa_cons pe_str (pa_cons pe_str (pa_cons pe_str (pa_cons pe_str (pa_cons pe_str (pa_cons pe_str (pa_cons pe_str (pa_cons pe_str (pa_cons pe_str pa_nil))))))))))) pa_nil))) pa_nil)) (by rfl))
      (pss_one (ps_asg (pe_join pe_str (pe_op op_cat (pe_op op_cat (pe_subl (pv 5) po_none (po_some (pv 6)) gp_none gp_k) (pe_lst (pa_cons (pv 7) pa_nil))) (pe_subl (pv 5) (po_some (pe_op op_sub (pe_op op_add (pv 6) (pv 4)) pe_int)) po_none gp_kw gp_none))) (pg_sub (pv 2) (pv 3) set_list))))) pss_nil) ?_
  rintro D σ H ⟨p, l, t, n, way, o5, o6, o7, ls, rfl, hB, hf, k⟩
  refine ⟨_, rfl, (by show 2 ≤ sizeLine; decide), fun q0 n0 => ?_⟩
  have s0 := same_new (o := .lst [.int 3, .int 4]) n0
  refine ⟨q0, _, rfl, .inl (SqL.of upd_same), rfl, rfl, _, rfl, ite2 (fun c => ?_) fun c => ?_⟩
  · have hw : way = 3 ∨ way = 4 := by
      have := c
      simp only [inV, eqV, List.any_cons, List.any_nil, Bool.or_false, Bool.or_eq_true, beq_iff_eq, Bool.false_eq_true, if_false] at this
      omega
    obtain ⟨h1, h2⟩ : n < ls.length ∧ WL ls ≤ 501 := by
      rcases hf with h | h
      · exact h
      · omega
    generalize upd H q0 (.lst [.int 3, .int 4]) = H0 at s0 ⊢
    have hB0 : Bh H0 p l ls := hB.next s0 (s0 _ _ hB.e) hB.lo hB.wl
    have nl : l ≠ p := hB.w.neS hB.e
    have low0 := hB.lo _ (List.getElem_mem h1)
    have len0 := WL_mem (List.getElem_mem h1)
    refine ⟨_, rfl, _, rfl, l, _, _, _, rfl, rfl, SqL.of hB0.e, at_line h1, ⟨_, rfl⟩, _, _, rfl, rfl, by decide +kernel, by rw [sizeLine_eq]; omega, fun q1 n1 => ?_⟩
    rw [e_sp]
    have hps := split_WL ls[n] 32
    have hpl : ∀ y ∈ Txt.split ls[n] (sg 32), Low y := fun y hy => split_low low0 hy
    have hpn : 0 < (Txt.split ls[n] (sg 32)).length := List.length_pos_iff.mpr (split_ne _ _)
    generalize Txt.split ls[n] (sg 32) = ps at hps hpl hpn ⊢
    have hpf := WL_len ps
    have s1 := s0.trans (same_new (o := .lst (ps.map V.str)) n1)
    have e1 : upd H0 q1 (.lst (ps.map V.str)) q1 = some (.lst (ps.map V.str)) := upd_same
    generalize upd H0 q1 (.lst (ps.map V.str)) = H1 at s1 e1 ⊢
    have w1 := hB.w.same s1
    refine ⟨_, rfl, _, rfl, q1, _, rfl, .inl (SqL.of e1), p, _, rfl, w1, by rw [List.length_map]; omega, by rw [List.length_map]; omega, fun d o d0 d1 w2 => ?_⟩
    have b2 : Sb p H (upd H1 p o) := (Sb.of s1).trans Sb.upd_
    have e2 : upd H1 p o q1 = some (.lst (ps.map V.str)) := by rw [upd_ne (w1.neS e1)]; exact e1
    generalize upd H1 p o = H2 at w2 b2 e2 ⊢
    refine ⟨_, rfl, (by show 10 ≤ sizeLine; decide), fun q2 n2 => ?_⟩
    have w3 := w2.same (same_new (o := .lst menuBV) n2)
    have b3 := b2.trans (Sb.of (same_new (o := .lst menuBV) n2))
    have e3 := same_new (o := .lst menuBV) n2 _ _ e2
    refine ⟨p, q2, _, rfl, w3, w2.new n2, upd_same, by decide, by decide, fun i x o2 hx w4 => ?_⟩
    obtain ⟨wd, hwd, rfl⟩ : ∃ wd ∈ menuB, V.str wd = x := by
      have hm : x ∈ menuB.map V.str := List.mem_of_getElem? hx
      exact List.mem_map.mp hm
    have b4 := b3.trans (Sb.upd_ (p := p) (o := o2))
    have e4 : upd (upd H2 q2 (.lst menuBV)) p o2 q1 = some (.lst (ps.map V.str)) := by rw [upd_ne (w3.neS e3)]; exact e3
    generalize upd (upd H2 q2 (.lst menuBV)) p o2 = H4 at w4 b4 e4 ⊢
    refine ⟨_, _, rfl, ?_⟩
    obtain ⟨wl, wlo⟩ := menuB_ok wd hwd
    refine ⟨⟨_, rfl⟩, ⟨⟨_, rfl⟩, ⟨_, rfl⟩⟩, q1, ps, rfl, e4, fun xs q5 H5 hx5 s5 n5 e5 => ?_⟩
    have lx : (xs.map V.str).length ≤ 501 := len_sub hx5 (by omega)
    refine ⟨_, rfl, (by show 1 ≤ sizeLine; decide), fun q6 n6 => ?_⟩
    have s6 := s5.trans (same_new (o := .lst [.str wd]) n6)
    have e56 := same_new (o := .lst [.str wd]) n6 _ _ e5
    have e6 : upd H5 q6 (.lst [.str wd]) q6 = some (.lst ([wd].map V.str)) := upd_same
    generalize upd H5 q6 (.lst [.str wd]) = H6 at s6 e6 e56 ⊢
    refine ⟨q5, q6, _, _, rfl, rfl, e56, e6, by rw [sizeLine_eq]; show _ + 1 ≤ _; omega, fun q7 n7 => ?_⟩
    have s7 := s6.trans (same_new (o := .lst (xs.map V.str ++ [wd].map V.str)) n7)
    have e7 : upd H6 q7 (.lst (xs.map V.str ++ [wd].map V.str)) q7 = some (.lst ((xs ++ [wd]).map V.str)) := by rw [upd_same, ← List.map_append]
    generalize upd H6 q7 (.lst (xs.map V.str ++ [wd].map V.str)) = H7 at s7 e7 ⊢
    refine ⟨⟨⟨_, rfl⟩, ⟨_, rfl⟩⟩, q1, ps, rfl, s7 _ _ e4, fun ys q8 H8 hy8 s8 n8 e8 => ?_⟩
    have ly : (ys.map V.str).length ≤ 501 := len_sub hy8 (by omega)
    refine ⟨q7, q8, _, _, rfl, rfl, s8 _ _ e7, e8, by rw [sizeLine_eq, List.map_append, List.length_append]; show _ + 1 + _ ≤ _; omega, fun q9 n9 => ?_⟩
    have s9 := (s7.trans s8).trans (same_new (o := .lst ((xs ++ [wd]).map V.str ++ ys.map V.str)) n9)
    have e9 : upd H8 q9 (.lst ((xs ++ [wd]).map V.str ++ ys.map V.str)) q9 = some (.lst ((xs ++ [wd] ++ ys).map V.str)) := by rw [upd_same, ← List.map_append]
    generalize upd H8 q9 (.lst ((xs ++ [wd]).map V.str ++ ys.map V.str)) = H9 at s9 e9 ⊢
    have wz : WL (xs ++ [wd] ++ ys) ≤ 1010 := by
      rw [WL_app, WL_app, WL_cons, WL_nil]
      have := WL_sub hx5
      have := WL_sub hy8
      omega
    have lz : ∀ y ∈ xs ++ [wd] ++ ys, Low y := fun y hy => by
      rcases List.mem_append.mp hy with h | h
      · rcases List.mem_append.mp h with h | h
        · exact hpl y (hx5.subset h)
        · rw [List.mem_singleton.mp h]
          exact wlo
      · exact hpl y (hy8.subset h)
    generalize xs ++ [wd] ++ ys = zs at wz lz e9
    refine ⟨_, q9, zs, rfl, rfl, .inl (SqL.of e9), ?_, ?_⟩
    · have := WL_sum zs
      show _ + zs.length * 1 ≤ _
      omega
    have b9 := b4.trans (Sb.of s9)
    have el := b9 l _ nl hB.e
    have w9 := w4.same s9
    have ez : Txt.join (sg 32) zs = Str.join (sg 32) zs := TL.join_eq _ _
    refine ⟨_, rfl, _, rfl, l, _, _, n, rfl, rfl, el, ix_nat (by rw [List.length_map]; exact h1), ?_⟩
    rw [ez]
    have jz := join_WL 32 zs
    have jl : Low (Str.join (sg 32) zs) := join_low (by decide) lz
    generalize Str.join (sg 32) zs = z at jz jl
    refine k l _ _ _ (ls.set n z) _ (set_line w9 el nl hB.lo h2 jl (by omega)) (Or.inr (by omega)) (fun b o hb1 hb2 e => by rw [upd_ne hb2]; exact b9 b o hb1 e) (Or.inl rfl)
  · have nw : ¬ (way = 3 ∨ way = 4) := by
      have := c
      simp only [inV, eqV, List.any_cons, List.any_nil, Bool.or_false, Bool.or_eq_true, beq_iff_eq, Bool.false_eq_true, if_false] at this
      omega
    refine k l o5 o6 o7 ls _ (hB.next s0 (s0 _ _ hB.e) hB.lo hB.wl) ?_ (fun b o _ _ e => s0 b o e) (Or.inl rfl)
    rcases hf with h1 | h1
    · exact Or.inl h1
    · exact Or.inr (by omega)
end
end My
namespace My
open PySem PySem.Spec PyProof.Rows L2 PySem.GX L2H LamX
theorem menuC_ok : ∀ c ∈ ((" abz1" : Str)).cps.toList, c < 256 := by decide +kernel
def spPickS : Sp := fun vs H Q _ => ∃ (p : Addr) (x : Str), vs = [.ref p, .str x] ∧ Wl H p ∧ 0 < x.length ∧ x.length ≤ 1000 ∧ ∀ (c : Nat) (o : HO), c ∈ x.cps.toList → Wl (upd H p o) p → Q (.str (sg c)) (upd H p o)
section
variable {P : Program} {w : World} {K : PySem.W.Frag} {mg : Str → Option Value} {base : Heap}
theorem ok_pickS {f : Addr} {fd : FuncData} (F : Fun K "_law_pick" "_law_pick" sPick f fd) (hD : Hv P w K mg base 1 "_law_dip" ["_law_well_here", "_law_size"] spDip) (hL : mg "len" = none) : FnOk P w K mg base CX0 2 f fd ["_law_well_here", "_law_menu"] spPickS := by
  refine F.ok scPick (fun vs H Q E h => ?_) (fun cdv A outer s H vs Q E hr h => ?_)
  · obtain ⟨p, x, rfl, _⟩ := h
    rfl
  · obtain ⟨p, x, rfl, hW, z0, z1, k⟩ := h
    refine ⟨_, pss_one (ps_ret (pe_ix ix_str (pv 1) (pe_cl hD hr rfl pass0 (pa_cons (pv 0) (pa_cons (pe_callB call_len_str (by rfl) hL PySem.boot_len (pa_cons (pv 1) pa_nil)) pa_nil))) (fun _ _ => rfl))), ?_⟩
    have zs : x.length ≤ sizeLine := by rw [sizeLine_eq]; omega
    refine ⟨_, rfl, _, rfl, _, rfl, x, rfl, zs, p, _, rfl, hW, (by omega), (by omega), fun d o d0 d1 hW' => ?_⟩
    obtain ⟨j, rfl⟩ := Int.eq_ofNat_of_zero_le d0
    have hj : j < x.cps.toList.length := by
      rw [Array.length_toList]
      show j < x.length
      omega
    have ei : x.cps.toList[j]? = some x.cps.toList[j] := List.getElem?_eq_getElem hj
    exact ⟨x, _, x.cps.toList[j], rfl, rfl, zs, atI_nat ei, k _ o (List.getElem_mem hj) hW'⟩
theorem way5 {f : Addr} {cdv : Value} {A : Around} {outer : List Env} {s : Shared} {H : Hp} {E : XK} (hr : Room 2 (A.deeper (envOfC ("_law_bent" : Str) (defScope sBent) s.heap.objs.size f cdv)))
    (hD : Hv P w K mg base 1 "_law_dip" ["_law_well_here", "_law_size"] spDip) (hS : Hv P w K mg base 2 "_law_pick" ["_law_well_here", "_law_menu"] spPickS) (hL : mg "len" = none) :
    PS (cxOf CX0 P w K mg base nBent "_law_bent" (defScope sBent) f cdv A outer s H E).nox (bs 6) (tBs 5 6) := by
  refine PS_imp (ps_if (pt_cmpR op_eq (pv 4) pe_int (nomark _))
      (pss_cons (ps_set (i := 6) scBent.nd rfl (Or.inl rfl) (pe_cl hD (hr.mono (by decide)) rfl pass0 (pa_cons (pv 0) (pa_cons (pe_op op_add (pe_callB call_len_str (by rfl) hL PySem.boot_len (pa_cons (pe_ix (ix_listK (K := K) rfl) (pv 2) (pv 3) (fun _ _ => rfl)) pa_nil)) pe_int) pa_nil))))
      (pss_one (ps_asg (pe_op op_add_str (pe_op op_add_str (pe_slice sl_str (pe_ix (ix_listK (K := K) rfl) (pv 2) (pv 3) (fun _ _ => rfl)) po_none (po_some (pv 6))) (pe_cl hS hr rfl pass0 (pa_cons (pv 0) (pa_cons pe_str pa_nil))))
          (pe_slice sl_str (pe_ix (ix_listK (K := K) rfl) (pv 2) (pv 3) (fun _ _ => rfl)) (po_some (pe_op op_add (pv 6) (pe_cl hD (hr.mono (by decide)) rfl pass0 (pa_cons (pv 0) (pa_cons pe_int pa_nil))))) po_none)) (pg_sub (pv 2) (pv 3) set_list)))) pss_nil)
    (way_of (by decide) fun D p l t n o5 o6 o7 ls H hB h1 h2 k => ?_)
  have nl : l ≠ p := hB.w.neS hB.e
  have low0 := hB.lo _ (List.getElem_mem h1)
  have len0 := WL_mem (List.getElem_mem h1)
  have zl : ls[n].length ≤ sizeLine := by rw [sizeLine_eq]; omega
  refine ⟨_, rfl, _, rfl, _, rfl, l, _, _, _, rfl, rfl, SqL.of hB.e, at_line h1, _, rfl, zl, _, _, rfl, rfl, p, _, rfl, hB.w, by omega, by omega, fun d o d0 d1 w1 => ?_⟩
  have b1 : Sb p H (upd H p o) := Sb.upd_
  have e1 := b1 _ _ nl hB.e
  generalize upd H p o = H1 at w1 b1 e1 ⊢
  refine ⟨_, rfl, _, rfl, l, _, _, _, rfl, rfl, SqL.of e1, at_line h1, ?_⟩
  refine ⟨_, rfl, _, rfl, _, rfl, zl, ?_⟩
  have c1 := cut_len ls[n] none (some d)
  have k1 : Low (cutS ls[n] none (some d)) := fun c hc => low0 c (cut_sub _ _ _ c hc)
  generalize cutS ls[n] none (some d) = u1 at c1 k1 ⊢
  refine ⟨_, rfl, p, _, rfl, w1, by decide +kernel, by decide +kernel, fun c o2 hc w2 => ?_⟩
  have b2 := b1.trans (Sb.upd_ (p := p) (o := o2))
  have e2 := b2 _ _ nl hB.e
  generalize upd H1 p o2 = H2 at w2 b2 e2 ⊢
  have l1 : (sg c).length = 1 := rfl
  refine ⟨_, _, rfl, rfl, by rw [sizeLine_eq]; show u1.length + 1 ≤ _; omega, ?_⟩
  refine ⟨_, rfl, _, rfl, l, _, _, _, rfl, rfl, SqL.of e2, at_line h1, ?_⟩
  refine ⟨_, rfl, _, rfl, p, _, rfl, w2, by decide, by decide, fun d' o3 _ _ w3 => ?_⟩
  have b3 := b2.trans (Sb.upd_ (p := p) (o := o3))
  have e3 := b3 _ _ nl hB.e
  generalize upd H2 p o3 = H3 at w3 b3 e3 ⊢
  refine ⟨_, _, rfl, rfl, _, rfl, _, rfl, zl, ?_⟩
  have c2 := cut_len ls[n] (some (d + d')) none
  have k2 : Low (cutS ls[n] (some (d + d')) none) := fun c hc => low0 c (cut_sub _ _ _ c hc)
  generalize cutS ls[n] (some (d + d')) none = u2 at c2 k2 ⊢
  have l12 : (u1 ++ sg c).length = u1.length + 1 := by rw [len_app, l1]
  refine ⟨_, _, rfl, rfl, by rw [l12, sizeLine_eq]; omega, ?_⟩
  have lz : Low (u1 ++ sg c ++ u2) := (k1.app (sg_low (menuC_ok c hc))).app k2
  have hz : (u1 ++ sg c ++ u2).length ≤ 1500 := by rw [len_app, l12]; omega
  generalize u1 ++ sg c ++ u2 = z at lz hz ⊢
  refine ⟨_, rfl, _, rfl, l, _, _, n, rfl, rfl, e3, ix_nat (by rw [List.length_map]; exact h1), ?_⟩
  exact k l _ _ _ (ls.set n z) _ (set_line w3 e3 nl hB.lo h2 lz hz) (fun b o hb1 hb2 e => by rw [upd_ne hb2]; exact b3 b o hb1 e) (Or.inl rfl)
end
end My
namespace My
open PySem PySem.Spec PyProof.Rows L2 PySem.GX L2H LamX
theorem tx_menu {d : PyData} (h : d ∈ menu) : TxOk d := fun t e => by
  subst e
  obtain ⟨a, b⟩ := menu_str t h
  exact tx_str a (by omega) t rfl
theorem e_nl : Str.ofString "\n" = sg 10 := by decide +kernel
theorem tx_list (ds : List PyData) : TxOk (.list ds) := fun t e => by cases e
theorem sh_strs {K : PySem.W.Frag} {H : Hp} : ∀ ls : List Str, ShAll K H (ls.map V.str) (ls.map PyData.str)
  | [] => .nil
  | a :: t => .cons (.fl (.str a)) (sh_strs t)
/-- what _law_bent gives -/
structure Gv (K : PySem.W.Frag) (H : Hp) (p : Addr) (v : V) (d : PyData) : Prop where
  sho : Sho d
  tx : TxOk d
  sh : Sh K (del H p) v d
  w : Wl H p
theorem gv_str {K : PySem.W.Frag} {H : Hp} {p : Addr} {r : Str} (w : Wl H p) (h : Low r) (hl : r.length ≤ 3000) : Gv K H p (.str r) (.str r) := ⟨sho_str h (by omega), tx_str h hl, .fl (.str r), w⟩
def Asc (t : Str) : Prop := t.length ≤ 500 ∧ ∀ c ∈ t.cps.toList, c < 128
theorem Asc.low {t : Str} (h : Asc t) : Low t := fun c hc => Nat.lt_trans (h.2 c hc) (by decide)
def tB6 (K : PySem.W.Frag) : TS := fun D σ H => ∃ (p l : Addr) (t : Str) (n way : Nat) (o5 o6 o7 : Option V) (ls : List Str), σ = Bst p t l n way o5 o6 o7 ∧ Bh H p l ls ∧ Asc t ∧ (way ≠ 6 → D.nx σ H) ∧
  ∀ (v : V) (d : PyData) (H' : Hp), Gv K H' p v d → (∀ b o, b ≠ p → b ≠ l → H b = some o → H' b = some o) → D.rt v H'
section
variable {P : Program} {w : World} {K : PySem.W.Frag} {mg : Str → Option Value} {base : Heap}
theorem way6 {f : Addr} {cdv : Value} {A : Around} {outer : List Env} {s : Shared} {H : Hp} {E : XK} (hr : Room 2 (A.deeper (envOfC ("_law_bent" : Str) (defScope sBent) s.heap.objs.size f cdv)))
    (hO : Hv P w K mg base 2 "_law_odd" ["_law_well_here"] (spOdd K)) (hP : Hv P w K mg base 2 "_law_pick" ["_law_well_here", "_law_menu"] spPickL) :
    PS (cxOf CX0 P w K mg base nBent "_law_bent" (defScope sBent) f cdv A outer s H E).nox (bs 7) (tB6 K) := by
  refine PS_imp (ps_if (pt_cmpR op_eq (pv 4) pe_int (nomark _))
      (pss_one (ps_ret (pe_cl hP hr rfl pass0 (pa_cons (pv 0) (pa_cons (pe_lst (pa_cons (pe_cl hO hr rfl pass0 (pa_cons (pv 0) pa_nil)) (pa_cons (pv 2) (pa_cons (pe_op op_add_str (pv 1) pe_str)
        (pa_lit op_add_str (pv 1) (pat_cons (CwR.pet_replC (pv 1) (by decide +kernel)) (pat_cons (CwR.PET.of (pe_upper (pv 1))) pat_nil))))))) pa_nil))))) pss_nil) ?_
  rintro D σ H ⟨p, l, t, n, way, o5, o6, o7, ls, rfl, hB, ha, kn, kr⟩
  refine ⟨_, rfl, rfl, _, rfl, ite2 (fun c => ?_) fun c => ?_⟩
  · have nl' : l ≠ p := hB.w.neS hB.e
    have lo := ha.low
    have ht := ha.1
    refine ⟨_, rfl, _, rfl, p, rfl, hB.w, fun v0 d0 H1 hd0 sh0 w1 sd => ?_⟩
    have b1 : Sb p H H1 := sb_of_del sd
    have l1 : (Str.ofString "\n").length = 1 := by decide +kernel
    have l2 : (Str.ofString " ").length = 1 := by decide +kernel
    have n1 : Low (Str.ofString "\n") := by unfold Low; decide +kernel
    refine ⟨_, rfl, _, rfl, _, _, rfl, rfl, by rw [l1, sizeLine_eq]; omega, ?_⟩
    refine ⟨_, rfl, _, _, rfl, rfl, by rw [l1, sizeLine_eq]; omega, ?_⟩
    refine ⟨_, rfl, t, rfl, by rw [l2]; omega, ?_⟩
    refine ⟨_, rfl, ⟨_, rfl⟩, t, rfl, rfl, by omega, ?_⟩
    refine ⟨(by show 6 ≤ sizeLine; decide), fun q nq => ?_⟩
    have w2 := w1.same (same_new (o := .lst [v0, .ref l, .str (t ++ Str.ofString "\n"), .str (Str.ofString "\n" ++ t), .str (Txt.replace t (Str.ofString "\n") (Str.ofString " ")), .str (Txt.upper t)]) nq)
    have b2 := b1.trans (Sb.of (same_new (o := .lst [v0, .ref l, .str (t ++ Str.ofString "\n"), .str (Str.ofString "\n" ++ t), .str (Txt.replace t (Str.ofString "\n") (Str.ofString " ")), .str (Txt.upper t)]) nq))
    have bb : Sb p H1 (upd H1 q (.lst [v0, .ref l, .str (t ++ Str.ofString "\n"), .str (Str.ofString "\n" ++ t), .str (Txt.replace t (Str.ofString "\n") (Str.ofString " ")), .str (Txt.upper t)])) := Sb.of (same_new nq)
    refine ⟨p, q, _, rfl, w2, w1.new nq, upd_same, (by show 0 < 6; decide), (by show 6 ≤ 1000; decide), fun i x o hx w3 => ?_⟩
    have b3 := b2.trans (Sb.upd_ (p := p) (o := o))
    have b13 := bb.trans (Sb.upd_ (p := p) (o := o))
    generalize upd (upd H1 q (.lst [v0, .ref l, .str (t ++ Str.ofString "\n"), .str (Str.ofString "\n" ++ t), .str (Txt.replace t (Str.ofString "\n") (Str.ofString " ")), .str (Txt.upper t)])) p o = H3 at w3 b3 b13 ⊢
    have fr : ∀ b o, b ≠ p → b ≠ l → H b = some o → H3 b = some o := fun b o h1 _ e => b3 b o h1 e
    match i, hx with
    | 0, hx =>
      obtain rfl := Option.some.inj hx
      exact kr _ d0 H3 ⟨sho_menu d0 hd0, tx_menu hd0, Sh.ext (Kp.cut (Kp.sb b13)) sh0, w3⟩ fr
    | 1, hx =>
      obtain rfl := Option.some.inj hx
      refine kr _ (.list (ls.map PyData.str)) H3 ⟨sho_lines hB.lo (by have := hB.wl; omega), tx_list _, .lst (SqL.of ?_) (sh_strs ls), w3⟩ fr
      rw [← b3 l _ nl' hB.e]
      exact del_ne nl'
    | 2, hx =>
      obtain rfl := Option.some.inj hx
      exact kr _ _ H3 (gv_str w3 (lo.app n1) (by rw [len_app, l1]; omega)) fr
    | 3, hx =>
      obtain rfl := Option.some.inj hx
      exact kr _ _ H3 (gv_str w3 (n1.app lo) (by rw [len_app, l1]; omega)) fr
    | 4, hx =>
      obtain rfl := Option.some.inj hx
      have hl := TK.replace_len t (Str.ofString "\n") (Str.ofString " ")
      rw [l2] at hl
      refine kr _ _ H3 (gv_str w3 ?_ (by omega)) fr
      rw [e_nl, e_sp, StrLaws.replace_one]
      exact join_low (by decide) fun x hx => split_low lo hx
    | 5, hx =>
      obtain rfl := Option.some.inj hx
      obtain ⟨u1, u2⟩ := up_low ha.2
      exact kr _ _ H3 (gv_str w3 u1 (by omega)) fr
    | i + 6, hx => simp at hx
  · refine kn fun h => c ?_
    subst h
    rfl
end
end My
namespace My
open PySem PySem.Spec PyProof.Rows L2 PySem.GX L2H LamX
def spBent (K : PySem.W.Frag) : Sp := fun vs H Q _ => ∃ (p : Addr) (t : Str), vs = [.ref p, .str t] ∧ Wl H p ∧ Asc t ∧ ∀ (v : V) (d : PyData) (H' : Hp), Gv K H' p v d → Sb p H H' → Q v H'
/-- what stays behind a way -/
theorem frame {H0 H H' : Hp} {p l l' : Addr} (b : Sb p H0 H) (n : H0 l = none) (fr : ∀ b o, b ≠ p → b ≠ l → H b = some o → H' b = some o) : Sb p H0 H' := fun c o h e => by
  by_cases x : c = l
  · subst x; rw [n] at e; cases e
  · exact fr c o h x (b c o h e)
theorem frame_new {H0 H H' : Hp} {p l l' : Addr} {xs : List Str} (b : Sb p H0 H) (n : H0 l = none) (w : Wl H' p) (e : H' l' = some (.lst (xs.map V.str))) (nw : l' = l ∨ H l' = none) : H0 l' = none := by
  rcases nw with rfl | h
  · exact n
  · exact b.free (w.neS e) h
section
variable {P : Program} {w : World} {K : PySem.W.Frag} {mg : Str → Option Value} {base : Heap}
theorem ok_bent {f : Addr} {fd : FuncData} (F : Fun K "_law_bent" "_law_bent" sBent f fd) (hD : Hv P w K mg base 1 "_law_dip" ["_law_well_here", "_law_size"] spDip) (hP : Hv P w K mg base 2 "_law_pick" ["_law_well_here", "_law_menu"] spPickL)
    (hS : Hv P w K mg base 2 "_law_pick" ["_law_well_here", "_law_menu"] spPickS) (hO : Hv P w K mg base 2 "_law_odd" ["_law_well_here"] (spOdd K)) (hL : mg "len" = none) : FnOk P w K mg base CX0 3 f fd ["_law_well_here", "_law_sheet"] (spBent K) := by
  refine F.ok scBent (fun vs H Q E h => ?_) (fun cdv A outer s H vs Q E hr h => ?_)
  · obtain ⟨p, t, rfl, _⟩ := h
    rfl
  · obtain ⟨p, t, rfl, hW, ha, k⟩ := h
    refine ⟨_, pss_cons (ps_set (i := 2) scBent.nd rfl (Or.inl rfl) (pe_split (pv 1) pe_str))
      (pss_cons (ps_par (i := 3) (j := 4) rfl scBent.nd rfl rfl (by decide) rfl rfl (pa_cons (pe_cl hD (hr.mono (by decide)) rfl pass0 (pa_cons (pv 0) (pa_cons (pe_callB call_len_seq (by rfl) hL PySem.boot_len (pa_cons (pv 2) pa_nil)) pa_nil)))
          (pa_cons (pe_cl hD (hr.mono (by decide)) rfl pass0 (pa_cons (pv 0) (pa_cons pe_int pa_nil))) pa_nil)) (by rfl))
      (pss_cons way0 (pss_cons way1 (pss_cons way2 (pss_cons (way3 hr hD hP hL) (pss_cons (way5 hr hD hS hL) (pss_cons (way6 hr hO hP)
      (pss_one (ps_ret (pe_join pe_str (pv 2))))))))))), ?_⟩
    have ht := ha.1
    have lo := ha.low
    refine ⟨_, rfl, ⟨_, rfl⟩, _, _, rfl, rfl, by decide +kernel, by rw [sizeLine_eq]; omega, fun l nl => ?_⟩
    rw [e_nl]
    have hps := split_WL t 10
    have hpl : ∀ y ∈ Txt.split t (sg 10), Low y := fun y hy => split_low lo hy
    have hpn : 0 < (Txt.split t (sg 10)).length := List.length_pos_iff.mpr (split_ne _ _)
    generalize Txt.split t (sg 10) = ls at hps hpl hpn ⊢
    have hpf := WL_len ls
    have b1 : Sb p H (upd H l (.lst (ls.map V.str))) := Sb.of (same_new nl)
    have w1 := hW.same (same_new (o := .lst (ls.map V.str)) nl)
    have e1 : upd H l (.lst (ls.map V.str)) l = some (.lst (ls.map V.str)) := upd_same
    generalize upd H l (.lst (ls.map V.str)) = H1 at w1 b1 e1 ⊢
    have np : l ≠ p := w1.neS e1
    refine ⟨_, rfl, _, rfl, l, _, rfl, .inl (SqL.of e1), p, _, rfl, w1, by rw [List.length_map]; omega, by rw [List.length_map]; omega, fun d o d0 d1 w2 => ?_⟩
    have b2 := b1.trans (Sb.upd_ (p := p) (o := o))
    have e2 : upd H1 p o l = some (.lst (ls.map V.str)) := by rw [upd_ne np]; exact e1
    generalize upd H1 p o = H2 at w2 b2 e2 ⊢
    refine ⟨_, rfl, p, _, rfl, w2, by decide, by decide, fun d' o' d0' d1' w3 => ?_⟩
    have b3 := b2.trans (Sb.upd_ (p := p) (o := o'))
    have e3 : upd H2 p o' l = some (.lst (ls.map V.str)) := by rw [upd_ne np]; exact e2
    generalize upd H2 p o' = H3 at w3 b3 e3 ⊢
    obtain ⟨n, rfl⟩ := Int.eq_ofNat_of_zero_le d0
    obtain ⟨way, rfl⟩ := Int.eq_ofNat_of_zero_le d0'
    rw [List.length_map] at d1
    refine ⟨_, _, rfl, ?_⟩
    have hB : Bh H3 p l ls := ⟨w3, e3, hpl, by omega⟩
    refine ⟨p, l, t, n, way, _, _, _, ls, rfl, hB, Or.inl ⟨by omega, by omega⟩, fun l0 x5 x6 x7 ls0 H4 hB0 f0 fr0 nw0 => ?_⟩
    have c0 := frame (l' := l0) b3 nl fr0
    have m0 := frame_new b3 nl hB0.w hB0.e nw0
    refine ⟨p, l0, t, n, way, _, _, _, ls0, rfl, hB0, f0, fun l1 y5 y6 y7 ls1 H5 hB1 f1 fr1 nw1 => ?_⟩
    have c1 := frame (l' := l1) c0 m0 fr1
    have m1 := frame_new c0 m0 hB1.w hB1.e nw1
    refine ⟨p, l1, t, n, way, _, _, _, ls1, rfl, hB1, f1, fun l2 z5 z6 z7 ls2 H6 hB2 f2 fr2 nw2 => ?_⟩
    have c2 := frame (l' := l2) c1 m1 fr2
    have m2 := frame_new c1 m1 hB2.w hB2.e nw2
    refine ⟨p, l2, t, n, way, _, _, _, ls2, rfl, hB2, f2, fun l3 u5 u6 u7 ls3 H7 hB3 f3 fr3 nw3 => ?_⟩
    have c3 := frame (l' := l3) c2 m2 fr3
    have m3 := frame_new c2 m2 hB3.w hB3.e nw3
    refine ⟨p, l3, t, n, way, _, _, _, ls3, rfl, hB3, f3, fun l4 v5 v6 v7 ls4 H8 hB4 f4 fr4 nw4 => ?_⟩
    have c4 := frame (l' := l4) c3 m3 fr4
    have m4 := frame_new c3 m3 hB4.w hB4.e nw4
    refine ⟨p, l4, t, n, way, _, _, _, ls4, rfl, hB4, ha, fun _ => ?_, fun v dd H9 gv fr => k v dd H9 gv (frame (l' := l4) c4 m4 fr)⟩
    have ez : Txt.join (sg 10) ls4 = Str.join (sg 10) ls4 := TL.join_eq _ _
    have jz := join_WL 10 ls4
    have jl : Low (Str.join (sg 10) ls4) := join_low (by decide) hB4.lo
    have h4 := hB4.wl
    refine ⟨⟨_, rfl⟩, _, rfl, _, l4, ls4, rfl, rfl, .inl (SqL.of hB4.e), ?_, ?_⟩
    · have := WL_sum ls4
      show _ + ls4.length * 1 ≤ _
      omega
    rw [ez]
    generalize Str.join (sg 10) ls4 = z at jz jl
    exact k _ _ _ (gv_str hB4.w jl (by omega)) c4
end
end My
namespace My
open PySem PySem.Spec PyProof.Rows L2 PySem.GX L2H LamX
/-- xs.count(True), xs a list of bools -/
def isTrueV : Value → Bool
  | .bool b => b == true
  | _ => false
def rCntB (K : PySem.W.Frag) : V → List V → Hp → VK → Prop := fun x xs H Q => ∃ (p : Addr) (bs : List Bool), x = .ref p ∧ xs = [.bl true] ∧ SqL K H p (bs.map V.bl) ∧ Q (.int (bs.count true : Nat)) H
theorem vals_bools : ∀ {bs : List Bool} {its : List Value}, Vals (bs.map V.bl) its → its = bs.map Value.bool
  | [], _, .nil => rfl
  | _ :: _, _, .cons r t => by
    rw [vals_bools t, show _ = Value.bool _ from r]
    rfl
theorem mt_bcount {X : Cx} : MtR X "list.count" (rCntB X.K) := by
  intro pl s σ H x xs v us Q I rx rxs ⟨p, bs, ex, exs, hs, q⟩
  subst ex exs
  cases rx
  obtain ⟨u, rfl, ru⟩ := rxs.one
  obtain rfl : u = Value.bool true := ru
  obtain ⟨its, rv, ⟨⟨cls, dd, data, sl⟩, n, ho, hc, hdn, hd⟩, hlen⟩ := I.list hs
  simp only at hc hd
  subst hc hd
  have hi := vals_bools rv
  subst hi
  refine call_meets PySem.F.slot_list_count ⟨_, ho, rfl⟩ PySem.F.entry_list_count (PySem.F.args_list_count_2 _ _) (SeqAt.list_countAt p (bs.map Value.bool).toArray n dd sl (.bool true) isTrueV) ⟨ho, fun y hy => ?_, ?_⟩
  · obtain ⟨b, _, rfl⟩ := List.mem_map.mp (by simpa using hy : y ∈ bs.map Value.bool)
    exact SeqAt.EqAt.bool_bool b true
  · have ec : ((bs.map Value.bool).toArray.toList.countP isTrueV) = bs.count true := by
      rw [List.countP_map]
      unfold List.count
      apply List.countP_congr
      intro b _
      rfl
    refine ⟨.int (bs.count true : Nat), H, I.tok _, ⟨s.toks, ?_⟩, q⟩
    show Value.int ((((bs.map Value.bool).toArray.toList.countP isTrueV : Nat)) : Int) s.toks = _
    rw [ec]
def spField (p : Addr × Obj) (d : Addr) : Sp := fun vs H Q _ => ∃ (fs : List (Str × V)) (v : V), vs = [.ref p.1] ∧ H d = some (exd d fs) ∧ fs.lookup ("given" : Str) = some v ∧ Q v H
/-- the class at C is the i-th, its objects keep 'given', it is of the bases as b says -/
structure ErrC (K : PySem.W.Frag) (c : Nat → Addr) (bR bK bP C : Addr) (i : Nat) : Prop where
  T : ExcC K C
  hi : i < 8
  kits : ∀ j, j < 11 → PySem.W.kitOne K (.ref C) (.ref (c j)) = some (decide (j = i))
  no : PySem.W.findIn K (.ref C) "given" = some none
  k1 : PySem.W.kitOne K (.ref C) (.ref bR) = some true
  k2 : PySem.W.kitOne K (.ref C) (.ref bK) = some false
  k3 : PySem.W.kitOne K (.ref C) (.ref bP) = some false
  v1 : PySem.W.kitOne K (.ref C) (.type "ValueError") = some true
  v2 : PySem.W.kitOne K (.ref C) (.type "LookupError") = some false
  v3 : PySem.W.kitOne K (.ref C) (.type "ArithmeticError") = some false
  ex : PySem.W.exmAny K (.ref C) [.ref bR, .ref bK, .ref bP] = some true
section
variable {P : Program} {w : World} {K : PySem.W.Frag} {mg : Str → Option Value} {base : Heap} {p : Addr × Obj} {C d : Addr} {c : Nat → Addr} {i : Nat} {bR bK bP : Addr}
theorem scField : FnScope ["_law_e"] ["_law_e"] (defScope sField) := ⟨rfl, rfl, rfl, by decide +kernel, rfl, by decide +kernel, by decide +kernel⟩
theorem ok_field {f : Addr} {fd : FuncData} (F : Fun K "_law_field" "_law_field" sField f fd) (hp : PIs p C d) (EC : ErrC K c bR bK bP C i) (gc : ∀ j, j < 11 → mg (cn.getD j Str.empty) = some (.ref (c j))) (hIs : mg "isinstance" = none) : FnE p P w K mg base 1 f fd ["_law_e"] (spField p d) := by
  refine F.okE scField (fun vs H Q E h => ?_) (fun cdv A outer s H vs Q E hot hr h => ?_)
  · obtain ⟨fs, v, rfl, _⟩ := h
    rfl
  · obtain ⟨fs, v, rfl, hd, hv, k⟩ := h
    have hb : Hb (cxH CX0 P w K mg base ["_law_e"] "_law_field" (defScope sField) f cdv A outer s H E p) p := Hb.of_pn hot.1 hot.2 (List.mem_singleton.mpr rfl)
    refine ⟨_, pss_cons (ps_if (pt_val (pe_callB (call_isP hb hp EC.T) (by rfl) hIs (by decide +kernel) (pa_cons (pv 0) (pa_cons (pe_glob (v := .ref (c 9)) rfl (gc 9 (by decide)) rfl) pa_nil)))) (pss_one ps_never) pss_nil)
      (pss_one (ps_ret (pe_ifExp (PW.pt (pw_or (pt_val (pe_callB (call_isP hb hp EC.T) (by rfl) hIs (by decide +kernel) (pa_cons (pv 0) (pa_cons (pe_glob (v := .ref (c 8)) rfl (gc 8 (by decide)) rfl) pa_nil))))
        (pw_or1 (pt_val (pe_callB (call_isP hb hp EC.T) (by rfl) hIs (by decide +kernel) (pa_cons (pv 0) (pa_cons (pe_glob (v := .ref (c 10)) rfl (gc 10 (by decide)) rfl) pa_nil))))))) pe_non (pe_xfP hb hp EC.T (pv 0))))), ?_⟩
    have hi := EC.hi
    have z : ∀ j, j < 11 → 8 ≤ j → PySem.W.kitOne K (.ref C) (.ref (c j)) = some false := fun j h1 h2 => by
      rw [EC.kits j h1, decide_eq_false (by omega)]
    refine ⟨_, rfl, .ref (c 9), .ref (c 9), false, fs, rfl, hd, .own _, z 9 (by decide) (by decide), _, rfl, iteF ?_⟩
    refine ⟨_, rfl, .ref (c 8), .ref (c 8), false, fs, rfl, hd, .own _, z 8 (by decide) (by decide), _, rfl, iteF ?_⟩
    refine ⟨_, rfl, .ref (c 10), .ref (c 10), false, fs, rfl, hd, .own _, z 10 (by decide) (by decide), _, rfl, iteF ?_⟩
    exact ⟨_, rfl, fs, v, rfl, hd, EC.no, hv, k⟩
end
end My
namespace My
open PySem PySem.Spec PyProof.Rows L2 PySem.GX L2H LamX
/-- what the law's catcher makes of a call -/
def TTerr (K : PySem.W.Frag) (c : Nat → Addr) (bR bK bP : Addr) : (XK → Hp → VK → Prop) → Hp → VK → Prop := fun tl H Q =>
  tl (fun cls dd H' => ∃ (C d : Addr) (i : Nat) (fs : List (Str × V)) (v : V), cls = .ref C ∧ dd = some d ∧ ErrC K c bR bK bP C i ∧ H' d = some (exd d fs) ∧ fs.lookup ("given" : Str) = some v ∧ ∀ l H'', Same H' H'' → H'' l = some (.lst [.str (wd.getD i Str.empty), v]) → Q (.ref l) H'') H
    (fun v H' => ∀ l, H' l = none → Q (.ref l) (upd H' l (.lst [.str "told", v])))
abbrev nError : List Str := ["_law_act", "_law_told", "_law_e", "_law_bases", "_law_plain"]
theorem scError : FnScope nError ["_law_act"] (defScope sError) := ⟨rfl, rfl, rfl, by decide +kernel, rfl, by decide +kernel, by decide +kernel⟩
/-- what the suite is asked -/
def tsErr (K : PySem.W.Frag) (c : Nat → Addr) (bR bK bP : Addr) (a : Addr) (cls : Value) (dd : Option Addr) : TS := fun D σ H => ∃ (σ0 : L2.St) (C d : Addr) (i : Nat) (fs : List (Str × V)) (v : V), σ = σ0.set 2 (some (.ref a)) ∧ cls = .ref C ∧ dd = some d ∧ ErrC K c bR bK bP C i ∧ H d = some (exd d fs) ∧ fs.lookup ("given" : Str) = some v ∧
  ∀ l H'', Same H H'' → H'' l = some (.lst [.str (wd.getD i Str.empty), v]) → D.rt (.ref l) H''
theorem eqv_bools : PyData.eqv (.list [.bool true, .bool false, .bool false]) (.list [.bool true, .bool false, .bool false]) = true := by decide
theorem PE_up {X : Cx} {e : Expr} {t : TE} (h : PE X e t) : PE X e (fun σ H Q => ∃ Qc : VK, t σ H Qc ∧ ∀ v H', Qc v H' → Q v H') :=
  ⟨fun pl s σ H Q I ⟨Qc, q, m⟩ => wpAny_mono (h.run pl s σ H Qc I q) (fun _ _ ⟨v, H1, I1, r, z⟩ => ⟨v, H1, I1, r, m v H1 z⟩) fun _ _ z => z⟩
theorem pss_by {X : Cx} {b : List Stmt} {ts : TS} (h : ∀ (D : Ends) (σ : L2.St) (H : Hp), σ.length = X.N.length → ts D σ H → ∃ t, PSs X b t ∧ t D σ H) : PSs X b ts :=
  ⟨fun pl s σ H D I want => let ⟨_, ht, q⟩ := h D σ H I.len want; ht.run pl s σ H D I q⟩
theorem gives_err {X : Cx} {k : Nat} {g fC fF : Addr} {cdg : Value} {fdC fdF : FuncData} {c : Nat → Addr} {bR bK bP : Addr} {q : Str} (FC : Fun X.K "_law_class" "_law_class" sClass fC fdC) (bC : Binds X.K fdC ["_law_e"] []) (gC : X.mg "_law_class" = some (.ref fC))
    (FF : Fun X.K "_law_field" "_law_field" sField fF fdF) (bF : Binds X.K fdF ["_law_e"] []) (gF : X.mg "_law_field" = some (.ref fF)) (gc : ∀ j, j < 11 → X.mg (cn.getD j Str.empty) = some (.ref (c j))) (g1 : X.mg "NotRight" = some (.ref bR)) (g2 : X.mg "NotKnown" = some (.ref bK)) (g3 : X.mg "NotPossible" = some (.ref bP))
    (hIs : X.mg "isinstance" = none) (hL : X.mg "len" = none) (hVE : X.mg "ValueError" = none) (hLE : X.mg "LookupError" = none) (hAE : X.mg "ArithmeticError" = none) :
    GivesN X (k + 1) nError "_law_error" (defScope sError) g cdg (defBody sError) "_law_act" q (TTerr X.K c bR bK bP) := by
  intro f c' s H Q tl hr act hc want
  refine ⟨_, pss_cons (ps_try3 (X := (cxOf CX0 X.prog X.w X.K X.mg X.base nError "_law_error" (defScope sError) g cdg X.A X.stack s H E0).nox) (i := 2) (c1 := .ref bR) (c2 := .ref bK) (c3 := .ref bP) (ts := tsErr X.K c bR bK bP)
      (tb := fun W D σ H => ∃ Ech : XK, (∀ cls d σ' H', Ech cls d H' → W cls d σ' H') ∧ σ[0]? = some (some (.ref f)) ∧ H c' = some (CodeO c' q) ∧ ∃ Qc : VK, tl Ech H Qc ∧ ∀ v H', Qc v H' → D.nx (σ.set 1 (some v)) H')
      rfl rfl scError.nd rfl rfl ⟨rfl, by decide, .inl g1⟩ ⟨rfl, by decide, .inl g2⟩ ⟨rfl, by decide, .inl g3⟩ (fun W pn xe tk _ => ?_) (fun a oe cls d pn hz hf => ?_)) (pss_one (ps_ret (pe_lst (pa_cons pe_str (pa_cons (pv 1) pa_nil))))), ?_⟩
  · refine ⟨fun pl s' σ H' D I ⟨Ech, hW, h1, h2, Qc, h3, h4⟩ => ?_⟩
    exact (pss_one (ps_set (i := 1) scError.nd rfl (Or.inl rfl) (PE_up (act W pn xe Ech _ _ tk hW)))).run pl s' σ H' D I ⟨Qc, ⟨h1, h2, h3⟩, h4⟩
  · refine pss_by fun D σ6 H6 len ⟨σ0, C, dd, i, fs, v, eσ, e1, e2, EC, hd, hv, kk⟩ => ?_
    subst eσ e1 e2
    have hp : PIs (a, oe) C dd := ⟨hz.1, hz.2.1⟩
    obtain ⟨vs, dv⟩ := hf
    have hot : Hot1 ((cxOf CX0 X.prog X.w X.K X.mg X.base nError "_law_error" (defScope sError) g cdg X.A X.stack s H E0).nox.suite a ((a, oe) :: pn)).A (a, oe) := ⟨rfl, vs, dv, hz.2.2 vs dv⟩
    have hb : Hb ((cxOf CX0 X.prog X.w X.K X.mg X.base nError "_law_error" (defScope sError) g cdg X.A X.stack s H E0).nox.suite a ((a, oe) :: pn)) (a, oe) := Hb.of_pn hot.1 hot.2 (List.mem_cons_self ..)
    have hrH : RoomH 1 ((cxOf CX0 X.prog X.w X.K X.mg X.base nError "_law_error" (defScope sError) g cdg X.A X.stack s H E0).nox.suite a ((a, oe) :: pn)).A := by
      have z : RoomH 1 (X.A.deeper (envOfC "_law_error" (defScope sError) s.heap.objs.size g cdg)) := (roomH_of hr).mono (by omega)
      exact ⟨z.dp, z.un⟩
    have eC := ok_class (P := X.prog) (w := X.w) (base := X.base) FC hp EC.T (Nat.lt_trans EC.hi (by decide)) gc EC.kits hIs hL
    have eF := ok_field (P := X.prog) (w := X.w) (base := X.base) FF hp EC gc hIs
    have hu : ((cxOf CX0 X.prog X.w X.K X.mg X.base nError "_law_error" (defScope sError) g cdg X.A X.stack s H E0).nox.suite a ((a, oe) :: pn)).A.units + 64 < cLine := hr.units
    rw [List.length_set] at len
    obtain ⟨s0, s1, s2, s3, s4, rfl⟩ : ∃ s0 s1 s2 s3 s4, σ0 = [s0, s1, s2, s3, s4] := by
      match σ0, len with
      | [s0, s1, s2, s3, s4], _ => exact ⟨s0, s1, s2, s3, s4, rfl⟩
    refine ⟨_, pss_cons (ps_set (i := 3) scError.nd rfl (Or.inl rfl) (pe_lst (pa_cons (pe_callB (call_isP hb hp EC.T) (by rfl) hIs (by decide +kernel) (pa_cons (pv 2) (pa_cons (pe_glob (v := .ref bR) rfl g1 rfl) pa_nil)))
          (pa_cons (pe_callB (call_isP hb hp EC.T) (by rfl) hIs (by decide +kernel) (pa_cons (pv 2) (pa_cons (pe_glob (v := .ref bK) rfl g2 rfl) pa_nil))) (pa_cons (pe_callB (call_isP hb hp EC.T) (by rfl) hIs (by decide +kernel) (pa_cons (pv 2) (pa_cons (pe_glob (v := .ref bP) rfl g3 rfl) pa_nil))) pa_nil)))))
      (pss_cons (ps_set (i := 4) scError.nd rfl (Or.inl rfl) (pe_lst (pa_cons (pe_callB (call_isP hb hp EC.T) (by rfl) hIs (by decide +kernel) (pa_cons (pv 2) (pa_cons (pe_bltn (v := .ty "ValueError") (by rfl) hVE (by decide +kernel) rfl) pa_nil)))
          (pa_cons (pe_callB (call_isP hb hp EC.T) (by rfl) hIs (by decide +kernel) (pa_cons (pv 2) (pa_cons (pe_bltn (v := .ty "LookupError") (by rfl) hLE (by decide +kernel) rfl) pa_nil))) (pa_cons (pe_callB (call_isP hb hp EC.T) (by rfl) hIs (by decide +kernel) (pa_cons (pv 2) (pa_cons (pe_bltn (v := .ty "ArithmeticError") (by rfl) hAE (by decide +kernel) rfl) pa_nil))) pa_nil)))))
      (pss_one (ps_ret (pe_lst (pa_cons (pe_ifExp (PW.pt (pw_and (pt_cmpR (op_eqD hu) (pv 3) (pv 4) (nomark _)) (pw_and1 (pt_cmpR op_eq (pe_bm PySem.F.plainAttrs_list PySem.F.slot_list_count PySem.F.type_list_count mt_bcount (pv 3) (pa_cons pe_bl pa_nil)) pe_int (nomark _)))))
          (pe_callE eC hrH hot (List.mem_cons_self ..) rfl gC FC.kp bC (pa_cons (pv 2) pa_nil)) pe_str) (pa_cons (pe_callE eF hrH hot (List.mem_cons_self ..) rfl gF FF.kp bF (pa_cons (pv 2) pa_nil)) pa_nil)))))), ?_⟩
    refine ⟨_, rfl, .ref bR, .ref bR, true, fs, rfl, hd, .own _, EC.k1, ?_⟩
    refine ⟨_, rfl, .ref bK, .ref bK, false, fs, rfl, hd, .own _, EC.k2, ?_⟩
    refine ⟨_, rfl, .ref bP, .ref bP, false, fs, rfl, hd, .own _, EC.k3, (by show 3 ≤ sizeLine; decide), fun q1 h1 => ?_⟩
    refine ⟨_, rfl, .ty "ValueError", .type "ValueError", true, fs, rfl, keep1 hd h1, .ty _, EC.v1, ?_⟩
    refine ⟨_, rfl, .ty "LookupError", .type "LookupError", false, fs, rfl, keep1 hd h1, .ty _, EC.v2, ?_⟩
    refine ⟨_, rfl, .ty "ArithmeticError", .type "ArithmeticError", false, fs, rfl, keep1 hd h1, .ty _, EC.v3, (by show 3 ≤ sizeLine; decide), fun q2 h2 => ?_⟩
    refine ⟨_, rfl, _, rfl, _, _, .lst (SqL.of (keep1 upd_same h2)) (.cons (.bl true) (.cons (.bl false) (.cons (.bl false) .nil))), .lst (SqL.of upd_same) (.cons (.bl true) (.cons (.bl false) (.cons (.bl false) .nil))), (by decide +kernel), (by decide +kernel), _, rfl, ?_⟩
    rw [eqv_bools]
    refine iteT ⟨_, rfl, .inl ⟨rfl, _, SqL.of (keep1 upd_same h2)⟩, q1, [true, false, false], rfl, rfl, SqL.of (keep1 upd_same h2), rfl, _, rfl, ite2 (fun _ => ?_) (fun z => absurd (decide_eq_true rfl) z)⟩
    refine ⟨_, rfl, fs, rfl, keep1 (keep1 hd h1) h2, fun H7 s7 => ?_⟩
    refine ⟨_, rfl, fs, v, rfl, s7 _ _ (keep1 (keep1 hd h1) h2), hv, (by show 2 ≤ sizeLine; decide), fun l hl => ?_⟩
    exact kk l _ ((((same_new h1).trans (same_new h2)).trans s7).trans (same_new hl)) upd_same
  · refine ⟨_, fun cls dd σ' H' hE => ?_, rfl, hc, _, want, fun v H' z => ?_⟩
    · obtain ⟨C, d, i, fs, v, rfl, rfl, EC, hd, hv, kk⟩ := hE
      exact ⟨EC.ex, fun a _ => ⟨σ', C, d, i, fs, v, rfl, rfl, rfl, EC, hd, hv, kk⟩⟩
    · exact ⟨_, rfl, (by show 2 ≤ sizeLine; decide), fun l hl => z l hl⟩
end My
namespace My
open PySem PySem.Spec PyProof.Rows L2 PySem.GX L2H LamX
abbrev qR : Str := ("_law_right" : Str) ++ ".<locals>." ++ "<lambda>"
structure Rt (P : Program) (w : World) (K : PySem.W.Frag) (mg : Str → Option Value) (base : Heap) (C C0 : Addr) (c : Nat → Addr) (bR bK bP : Addr) : Prop where
  mkr : ∃ (f : Addr) (fd : FuncData), Mk K C f ∧ FnOk P w K mg base (L2N.CX P w) 5 f fd ["self", "text"] (spInitB K C C0) ∧ Binds K fd ["self", "text"] [] ∧ KBn K fd ["self", "text"] 1 ["text"] (fun us ws => us ++ ws) (fun vs zs => vs ++ zs) ∧ mg "Rule" = some (.ref C)
  pr : ∃ (p g : Addr) (fd : FuncData), PropOf K C "text" p g ∧ FnOk P w K mg base CX0 1 g fd ["self"] (getSp C "written") ∧ Binds K fd ["self"] []
  cl : Cls K C
  bt : Hv P w K mg base 3 "_law_bent" ["_law_well_here", "_law_sheet"] (spBent K)
  tx : Hv P w K mg base 1 "_law_text" ["_law_sketch_here"] spText
  sk : Hv P w K mg base 4 "_law_sketch" ["_law_well_here", "_law_most_signs", "_law_most_moods"] spSketch
  ft : Hv P w K mg base 2 "_law_fits" ["_law_sheet"] (spFits K)
  eI : ErrC K c bR bK bP C0 0
  hC : ∃ (f : Addr) (fd : FuncData), Fun K "_law_class" "_law_class" sClass f fd ∧ Binds K fd ["_law_e"] [] ∧ mg "_law_class" = some (.ref f)
  hF : ∃ (f : Addr) (fd : FuncData), Fun K "_law_field" "_law_field" sField f fd ∧ Binds K fd ["_law_e"] [] ∧ mg "_law_field" = some (.ref f)
  gc : ∀ j, j < 11 → mg (cn.getD j Str.empty) = some (.ref (c j))
  g1 : mg "NotRight" = some (.ref bR)
  g2 : mg "NotKnown" = some (.ref bK)
  g3 : mg "NotPossible" = some (.ref bP)
  hIs : mg "isinstance" = none
  hL : mg "len" = none
  hVE : mg "ValueError" = none
  hLE : mg "LookupError" = none
  hAE : mg "ArithmeticError" = none
  hRe : mg "repr" = none
  hRa : mg "range" = none
  er : ∃ (g : Addr) (oc : Value) (od : Option Addr) (kV doc pm : Value) (an : Option Addr) (cdv ct : Value) (osl : Array (Option Value)), mg "_law_error" = some (.ref g) ∧ PySem.W.keepIn K (.ref g) = true ∧
    K.lookup g = some ⟨oc, od, .func (PySem.W.fnOf "_law_error" "_law_error" (defArgs sError) (defBody sError) (defScope sError) .none kV doc pm an cdv ct), osl⟩ ∧ PySem.W.codeIn K cdv "_law_error" = true ∧
    L2.Binds K (PySem.W.fnOf "_law_error" "_law_error" (defArgs sError) (defBody sError) (defScope sError) .none kV doc pm an cdv ct) ["_law_act"] []
abbrev nRight : List Str := ["_law_well_here", "_law_turn", "_law_sheet", "_law_told"]
theorem scRight : FnScope nRight ["_law_well_here"] (defScope sRight) := ⟨rfl, rfl, rfl, by decide +kernel, rfl, by decide +kernel, by decide +kernel⟩
def spRight (T : List (Addr × Str)) : Sp := fun vs H Q _ => ∃ p : Addr, vs = [.ref p] ∧ Wl H p ∧ Tabs T H ∧ ∀ H' : Hp, Kp p H H' → Tabs T H' → Q (.bl true) H'
theorem ifF_of {c : Bool} {A B : Prop} (hc : c = false) (h : B) : if c = true then A else B := by
  rw [hc, if_neg Bool.false_ne_true]
  exact h
theorem ifT_of {c : Bool} {A B : Prop} (hc : c = true) (h : A) : if c = true then A else B := by
  rw [hc, if_pos rfl]
  exact h
theorem text_text (t : Str) : listText [reprText "text", t] = ("['text', " : Str) ++ t ++ "]" := by
  have e : textFrom 0 "[" [reprText "text", t] = ("['text', " : Str) ++ t := by
    show (("[" : Str) ++ ("" : Str) ++ reprText "text") ++ (", " : Str) ++ t = _
    have : (("[" : Str) ++ ("" : Str) ++ reprText "text") ++ (", " : Str) = "['text', " := by decide +kernel
    rw [this]
  unfold listText
  rw [e]
theorem pair_sho {d : PyData} (h : Sho d) : PyData.showableAll [.str "text", d] = true ∧ (PyData.list [.str "text", d]).shown.length ≤ sizeLine ∧ (PyData.list [.str "text", d]).depth ≤ 60 := by
  have e : (PyData.list [.str "text", d]).shown = ("['text', " : Str) ++ d.shown ++ "]" := by
    rw [← text_text]
    simp only [PyData.shown, PyData.shownAll]
  refine ⟨?_, ?_, ?_⟩
  · simp only [PyData.showableAll, PyData.showable, h.ab, Bool.and_self]
  · rw [e, len_app, len_app]
    have a : ("['text', " : Str).length = 9 := by decide +kernel
    have b : ("]" : Str).length = 1 := by decide +kernel
    have := h.ln
    rw [a, b, sizeLine_eq]
    omega
  · have := h.dp
    simp only [PyData.depth, PyData.depthAll]
    omega
section
variable {P : Program} {w : World} {K : PySem.W.Frag} {mg : Str → Option Value} {base : Heap} {C C0 : Addr} {c : Nat → Addr} {bR bK bP : Addr}
theorem ok_right {f cR PR : Addr} {T : List (Addr × Str)} {kV doc pm ct oc : Value} {an od : Option Addr} {osl : Array (Option Value)} (lk : K.lookup f = some ⟨oc, od, .func (PySem.W.fnOf "_law_right" "_law_right" (defArgs sRight) (defBody sRight) (defScope sRight) .none kV doc pm an (.ref cR) ct), osl⟩)
    (hcd : PySem.W.codeIn K (.ref cR) "_law_right" = true) (TB : TabB base mg cR PR) (hTm : (PR, qR) ∈ T) (hTu : ∀ q ∈ T, q.1 = PR → q.2 = qR) (R : Rt P w K mg base C C0 c bR bK bP) :
    FnG P w K mg base CX0 9 f (PySem.W.fnOf "_law_right" "_law_right" (defArgs sRight) (defBody sRight) (defScope sRight) .none kV doc pm an (.ref cR) ct) ["_law_well_here"] (spRight T) := by
  obtain ⟨fI, fdI, MI, GI, bI, kI, gI⟩ := R.mkr
  obtain ⟨pp, gp, fdp, PP, GP, bP'⟩ := R.pr
  obtain ⟨fC, fdC, FC, bC, gC⟩ := R.hC
  obtain ⟨fF, fdF, FF, bF, gF⟩ := R.hF
  obtain ⟨gE, ocE, odE, kVE, docE, pmE, anE, cdE, ctE, oslE, mE, kE, lE, cE, bE⟩ := R.er
  refine fnG_of lk hcd scRight (fun vs H Q E h => ?_) (fun A outer s H vs Q E hgd hr h => ?_)
  · obtain ⟨p, rfl, _⟩ := h
    rfl
  · obtain ⟨p, rfl, hW, hT, k⟩ := h
    suffices hh : ∃ t, PSs (cxOf CX0 P w K mg base nRight "_law_right" (defScope sRight) f (.ref cR) A outer s H E).nox (defBody sRight) t ∧ t { nx := fun _ H' => Q .non H', rt := Q } (L2.start nRight [.ref p]) H from by
      obtain ⟨t, h1, h2⟩ := hh
      exact ⟨t, h1.nox, h2⟩
    have hr1 : Room 1 (A.deeper (envOfC "_law_right" (defScope sRight) s.heap.objs.size f (.ref cR))) := hr.mono (by decide)
    have hr2 : Room 2 (A.deeper (envOfC "_law_right" (defScope sRight) s.heap.objs.size f (.ref cR))) := hr.mono (by decide)
    have hr3 : Room 3 (A.deeper (envOfC "_law_right" (defScope sRight) s.heap.objs.size f (.ref cR))) := hr.mono (by decide)
    have hr4 : Room 4 (A.deeper (envOfC "_law_right" (defScope sRight) s.heap.objs.size f (.ref cR))) := hr.mono (by decide)
    have hu := hr.units
    refine ⟨_, pss_cons (ps_for PassesOwn.never rfl (pi_range1 rfl R.hRa (pa_cons pe_int pa_nil)) (pg_name (i := 1) scRight.nd rfl (Or.inl rfl))
        (pss_cons (ps_set (i := 2) scRight.nd rfl (Or.inr rfl) (pe_cl R.bt hr3 rfl pass0 (pa_cons (pv 0) (pa_cons (pe_cl R.tx hr1 rfl pass0 (pa_cons (pe_cl R.sk hr4 rfl pass0 (pa_cons (pv 0) (pa_cons pe_int (pa_cons pe_int pa_nil)))) pa_nil)) pa_nil))))
        (pss_cons (ps_set (i := 3) scRight.nd rfl (Or.inl rfl) (pe_lamN (T := T) (TT := TTerr K c bR bK bP) (k := 6) rfl mE kE lE cE bE scError rfl (Or.inl rfl)
            (gives_err FC bC gC FF bF gF R.gc R.g1 R.g2 R.g3 R.hIs R.hL R.hVE R.hLE R.hAE) TB rfl hTm hTu hr (lamS_by (show lamSB (defScope sRight) _ = true by decide +kernel)) rfl (fun _ _ _ _ _ => rfl)
            (fun A outer s H E f c' hr' => pe_make MI GI hr' rfl gI bI .nil (L2N.passes_call (L2N.takes_of rfl rfl rfl rfl) (fun _ _ _ _ z => z)) (pa_cons (pv 2) pa_nil))))
        (pss_one (ps_if (pt_not (pt_val (pe_cl R.ft hr2 rfl pass0 (pa_cons (pv 2) pa_nil))))
          (pss_one (ps_if (pt_cmpR op_ne (pe_callB (call_reprLK (K := K) rfl hgd hu) (by rfl) R.hRe (by decide +kernel) (pa_cons (pv 3) pa_nil)) (pe_callB (call_reprLK (K := K) rfl hgd hu) (by rfl) R.hRe (by decide +kernel) (pa_cons (pe_lst (pa_cons pe_str (pa_cons (pv 2) pa_nil))) pa_nil)) (nomark _)) (pss_one (ps_ret pe_bl)) pss_nil))
          (pss_one (ps_if (PW.pt (pw_or (pt_cmpR op_ne (pe_ix (ix_listK (K := K) rfl) (pv 3) pe_int (fun _ _ => rfl)) pe_str (nomark _)) (pw_or1 (pt_cmpR op_ne (pe_prop (pe_ix (ix_listK (K := K) rfl) (pv 3) pe_int (fun _ _ => rfl)) R.cl PP GP hr2 bP' .nil pass0 (by rfl)) (pv 2) (nomark _)))))
            (pss_one (ps_ret pe_bl)) pss_nil)))))))
      (pss_one (ps_ret pe_bl)), ?_⟩
    refine ⟨5, rfl, by decide, by decide, for_range (n := 5) (fun i σ H' => (∃ v1 v2 v3, σ = [some (.ref p), v1, v2, v3]) ∧ Kp p H H' ∧ Wl H' p ∧ Tabs T H') ⟨⟨_, _, _, rfl⟩, Kp.refl _ _, hW, hT⟩ (fun i σ H1 hi h => ?_) (fun σ H1 h => ?_)⟩
    · obtain ⟨⟨v1, v2, v3, rfl⟩, kp1, hW1, hT1⟩ := h
      clear hT hW k
      refine ⟨_, rfl, _, rfl, p, 4, rfl, hW1, by decide, by decide, fun q x ws fs kvs H2 ok sb2 w2 skA => ?_⟩
      have fine := ok.fine (by decide)
      refine ⟨q, x, ws, fs, kvs, rfl, skA, fine.short (by have := ok.l2; omega), fun H3 s3 => ?_⟩
      refine ⟨p, _, rfl, w2.same s3, ⟨text_500 ok, text_low7 fine⟩, fun v d H4 gv sb4 => ?_⟩
      have sb := (sb2.trans (Sb.of s3)).trans sb4
      have hT4 := Tabs.sb_ hT1 hW1 sb
      have kp4 := kp1.trans (Kp.sb sb)
      have sh4 : Sh K H4 v d := Sh.ext ext_of_del gv.sh
      have w4 := gv.w
      clear sb sb4 s3 sb2 skA
      refine ⟨hT4, fun H5 x5 t5 => ?_⟩
      have sh5 := Sh.ext x5 sh4
      have w5 := w4.ext_ x5
      have kp5 := kp4.trans (Kp.ext x5)
      obtain ⟨f1, f2, f3⟩ := pair_sho gv.sho
      refine ⟨_, rfl, fun y dy ny ndy ne => ?_⟩
      have sm : Same H5 (upd (upd H5 dy (.own y)) y (.ins C dy [])) := (same_new ndy).trans (same_new (by rw [upd_ne ne.symm]; exact ny))
      refine ⟨y, dy, v, d, rfl, upd_same, Sh.ext (ExtN.of sm) sh5, fun t e => ⟨Nat.le_trans (gv.tx t e).1 (by decide), (gv.tx t e).2.1⟩, fun t pp hd hp H6 keep rA => ⟨rfl, fun la hla => ?_⟩, fun hn da H6 s6 e6 => ⟨C0, da, 0, _, v, rfl, rfl, R.eI, e6, rfl, fun la H7 s7 ela => ?_⟩⟩
      · have s6 : Same H5 H6 := fun b o e => keep b o (ne_of_none e ny) (sm b o e)
        have s7 := s6.trans (same_new (o := .lst [.str "told", .ref y]) hla)
        have rB := rA.same (same_new (o := .lst [.str "told", .ref y]) hla)
        have el : upd H6 la (.lst [.str "told", .ref y]) la = some (.lst [.str "told", .ref y]) := upd_same
        refine ⟨_, rfl, v, d, rfl, Sh.ext (ExtN.of s7) sh5, gv.tx, fun H8 s8 => ?_⟩
        subst hd
        obtain rfl : v = .str t := by
          cases sh5 with
          | fl f => cases f; rfl
        have ft : fitsD (.str t) = true := by rw [fits_parts, hp]; rfl
        have s9 := s7.trans s8
        have el8 := s8 _ _ el
        obtain ⟨dx, M, G, D, r1, _, _, _⟩ := rB.same s8
        refine ⟨_, rfl, ifF_of (by rw [ft]; rfl) ?_⟩
        refine ⟨_, rfl, la, _, _, _, rfl, rfl, SqL.of el8, atI_nat (j := 0) rfl, rfl, _, rfl, ifF_of (by simp) ?_⟩
        refine ⟨_, rfl, la, _, _, _, rfl, rfl, SqL.of el8, atI_nat (j := 1) rfl, y, dx, _, rfl, r1, y, dx, _, .str t, rfl, r1, rfl, _, rfl, rfl, _, rfl, ifF_of (by simp) ?_⟩
        exact ⟨⟨_, _, _, rfl⟩, kp5.trans (Kp.of s9), w5.same s9, Tabs.ext t5 s9⟩
      · have sA := (sm.trans s6).trans s7
        have ft : fitsD d = false := by rw [fits_parts, hn]; rfl
        refine ⟨_, rfl, v, d, rfl, Sh.ext (ExtN.of sA) sh5, gv.tx, fun H8 s8 => ?_⟩
        have s9 := sA.trans s8
        have sh8 := Sh.ext (ExtN.of s9) sh5
        have el8 := s8 _ _ ela
        refine ⟨_, rfl, ifT_of (by rw [ft]; rfl) ?_⟩
        refine ⟨_, rfl, la, [.str "text", d], rfl, .lst (SqL.of el8) (.cons (.fl (.str _)) (.cons sh8 .nil)), f1, f2, f3, ?_⟩
        refine ⟨_, rfl, (by show 2 ≤ sizeLine; decide), fun lb hlb => ?_⟩
        have sB := s9.trans (same_new (o := .lst [.str "text", v]) hlb)
        refine ⟨lb, [.str "text", d], rfl, .lst (SqL.of upd_same) (.cons (.fl (.str _)) (.cons (Sh.ext (ExtN.of sB) sh5) .nil)), f1, f2, f3, rfl, _, rfl, ifF_of (by simp) ?_⟩
        exact ⟨⟨_, _, _, rfl⟩, kp5.trans (Kp.of sB), w5.same sB, Tabs.ext t5 sB⟩
    · obtain ⟨⟨v1, v2, v3, rfl⟩, kp1, hW1, hT1⟩ := h
      exact k _ kp1 hT1
end
end My
namespace My
open PySem PySem.Spec PyProof.Rows L2 PySem.GX L2H LamX
/-- the texts with many moods -/
def wordsL (n : Nat) : List Str := (List.range n).map wordT
def sizeLs (n : Nat) : List Str := ("signs a" : Str) :: Txt.join sp (("moods" : Str) :: wordsL n) :: ("good" : Str) :: (wordsL n).map fun t => t ++ (" a maa" : Str)
def sizeT (n : Nat) : Str := Txt.join nl (sizeLs n)
theorem wordT_cps (n : Nat) : (wordT n).cps.toList = [109, 97 + n / 26, 97 + n % 26] := by
  unfold wordT
  rw [cps_app, cps_app]
  rfl
theorem wordT_inj {m n : Nat} (h : wordT m = wordT n) : m = n := by
  have e : (wordT m).cps.toList = (wordT n).cps.toList := by rw [h]
  rw [wordT_cps, wordT_cps] at e
  simp only [List.cons.injEq, and_true, true_and] at e
  omega
theorem words_nd (n : Nat) : (wordsL n).Nodup := by
  unfold wordsL
  exact List.pairwise_map.mpr (List.nodup_range.imp fun h e => h (wordT_inj e))
theorem words_len (n : Nat) : (wordsL n).length = n := by
  unfold wordsL
  rw [List.length_map, List.length_range]
theorem word_len (n : Nat) : (wordT n).length = 3 := by
  show (wordT n).cps.size = 3
  rw [← Array.length_toList, wordT_cps]
  rfl
theorem abc_mem : ∀ c, c < 26 → 97 + c ∈ abc.cps.toList := by decide +kernel
theorem word_is {n : Nat} (h : n < 676) : isWordL (wordT n) = true := by
  unfold isWordL
  rw [word_len]
  have : madeL (wordT n) abc = true := by
    unfold madeL
    rw [List.all_map, List.all_eq_true]
    intro c hc
    rw [wordT_cps] at hc
    have m : c ∈ abc.cps.toList := by
      simp only [List.mem_cons, List.not_mem_nil, or_false] at hc
      rcases hc with rfl | rfl | rfl
      · exact abc_mem 12 (by decide)
      · exact abc_mem _ (by omega)
      · exact abc_mem _ (by omega)
    simpa using m
  rw [this]
  rfl
theorem words_is {n : Nat} (h : n < 676) : ∀ y ∈ wordsL n, isWordL y = true := fun y hy => by
  obtain ⟨k, hk, rfl⟩ := List.mem_map.mp hy
  exact word_is (by have := List.mem_range.mp hk; omega)
/-- the rows of a text of rows of words -/
theorem rows_of {pss : List (List Str)} (hn : pss ≠ []) (all : ∀ ps ∈ pss, ps ≠ [] ∧ ∀ p ∈ ps, Ltr p) : rowsL (Txt.join nl (pss.map (Txt.join sp))) = pss := by
  unfold rowsL
  rw [TL.split_join (s := 10) (S := []) rfl (by decide +kernel) (by simpa using hn) (fun p hp m => by
    obtain ⟨ps, hps, rfl⟩ := List.mem_map.mp hp
    exact line_no (all ps hps).2 m), List.map_map]
  have : pss.map ((fun y => Txt.split y sp) ∘ Txt.join sp) = pss.map id := by
    apply List.map_congr_left
    intro ps hps
    exact split_line (all ps hps).1 (all ps hps).2
  rw [this, List.map_id]
def sizeR (n : Nat) : List (List Str) := [("signs" : Str), ("a" : Str)] :: (("moods" : Str) :: wordsL n) :: [("good" : Str)] :: (wordsL n).map fun t => [t, ("a" : Str), ("maa" : Str)]
theorem size_lines (n : Nat) : sizeLs n = (sizeR n).map (Txt.join sp) := by
  have e1 : Txt.join sp [("signs" : Str), ("a" : Str)] = ("signs a" : Str) := by decide +kernel
  have e2 : Txt.join sp [("good" : Str)] = ("good" : Str) := by decide +kernel
  unfold sizeLs sizeR
  rw [List.map_cons, List.map_cons, List.map_cons, e1, e2, List.map_map]
  refine congrArg (List.cons _) (congrArg (List.cons _) (congrArg (List.cons _) (List.map_congr_left fun t _ => ?_)))
  show t ++ (" a maa" : Str) = Txt.join sp [t, ("a" : Str), ("maa" : Str)]
  rw [join3, str_app_assoc, str_app_assoc, str_app_assoc]
  exact congrArg (t ++ ·) (by decide +kernel)
theorem size_rows {n : Nat} (h : n < 676) : rowsL (sizeT n) = sizeR n := by
  unfold sizeT
  rw [size_lines]
  have lw : ∀ y ∈ wordsL n, Ltr y := fun y hy => ltr_word (words_is h y hy)
  have l1 : Ltr ("signs" : Str) := ltr_only (by decide +kernel)
  have l2 : Ltr ("moods" : Str) := ltr_only (by decide +kernel)
  have l3 : Ltr ("good" : Str) := ltr_only (by decide +kernel)
  have l4 : Ltr ("a" : Str) := ltr_only (by decide +kernel)
  have l5 : Ltr ("maa" : Str) := ltr_only (by decide +kernel)
  refine rows_of (by unfold sizeR; simp) fun ps hps => ?_
  unfold sizeR at hps
  simp only [List.mem_cons, List.mem_map] at hps
  rcases hps with rfl | rfl | rfl | ⟨t, ht, rfl⟩
  · exact ⟨by simp, fun p hp => by simp at hp; rcases hp with rfl | rfl; exact l1; exact l4⟩
  · exact ⟨by simp, fun p hp => by
      rcases List.mem_cons.mp hp with rfl | hp
      · exact l2
      · exact lw p hp⟩
  · exact ⟨by simp, fun p hp => by simp at hp; rw [hp]; exact l3⟩
  · exact ⟨by simp, fun p hp => by simp at hp; rcases hp with rfl | rfl | rfl; exact lw _ ht; exact l4; exact l5⟩
theorem size301 : parseL (sizeT 301) = none := by
  unfold parseL
  rw [size_rows (by decide)]
  unfold sizeR partsL
  refine if_neg ?_
  rintro ⟨_, _, h, _⟩
  have := ((moods_fun _).mp h).2.1
  rw [words_len] at this
  omega
def kvsM (ws : List Str) : List (List Key × V) := ws.map fun t => (kT t 97, .str "maa")
theorem val_M : ∀ {ws : List Str} {t : Str}, t ∈ ws → valV (kvsM ws) (kT t 97) = some (.str "maa")
  | a :: ws, t, h => by
    by_cases e : a = t
    · subst e
      show valV ((kT a 97, V.str "maa") :: kvsM ws) (kT a 97) = _
      simp [valV]
    · have m : t ∈ ws := by
        rcases List.mem_cons.mp h with h | h
        · exact absurd h.symm e
        · exact h
      have ne : kT a 97 ≠ kT t 97 := fun z => e (by simpa [kT] using z)
      have ih := val_M m
      show valV ((kT a 97, V.str "maa") :: kvsM ws) (kT t 97) = _
      simp only [valV, List.find?_cons] at ih ⊢
      simp [ne, ih]
theorem maa_in : ("maa" : Str) ∈ wordsL 300 := List.mem_map.mpr ⟨0, List.mem_range.mpr (by decide), by decide +kernel⟩
theorem moods300 : areMoodsL (wordsL 300) = true := (moods_fun _).mpr ⟨by rw [words_len]; decide, by rw [words_len]; decide, words_is (by decide), words_nd _⟩
theorem a_cps : ("a" : Str).cps.toList = [97] := by decide +kernel
theorem fine300 : Fine "a" (wordsL 300) [] (kvsM (wordsL 300)) := ⟨by decide +kernel, moods300, List.nil_sublist _, fun t ht c hc => ⟨"maa", maa_in, by
  rw [a_cps] at hc
  rw [List.mem_singleton.mp hc]
  exact val_M ht⟩⟩
theorem rs_300 : rsL "a" (wordsL 300) (kvsM (wordsL 300)) = (wordsL 300).map fun t => [t, ("a" : Str), ("maa" : Str)] := by
  unfold rsL
  rw [a_cps]
  have : ∀ ws : List Str, (∀ t ∈ ws, t ∈ wordsL 300) → (ws.flatMap fun t => [97].map fun c => [t, sg c, gf (kvsM (wordsL 300)) t c]) = ws.map fun t => [t, ("a" : Str), ("maa" : Str)] := fun ws => by
    induction ws with
    | nil => intro _; rfl
    | cons a t ih =>
      intro h
      rw [List.flatMap_cons, List.map_cons, ih fun z hz => h z (List.mem_cons_of_mem _ hz), List.map_cons, List.map_nil, gf_is (val_M (h a (List.mem_cons_self ..)))]
      rfl
  exact this _ fun _ h => h
theorem size300 : parseL (sizeT 300) = some ⟨"a", wordsL 300, [], rsL "a" (wordsL 300) (kvsM (wordsL 300))⟩ := by
  have g := fine_goals fine300
  rw [rs_300] at g
  unfold parseL
  rw [size_rows (by decide), rs_300]
  unfold sizeR partsL
  refine if_pos ⟨rfl, by decide +kernel, moods300, ?_, g⟩
  rw [good_fun]
  refine decide_eq_true ?_
  rw [eq_comm, List.filter_eq_nil_iff]
  intro a _
  simp
end My
namespace My
open PySem PySem.Spec PyProof.Rows L2 PySem.GX L2H LamX
theorem WL_map {ws : List Str} {f : Str → Str} {m : Nat} (h : ∀ t ∈ ws, (f t).length = m) : WL (ws.map f) = ws.length * (m + 1) := by
  induction ws with
  | nil => rw [List.map_nil, WL_nil, List.length_nil, Nat.zero_mul]
  | cons a t ih => rw [List.map_cons, WL_cons, ih fun z hz => h z (List.mem_cons_of_mem _ hz), h a (List.mem_cons_self ..), List.length_cons, Nat.succ_mul]; omega
theorem word_all (n : Nat) : ∀ t ∈ wordsL n, t.length = 3 := fun t ht => by
  obtain ⟨k, _, rfl⟩ := List.mem_map.mp ht
  exact word_len k
theorem WL_words (n : Nat) : WL (wordsL n) = n * 4 := by
  have := WL_map (f := id) (word_all n)
  rw [List.map_id, words_len] at this
  exact this
theorem moods_line (n : Nat) : (Txt.join sp (("moods" : Str) :: wordsL n)).length ≤ 6 + n * 4 := by
  rw [TL.join_eq]
  have a := join_WL 32 (("moods" : Str) :: wordsL n)
  rw [WL_cons, WL_words] at a
  have c : ("moods" : Str).length = 5 := by decide +kernel
  have a' : (Str.join sp (("moods" : Str) :: wordsL n)).length ≤ ("moods" : Str).length + 1 + n * 4 := a
  omega
theorem row_len {n : Nat} : ∀ t ∈ wordsL n, (t ++ (" a maa" : Str)).length = 9 := fun t ht => by
  rw [len_app, word_all n t ht]
  have c : (" a maa" : Str).length = 6 := by decide +kernel
  omega
theorem WL_size {n : Nat} : WL (sizeLs n) ≤ 20 + n * 14 := by
  unfold sizeLs
  rw [WL_cons, WL_cons, WL_cons, WL_map row_len, words_len]
  have a : ("signs a" : Str).length = 7 := by decide +kernel
  have b : ("good" : Str).length = 4 := by decide +kernel
  have c := moods_line n
  omega
theorem size_len {n : Nat} : (sizeT n).length ≤ 20 + n * 14 := by
  unfold sizeT
  rw [TL.join_eq]
  exact Nat.le_trans (join_WL 10 (sizeLs n)) WL_size
theorem ltr_low {y : Str} (h : isWordL y = true) : Low y := low_only (Bool.and_eq_true_iff.mp h).2
theorem lines_low {n : Nat} (h : n < 676) : ∀ l ∈ sizeLs n, Low l := fun l hl => by
  have lw : ∀ y ∈ wordsL n, Low y := fun y hy => ltr_low (words_is h y hy)
  unfold sizeLs at hl
  simp only [List.mem_cons, List.mem_map] at hl
  rcases hl with rfl | rfl | rfl | ⟨t, ht, rfl⟩
  · unfold Low; decide +kernel
  · rw [TL.join_eq]
    refine join_low (c := 32) (by decide) fun x hx => ?_
    rcases List.mem_cons.mp hx with rfl | hx
    · unfold Low; decide +kernel
    · exact lw x hx
  · unfold Low; decide +kernel
  · exact (lw t ht).app (by unfold Low; decide +kernel)
theorem size_low {n : Nat} (h : n < 676) : Low (sizeT n) := by
  unfold sizeT
  rw [TL.join_eq]
  exact join_low (c := 10) (by decide) (lines_low h)
theorem size_split {n : Nat} (h : n < 676) : Txt.split (sizeT n) nl = sizeLs n := by
  unfold sizeT
  have lw : ∀ y ∈ wordsL n, Ltr y := fun y hy => ltr_word (words_is h y hy)
  refine TL.split_join (s := 10) (S := []) rfl (by decide +kernel) (by unfold sizeLs; simp) fun p hp m => ?_
  unfold sizeLs at hp
  simp only [List.mem_cons, List.mem_map] at hp
  rcases hp with rfl | rfl | rfl | ⟨t, ht, rfl⟩
  · exact absurd m (by decide +kernel)
  · refine line_no (ps := ("moods" : Str) :: wordsL n) (fun p hp => ?_) m
    rcases List.mem_cons.mp hp with rfl | hp
    · exact ltr_only (by decide +kernel)
    · exact lw p hp
  · exact absurd m (by decide +kernel)
  · have m' : (10 : Nat) ∈ (t ++ (" a maa" : Str)).cps.toList := m
    rw [cps_app, List.mem_append] at m'
    rcases m' with m' | m'
    · have := lw t ht 10 m'
      omega
    · exact absurd m' (by decide +kernel)
theorem size_tx {n : Nat} (h : n ≤ 301) : TxOk (.str (sizeT n)) := fun t e => by
  cases e
  have sl := @size_len n
  refine ⟨by omega, ok_low (size_low (by omega)), fun l hl => ?_⟩
  rw [size_split (by omega)] at hl
  unfold sizeLs at hl
  simp only [List.mem_cons, List.mem_map] at hl
  have ml := moods_line n
  rcases hl with rfl | rfl | rfl | ⟨t, ht, rfl⟩
  · decide +kernel
  · omega
  · decide +kernel
  · rw [row_len t ht]; decide
theorem size_sho {n : Nat} (h : n ≤ 301) : Sho (.str (sizeT n)) := sho_str (size_low (by omega)) (by have := @size_len n; omega)
/-- the texts by hand -/
abbrev goodB : Str := "signs abz\nmoods a\ngood a\na a a\na b a\na z a"
abbrev goodC : Str := "signs b\nmoods good a\ngood good a\ngood b a\na b good"
abbrev wrongL : List Str := ["signs abcd\nmoods a\ngood\na a a\na b a\na c a\na d a", "signs ba\nmoods a\ngood\na b a\na a a", "signs \nmoods a\ngood", "signs a\nmoods \ngood\n", "signs a\nmoods a\ngood \na a a", "signs a\nmoods a a\ngood\na a a\na a a",
  "signs b\nmoods a c\ngood c a\na b a\nc b a", "signs b\nmoods a\ngood b\na b a", "signs aa\nmoods a\ngood\na a a\na a a", "signs b\nmoods a c\ngood\nc b a\na b a", "signs b\nmoods a\ngood\na b c", "signs b\nmoods abcdefghi\ngood\nabcdefghi b abcdefghi"]
theorem good_B : (parseL goodB).isSome = true := by decide +kernel
theorem good_C : (parseL goodC).isSome = true := by decide +kernel
theorem wrong_none : ∀ z ∈ wrongL, (parseL z).isSome = false := by decide +kernel
theorem hand_low : ∀ z ∈ goodB :: goodC :: wrongL, z.length ≤ 100 ∧ ∀ c ∈ z.cps.toList, c < 256 := by decide +kernel
end My
namespace My
open PySem PySem.Spec PyProof.Rows L2 PySem.GX L2H LamX
abbrev qW : Str := ("law" : Str) ++ ".<locals>." ++ "<lambda>"
abbrev NL : List Str := ["_law_script", "_law_words", "_law_sizes", "_law_good", "_law_wrong", "_law_sheet", "_law_k", "_law_size", "_law_word_here", "_law_turn"]
theorem scL : FnScope NL ["_law_script"] (defScope sLaw) := ⟨rfl, rfl, rfl, by decide +kernel, rfl, by decide +kernel, by decide +kernel⟩
def lb (i : Nat) : Stmt := (defBody sLaw).getD i (.Pass ⟨0, 0, 0, 0⟩)
section
variable {P : Program} {w : World} {K : PySem.W.Frag} {mg : Str → Option Value} {base : Heap}
abbrev Lst (a : Addr) (o1 o2 o3 o4 o5 : Option V) : L2.St := [some (.ref a), o1, o2, o3, o4, o5, none, none, none, none]
def tL1 : TS := fun D σ H => ∃ a : Addr, σ = Lst a none none none none none ∧ ∀ (l : Addr) (H' : Hp), Same H H' → H l = none → H' l = some (.lst ((wordsL 301).map V.str)) → D.nx (Lst a (some (.ref l)) none none none none) H'
theorem law1 {f : Addr} {cdv : Value} {A : Around} {outer : List Env} {s : Shared} {H : Hp} {E : XK} (hr : Room 1 (A.deeper (envOfC ("law" : Str) (defScope sLaw) s.heap.objs.size f cdv)))
    (hW : Hv P w K mg base 1 "_law_word" ["_law_measure"] spWd) (hRa : mg "range" = none) :
    PS (cxOf CX0 P w K mg base NL "law" (defScope sLaw) f cdv A outer s H E).nox (lb 0) tL1 := by
  refine PS_imp (ps_set (i := 1) scL.nd rfl (Or.inr rfl) (pe_lc (own := [("_law_k", 6)]) (g := gName 6) (tt := tYes) rfl scL.nd (pi_range1 rfl hRa (pa_cons pe_int pa_nil)) (blkOk_by (N := NL) (sc := defScope sLaw) (by decide +kernel))
    (fun _ _ _ _ _ => pg_name (i := 6) scL.nd rfl (Or.inl rfl)) (fun _ _ _ _ _ => pts_nil) (fun _ _ _ _ _ => pe_cl hW hr rfl pass0 (pa_cons (pv 6) pa_nil)))) ?_
  rintro D σ H ⟨a, rfl, k⟩
  refine ⟨301, rfl, by decide, by decide, fun D' hD' => ?_⟩
  refine lcG (List.range 301) (fun j => some (V.str (wordT j))) (by rw [List.length_range]; exact walk_range) (by rw [List.length_range]; decide) hD' (fun i H x H' h => by rw [h.1]; exact Same.refl _) (fun _ _ => trivial) (fun i j y H' H'' k1 hj sj hy k2 => ?_) (fun H6 s6 e6 => ?_)
  · obtain ⟨rfl, rfl⟩ := hy
    have hi : i < 301 := by
      have := (List.getElem?_eq_some_iff.mp hj).1
      rw [List.length_range] at this
      exact this
    have ej : j = i := by
      rw [List.getElem?_range hi] at hj
      exact (Option.some.inj hj).symm
    subst ej
    refine ⟨rfl, _, rfl, j, ?_, by omega, fun H4 s4 => k2 H4 s4⟩
    show [V.int (0 + (j : Int))] = [V.int (j : Int)]
    rw [Int.zero_add]
  · refine k D' H6 s6 hD' ?_
    rw [e6, List.filterMap_eq_map']
    unfold wordsL
    rw [List.map_map]
    rfl
end
end My
namespace My
open PySem PySem.Spec PyProof.Rows L2 PySem.GX L2H LamX
def rJoinK (K : PySem.W.Frag) : V → List V → Hp → VK → Prop := fun x xs H Q => ∃ a p, ∃ ys : List Str, x = .str a ∧ xs = [.ref p] ∧ (SqL K H p (ys.map V.str) ∨ SqT K H p (ys.map V.str)) ∧ (ys.map (·.length)).sum + ys.length * a.length ≤ 16777216 ∧ Q (.str (Txt.join a ys)) H
theorem pe_joinK {X : Cx} {K : PySem.W.Frag} {o e : Expr} {to te : TE} {apos pos : Pos} (h : X.K = K) (ho : PE X o to) (he : PE X e te) (hs : starEach [e] X.env = [(false, eval e X.env)] := by rfl) (hbase : attributeBase o "join" X.env (eval o X.env) = eval o X.env := by rfl) (hline : (apos.endLine == pos.line) = true := by rfl) :
    PE X (.Call (.Attribute o "join" apos) [e] [] pos) (tM1 (rJoinK K) to te) := by
  subst h
  exact pe_join ho he hs hbase hline
theorem pi_listK {X : Cx} {K : PySem.W.Frag} {tg l : Expr} {tl : TE} (h : X.K = K) (hl : PE X l tl) : PI X tg l (iList K tl) := by
  subst h
  exact pi_list hl
theorem cut_words {n : Nat} (h : n ≤ 301) : cutV ((wordsL 301).map V.str) none (some (n : Int)) = (wordsL n).map V.str := by
  unfold cutV
  rw [List.length_map, words_len]
  have a : HT.sIx 301 0 none = 0 := rfl
  have b : HT.sIx 301 301 (some (n : Int)) = n := by rw [HT.sIx_nat]; exact Nat.min_eq_left h
  rw [a, b, List.drop_zero, Nat.sub_zero, ← List.map_take]
  unfold wordsL
  rw [← List.map_take, List.take_range, Nat.min_eq_left h]
abbrev scIn : Scope := { kind := .function, names := [(".0", .local), ("_law_size", .local), ("_law_words", .cell)], isGenerator := false, isCoroutine := false }
section
variable {P : Program} {w : World} {K : PySem.W.Frag} {mg : Str → Option Value} {base : Heap}
/-- the two texts with many moods -/
def tL2 : TS := fun D σ H => ∃ (a l : Addr), σ = Lst a (some (.ref l)) none none none none ∧ H l = some (.lst ((wordsL 301).map V.str)) ∧
  ∀ (l2 : Addr) (H' : Hp), Same H H' → H l2 = none → H' l2 = some (.lst [.str (sizeT 300), .str (sizeT 301)]) → D.nx (Lst a (some (.ref l)) (some (.ref l2)) none none none) H'
theorem law2 {f : Addr} {cdv : Value} {A : Around} {outer : List Env} {s : Shared} {H : Hp} {E : XK} :
    PS (cxOf CX0 P w K mg base NL "law" (defScope sLaw) f cdv A outer s H E).nox (lb 1) tL2 := by
  refine PS_imp (ps_setLc (i := 2) (own := [("_law_size", 7)]) (g := gName 7) (tt := tYes) (by rfl) scL.nd rfl rfl (sw_true rfl rfl rfl (by decide +kernel)) (pi_list (pe_lst (pa_cons pe_int (pa_cons pe_int pa_nil)))) (blkOk_by (N := NL) (sc := defScope sLaw) (by decide +kernel))
    (fun _ _ _ _ _ => pg_name (i := 7) scL.nd rfl (Or.inl rfl)) (fun _ _ _ _ _ => pts_nil)
    (fun _ _ _ _ _ => pe_joinK (K := K) rfl pe_str (pe_op op_cat (pe_lst (pa_cons pe_str (pa_cons (pe_joinK (K := K) rfl pe_str (pe_op op_cat (pe_lst (pa_cons pe_str pa_nil)) (pe_slice (sl_listK (K := K) rfl) (pv 1) po_none (po_some (pv 7))))) (pa_cons pe_str pa_nil))))
      (pe_lc (own := [("_law_word_here", 8)]) (g := gName 8) (tt := tYes) rfl scL.nd (pi_listK (K := K) rfl (pe_slice (sl_listK (K := K) rfl) (pv 1) po_none (po_some (pv 7)))) (blkOk_by (N := NL) (sc := scIn) (by decide +kernel))
        (fun _ _ _ _ _ => pg_name (i := 8) scL.nd rfl (Or.inl rfl)) (fun _ _ _ _ _ => pts_nil) (fun _ _ _ _ _ => pe_op op_add_str (pv 8) pe_str))))) ?_
  rintro D σ H ⟨a, l, rfl, e1, k⟩
  refine ⟨(by show 2 ≤ sizeLine; decide), fun q0 n0 => ⟨q0, rfl, ⟨_, SqL.of upd_same⟩, fun D' hD' => ?_⟩⟩
  have s0 := same_new (o := .lst [.int 300, .int 301]) n0
  have e0 : upd H q0 (.lst [.int 300, .int 301]) q0 = some (.lst (([300, 301] : List Nat).map fun n : Nat => V.int (n : Int))) := upd_same
  have e1' := s0 _ _ e1
  generalize upd H q0 (.lst [.int 300, .int 301]) = H0 at s0 e0 e1' hD' ⊢
  refine lcG ([300, 301] : List Nat) (fun n => some (V.str (sizeT n))) (walk_listL (K := K) (a := q0) ([300, 301] : List Nat) fun n : Nat => V.int (n : Int)) (by decide) hD' (fun i H x H' h => by rw [h.1]; exact Same.refl _) (fun H' s' => SqL.of (s' _ _ e0)) (fun i n y H' H'' k1 hn sj hy k2 => ?_) (fun H6 s6 e6 => ?_)
  · obtain ⟨rfl, hy⟩ := hy
    have ey := map_get hn hy
    subst ey
    have hn' : n ≤ 301 := by
      have := List.mem_of_getElem? hn
      simp at this
      omega
    have el := sj _ _ e1'
    have kk := k2
    refine ⟨rfl, ⟨_, rfl⟩, ⟨_, rfl⟩, (by show 1 ≤ sizeLine; decide), fun q1 n1 => ?_⟩
    have s1 := same_new (o := .lst [.str (Str.ofString "moods")]) n1
    have f1 : upd H'' q1 (.lst [.str (Str.ofString "moods")]) q1 = some (.lst ([Str.ofString "moods"].map V.str)) := upd_same
    generalize upd H'' q1 (.lst [.str (Str.ofString "moods")]) = H1 at s1 f1 ⊢
    refine ⟨_, rfl, _, rfl, (n : Int), rfl, l, _, rfl, SqL.of (s1 _ _ el), fun q2 n2 => ?_⟩
    rw [cut_words hn']
    have s2 := s1.trans (same_new (o := .lst ((wordsL n).map V.str)) n2)
    have f12 := same_new (o := .lst ((wordsL n).map V.str)) n2 _ _ f1
    have f2 : upd H1 q2 (.lst ((wordsL n).map V.str)) q2 = some (.lst ((wordsL n).map V.str)) := upd_same
    generalize upd H1 q2 (.lst ((wordsL n).map V.str)) = H2 at s2 f12 f2 ⊢
    refine ⟨q1, q2, _, _, rfl, rfl, f12, f2, by rw [List.length_map, List.length_map, words_len, sizeLine_eq]; show 1 + n ≤ _; omega, fun q3 n3 => ?_⟩
    have s3 := s2.trans (same_new (o := .lst ([Str.ofString "moods"].map V.str ++ (wordsL n).map V.str)) n3)
    have f3 : upd H2 q3 (.lst ([Str.ofString "moods"].map V.str ++ (wordsL n).map V.str)) q3 = some (.lst ((Str.ofString "moods" :: wordsL n).map V.str)) := upd_same
    generalize upd H2 q3 (.lst ([Str.ofString "moods"].map V.str ++ (wordsL n).map V.str)) = H3 at s3 f3 ⊢
    refine ⟨_, q3, Str.ofString "moods" :: wordsL n, rfl, rfl, .inl (SqL.of f3), ?_, ?_⟩
    · have a := WL_sum (Str.ofString "moods" :: wordsL n)
      rw [WL_cons, WL_words] at a
      have b : (Str.ofString "moods").length = 5 := by decide +kernel
      have c : (Str.ofString " ").length = 1 := by decide +kernel
      rw [c]
      omega
    refine ⟨(by show 3 ≤ sizeLine; decide), fun q4 n4 => ?_⟩
    have s4 := s3.trans (same_new (o := .lst [.str (Str.ofString "signs a"), .str (Txt.join (Str.ofString " ") (Str.ofString "moods" :: wordsL n)), .str (Str.ofString "good")]) n4)
    have f4 : upd H3 q4 (.lst [.str (Str.ofString "signs a"), .str (Txt.join (Str.ofString " ") (Str.ofString "moods" :: wordsL n)), .str (Str.ofString "good")]) q4 = some (.lst ([Str.ofString "signs a", Txt.join (Str.ofString " ") (Str.ofString "moods" :: wordsL n), Str.ofString "good"].map V.str)) := upd_same
    generalize upd H3 q4 (.lst [.str (Str.ofString "signs a"), .str (Txt.join (Str.ofString " ") (Str.ofString "moods" :: wordsL n)), .str (Str.ofString "good")]) = H4 at s4 f4 ⊢
    refine ⟨_, rfl, _, rfl, (n : Int), rfl, l, _, rfl, SqL.of (s4 _ _ el), fun q5 n5 => ⟨q5, rfl, ⟨_, SqL.of upd_same⟩, fun D2 hD2 => ?_⟩⟩
    rw [cut_words hn'] at hD2 ⊢
    have s5 := s4.trans (same_new (o := .lst ((wordsL n).map V.str)) n5)
    have f45 := same_new (o := .lst ((wordsL n).map V.str)) n5 _ _ f4
    have f5 : upd H4 q5 (.lst ((wordsL n).map V.str)) q5 = some (.lst ((wordsL n).map V.str)) := upd_same
    generalize upd H4 q5 (.lst ((wordsL n).map V.str)) = H5 at s5 f45 f5 hD2 ⊢
    refine lcG (wordsL n) (fun t => some (V.str (t ++ Str.ofString " a maa"))) (walk_listL (K := K) (a := q5) (wordsL n) V.str) (by rw [words_len]; omega) hD2 (yat_same _) (fun H' s' => SqL.of (s' _ _ f5)) (fun i t y H' H'' k1 ht sj hy k2 => ?_) (fun H6 s6 e6 => ?_)
    · obtain ⟨rfl, hy⟩ := hy
      have ey := map_get ht hy
      subst ey
      have lt := word_all n t (List.mem_of_getElem? ht)
      have c : (Str.ofString " a maa").length = 6 := by decide +kernel
      exact ⟨rfl, _, rfl, _, _, rfl, rfl, by rw [lt, c, sizeLine_eq]; omega, k2 _ (Same.refl _)⟩
    · have e6' : H6 D2 = some (.lst (((wordsL n).map fun t => t ++ Str.ofString " a maa").map V.str)) := by
        rw [e6, List.filterMap_eq_map', List.map_map]
        rfl
      refine ⟨q4, D2, _, _, rfl, rfl, s6 _ _ f45, e6', by rw [List.length_map, List.length_map, List.length_map, words_len, sizeLine_eq]; show 3 + n ≤ _; omega, fun q6 n6 => ?_⟩
      have s7 := (s5.trans s6).trans (same_new (o := .lst ([Str.ofString "signs a", Txt.join (Str.ofString " ") (Str.ofString "moods" :: wordsL n), Str.ofString "good"].map V.str ++ ((wordsL n).map fun t => t ++ Str.ofString " a maa").map V.str)) n6)
      refine ⟨_, q6, sizeLs n, rfl, rfl, .inl (SqL.of upd_same), ?_, kk _ s7⟩
      have a := WL_sum (sizeLs n)
      have b := @WL_size n
      have c : (Str.ofString "\n").length = 1 := by decide +kernel
      rw [c]
      omega
  · exact k D' H6 (s0.trans s6) (s0.free hD') e6
end
end My
namespace My
open PySem PySem.Spec PyProof.Rows L2 PySem.GX L2H LamX
/-- C(k = e, ..), keywords alone -/
def tMakeKw (C : Addr) (m : Nat) (sp : Sp) (gV : List V → List V → List V) (E : XK) (tk : TA) : TE := fun σ H Q => tk σ H fun zs H2 => zs.length = m ∧
  ∀ x dx, H2 x = none → H2 dx = none → dx ≠ x → sp (gV [.ref x] zs) (upd (upd H2 dx (.own x)) x (.ins C dx [])) (fun v H3 => v = .non ∧ Q (.ref x) H3) E
theorem pe_makeKw {X : Cx} {CX : CXT} {k : Nat} {f C : Addr} {fd : FuncData} {ps ks : List Str} {sp : Sp} {E : XK} {x : Str} {p pos : Pos} {kws : List Keyword} {tk : TA} {g : List Value → List Value → List Value} {gV : List V → List V → List V}
    (M : Mk X.K C f) (F : FnOk X.prog X.w X.K X.mg X.base CX k f fd ps sp) (hr : Room (k + 1) X.A) (hg : Gl X x) (hm : X.mg x = some (.ref C)) (hb : KBn X.K fd ps 1 ks g gV) (hx : Passes CX X E) (hkw : PK X kws tk)
    (hdb : (x == ("__debug__" : Str)) = false := by decide) (hall : (backToKw pos (keywordEach kws X.env)).all (·.1.isSome) = true := by rfl) (hks : (backToKw pos (keywordEach kws X.env)).filterMap (·.1) = ks := by rfl)
    (hpl : ((backTo pos (starEach [] X.env)).any (·.1) || (backToKw pos (keywordEach kws X.env)).any (·.1.isNone)) = false := by rfl) :
    PE X (.Call (.Name x p) [] kws pos) (tMakeKw C ks.length sp gV E tk) := by
  refine ⟨fun pins s σ H Q I want => wpAny_Call_Name_kw (ld_glob I hg hm ?_ hdb)⟩
  refine PySem.W.callWith_KW0 (first := []) (h₀ := X.base) I.ok.mod.kin M.kp hall (thn (hkw.run pos pins s σ H _ I want) fun ws s2 ⟨zs, H2, I2, rz, lz, q2⟩ => ⟨I2.kIn, ?_⟩) hpl
  rw [hks]
  exact run_makeN (n := 0) (us := []) (vs := []) M F hr hb hx I2 .nil rz rfl lz q2
/-- what is known of a text that is let in -/
def Gdx (z : Str) : Prop := (∃ p, parseL z = some p) ∧ TxOk (.str z) ∧ Low z ∧ z.length ≤ 4300
/-- .. and of one that is not -/
def Bdx (z : Str) : Prop := parseL z = none ∧ TxOk (.str z) ∧ Low z ∧ z.length ≤ 4300
theorem hand_tx : ∀ z ∈ goodB :: goodC :: wrongL, TxOk (.str z) ∧ Low z ∧ z.length ≤ 4300 := fun z hz => by
  obtain ⟨a, b⟩ := hand_low z hz
  exact ⟨tx_str b (by omega), b, by omega⟩
theorem gd_300 : Gdx (sizeT 300) := ⟨⟨_, size300⟩, size_tx (by decide), size_low (by decide), by have := @size_len 300; omega⟩
theorem bd_301 : Bdx (sizeT 301) := ⟨size301, size_tx (by decide), size_low (by decide), by have := @size_len 301; omega⟩
theorem gd_B : Gdx goodB := ⟨Option.isSome_iff_exists.mp good_B, hand_tx _ (List.mem_cons_self ..)⟩
theorem gd_C : Gdx goodC := ⟨Option.isSome_iff_exists.mp good_C, hand_tx _ (List.mem_cons_of_mem _ (List.mem_cons_self ..))⟩
theorem bd_wrong : ∀ z ∈ wrongL, Bdx z := fun z hz => ⟨Option.not_isSome_iff_eq_none.mp (by rw [wrong_none z hz]; exact Bool.false_ne_true), hand_tx _ (List.mem_cons_of_mem _ (List.mem_cons_of_mem _ hz))⟩
section
variable {P : Program} {w : World} {K : PySem.W.Frag} {mg : Str → Option Value} {base : Heap} {C fI pp gp : Addr} {fdI fdp : FuncData}
def tL8 (gl : List Str) : TS := fun D σ H => ∃ (a lg : Addr) (o1 o2 o4 : Option V), σ = Lst a o1 o2 (some (.ref lg)) o4 none ∧ H lg = some (.lst (gl.map V.str)) ∧ ∀ H' : Hp, Same H H' → D.nx σ H'
theorem law8 {f : Addr} {cdv : Value} {A : Around} {outer : List Env} {s : Shared} {H : Hp} {E : XK} {gl : List Str} (hg : ∀ z ∈ gl, Gdx z) (lg1 : gl.length ≤ 1000) (hr : Room 6 (A.deeper (envOfC ("law" : Str) (defScope sLaw) s.heap.objs.size f cdv)))
    (MI : Mk K C fI) (GI : FnOk P w K mg base CX0 5 fI fdI ["self", "text"] (spInit C)) (bI : Binds K fdI ["self", "text"] []) (gI : mg "Rule" = some (.ref C)) (cl : Cls K C)
    (PP : PropOf K C "text" pp gp) (GP : FnOk P w K mg base CX0 1 gp fdp ["self"] (getSp C "written")) (bP' : Binds K fdp ["self"] []) (ft : Hv P w K mg base 2 "_law_fits" ["_law_sheet"] (spFits K)) (hAll : mg "all" = none) :
    PS (cxOf CX0 P w K mg base NL "law" (defScope sLaw) f cdv A outer s H E).nox (lb 7) (tL8 gl) := by
  have hr2 : Room 2 (A.deeper (envOfC ("law" : Str) (defScope sLaw) s.heap.objs.size f cdv)) := hr.mono (by decide)
  have hu := hr.units
  refine PS_imp (ps_if (PW.pt (pw_or (pt_cmpR (op_neD hu) (pe_lc (own := [("_law_sheet", 5)]) (g := gName 5) (tt := tYes) rfl scL.nd (pi_list (pv 3)) (blkOk_by (N := NL) (sc := defScope sLaw) (by decide +kernel))
        (fun _ _ _ _ _ => pg_name (i := 5) scL.nd rfl (Or.inl rfl)) (fun _ _ _ _ _ => pts_nil) (fun _ _ _ _ _ => pe_prop (pe_make MI GI hr rfl gI bI .nil pass0 (pa_cons (pv 5) pa_nil)) cl PP GP hr2 bP' .nil pass0 (by rfl))) (pv 3) (nomark _))
      (pw_or1 (pt_not (pt_val (pe_callB (cr_all rfl) (by rfl) hAll (by decide +kernel) (pa_cons (pe_lc (own := [("_law_sheet", 5)]) (g := gName 5) (tt := tYes) rfl scL.nd (pi_list (pv 3)) (blkOk_by (N := NL) (sc := defScope sLaw) (by decide +kernel))
        (fun _ _ _ _ _ => pg_name (i := 5) scL.nd rfl (Or.inl rfl)) (fun _ _ _ _ _ => pts_nil) (fun _ _ _ _ _ => pe_cl ft hr2 rfl pass0 (pa_cons (pv 5) pa_nil))) pa_nil))))))) (pss_one (ps_ret pe_bl)) pss_nil) ?_
  rintro D σ H ⟨a, lg, o1, o2, o4, rfl, e1, k⟩
  refine ⟨_, rfl, lg, rfl, ⟨_, SqL.of e1⟩, fun D1 hD1 => ?_⟩
  refine lcG gl (fun z => some (V.str z)) (walk_listL (K := K) (a := lg) gl V.str) (by omega) hD1 (yat_same _) (fun H' s' => SqL.of (s' _ _ e1)) (fun i z y H' H'' k1 hz sj hy k2 => ?_) (fun H6 s6 e6 => ?_)
  · obtain ⟨rfl, hy⟩ := hy
    have ey := map_get hz hy
    subst ey
    obtain ⟨⟨p, hp⟩, tx, _, _⟩ := hg z (List.mem_of_getElem? hz)
    refine ⟨rfl, _, rfl, fun x dx nx ndx ne => ?_⟩
    have sm : Same H'' (upd (upd H'' dx (.own x)) x (.ins C dx [])) := (same_new ndx).trans (same_new (by rw [upd_ne ne.symm]; exact nx))
    refine ⟨x, dx, z, p, rfl, upd_same, Nat.le_trans (tx z rfl).1 (by decide), (tx z rfl).2.1, hp, fun H2 keep r => ?_⟩
    obtain ⟨dx', M, G, D', r1, _, _, _⟩ := r
    exact ⟨rfl, x, dx', _, rfl, r1, x, dx', _, .str z, rfl, r1, rfl, k2 _ fun b o e => keep b o (ne_of_none e nx) (sm b o e)⟩
  · have e6' : H6 D1 = some (.lst (gl.map V.str)) := by
      rw [e6, List.filterMap_eq_map']
    have ok : ∀ z ∈ gl, PyData.strOk z = true := fun z hz => ((hg z hz).2.1 z rfl).2.1
    refine ⟨_, rfl, _, _, dp_dTx e6', dp_dTx (s6 _ _ e1), shaped_dTx ok, shaped_dTx ok, _, rfl, ifF_of (by rw [eqv_dTx]; simp) ?_⟩
    refine ⟨_, rfl, lg, rfl, ⟨_, SqL.of (s6 _ _ e1)⟩, fun D2 hD2 => ?_⟩
    refine lcG gl (fun _ => some (V.bl true)) (walk_listL (K := K) (a := lg) gl V.str) (by omega) hD2 (yat_same _) (fun H' s' => SqL.of (s' _ _ (s6 _ _ e1))) (fun i z y H' H'' k1 hz sj hy k2 => ?_) (fun H7 s7 e7 => ?_)
    · obtain ⟨rfl, hy⟩ := hy
      have ey := map_get hz hy
      subst ey
      obtain ⟨⟨p, hp⟩, tx, _, _⟩ := hg z (List.mem_of_getElem? hz)
      refine ⟨rfl, _, rfl, .str z, .str z, rfl, .fl (.str z), tx, fun H2 s2 => ?_⟩
      have ft : fitsD (.str z) = true := by rw [fits_parts]; show (parseL z).isSome = true; rw [hp]; rfl
      rw [ft]
      exact k2 _ s2
    · have e7' : H7 D2 = some (.lst ((gl.map fun _ => true).map V.bl)) := by
        rw [e7, List.filterMap_eq_map', List.map_map]
        rfl
      have al : (gl.map fun _ => true).all id = true := by
        rw [List.all_map, List.all_eq_true]
        intro _ _
        rfl
      refine ⟨D2, _, rfl, SqL.of e7', _, rfl, ?_⟩
      exact ifF_of (by rw [al]; rfl) (k _ (s6.trans s7))
end
end My
namespace My
open PySem PySem.Spec PyProof.Rows L2 PySem.GX L2H LamX
theorem shAll_str {K : PySem.W.Frag} {H : Hp} : ∀ zs : List Str, ShAll K H (zs.map V.str) (zs.map .str)
  | [] => .nil
  | z :: t => .cons (.fl (.str z)) (shAll_str t)
theorem showable_strs : ∀ ws : List Str, PyData.showableAll (ws.map .str) = true
  | [] => by simp only [List.map_nil, PyData.showableAll]
  | w :: t => by simp only [List.map_cons, PyData.showableAll, PyData.showable, showable_strs t, Bool.and_self]
theorem depth_strs0 : ∀ ws : List Str, PyData.depthAll (ws.map .str) = 0
  | [] => by simp only [List.map_nil, PyData.depthAll]
  | w :: t => by simp only [List.map_cons, PyData.depthAll, PyData.depth, depth_strs0 t]; rfl
/-- what is asked of a thing that is shown -/
structure Shx (d : PyData) : Prop where
  ab : d.showable = true
  ln : d.shown.length ≤ 1000000
  dp : d.depth ≤ 50
theorem pair_shx {d : PyData} (h : Shx d) : PyData.showableAll [.str "text", d] = true ∧ (PyData.list [.str "text", d]).shown.length ≤ sizeLine ∧ (PyData.list [.str "text", d]).depth ≤ 60 := by
  have e : (PyData.list [.str "text", d]).shown = ("['text', " : Str) ++ d.shown ++ "]" := by
    rw [← text_text]
    simp only [PyData.shown, PyData.shownAll]
  refine ⟨?_, ?_, ?_⟩
  · simp only [PyData.showableAll, PyData.showable, h.ab, Bool.and_self]
  · rw [e, len_app, len_app]
    have a : ("['text', " : Str).length = 9 := by decide +kernel
    have b : ("]" : Str).length = 1 := by decide +kernel
    have := h.ln
    rw [a, b, sizeLine_eq]
    omega
  · have := h.dp
    simp only [PyData.depth, PyData.depthAll]
    omega
theorem shx_str {z : Str} (h : Low z) (l : z.length ≤ 4300) : Shx (.str z) := by
  have := repr_short h
  exact ⟨by simp only [PyData.showable], by simp only [PyData.shown]; omega, by simp only [PyData.depth]; omega⟩
theorem sumR {l : List Str} (h : ∀ y ∈ l, Low y ∧ y.length ≤ 4300) : ((l.map reprText).map (·.length)).sum ≤ l.length * 43100 := by
  induction l with
  | nil => exact Nat.zero_le _
  | cons y t ih =>
    have h1 := h y (List.mem_cons_self ..)
    have h2 := ih fun z hz => h z (List.mem_cons_of_mem _ hz)
    have := repr_short h1.1
    rw [List.map_cons, List.map_cons, List.sum_cons, List.length_cons, Nat.succ_mul]
    have := h1.2
    omega
theorem shx_lst {gl : List Str} (hl : gl.length ≤ 10) (h : ∀ z ∈ gl, Low z ∧ z.length ≤ 4300) : Shx (.list (gl.map .str)) := by
  refine ⟨by simp only [PyData.showable]; exact showable_strs gl, ?_, by simp only [PyData.depth, depth_strs0]; decide⟩
  simp only [PyData.shown]
  rw [shown_strs]
  have a := listText_len_le (gl.map reprText)
  have b := sumR h
  rw [List.length_map] at a
  have : gl.length * 43100 ≤ 10 * 43100 := Nat.mul_le_mul_right _ hl
  omega
theorem shx_tup {gl : List Str} (hl : gl.length ≤ 10) (h : ∀ z ∈ gl, Low z ∧ z.length ≤ 4300) : Shx (.tuple (gl.map .str)) := by
  refine ⟨by simp only [PyData.showable]; exact showable_strs gl, ?_, by simp only [PyData.depth, depth_strs0]; decide⟩
  simp only [PyData.shown]
  rw [shown_strs]
  have a := tupleText_len_le (gl.map reprText)
  have b := sumR h
  rw [List.length_map] at a
  have : gl.length * 43100 ≤ 10 * 43100 := Nat.mul_le_mul_right _ hl
  omega
/-- a thing that no rule is made of -/
structure Nop (d : PyData) : Prop where
  sx : Shx d
  tx : TxOk d
  no : partsD d = none
theorem nop_bd {z : Str} (h : Bdx z) : Nop (.str z) := ⟨shx_str h.2.2.1 h.2.2.2, h.2.1, h.1⟩
theorem nop_non : Nop .none := ⟨⟨rfl, by decide +kernel, by decide⟩, (fun t e => by cases e), rfl⟩
theorem nop_5 : Nop (.int 5) := ⟨⟨by decide +kernel, by decide +kernel, by decide⟩, (fun t e => by cases e), rfl⟩
theorem nop_lst {gl : List Str} (hl : gl.length ≤ 10) (h : ∀ z ∈ gl, Gdx z) : Nop (.list (gl.map .str)) := ⟨shx_lst hl fun z hz => ⟨(h z hz).2.2.1, (h z hz).2.2.2⟩, (fun t e => by cases e), rfl⟩
theorem nop_tup {gl : List Str} (hl : gl.length ≤ 10) (h : ∀ z ∈ gl, Gdx z) : Nop (.tuple (gl.map .str)) := ⟨shx_tup hl fun z hz => ⟨(h z hz).2.2.1, (h z hz).2.2.2⟩, (fun t e => by cases e), rfl⟩
/-- the things that are tried -/
theorem nops {K : PySem.W.Frag} {H : Hp} {gl wl : List Str} {lg tg : Addr} (hl : gl.length ≤ 10) (hg : ∀ z ∈ gl, Gdx z) (hw : ∀ z ∈ wl, Bdx z) (e1 : H lg = some (.lst (gl.map V.str))) (e2 : H tg = some (.tup (gl.map V.str))) {i : Nat} {y : V}
    (h : (wl.map V.str ++ [.non, .int 5, .ref lg, .ref tg])[i]? = some y) : ∃ d, Nop d ∧ Sh K H y d := by
  rcases List.mem_append.mp (List.mem_of_getElem? h) with m | m
  · obtain ⟨z, hz, rfl⟩ := List.mem_map.mp m
    exact ⟨_, nop_bd (hw z hz), .fl (.str z)⟩
  · simp only [List.mem_cons, List.not_mem_nil, or_false] at m
    rcases m with rfl | rfl | rfl | rfl
    · exact ⟨_, nop_non, .fl .non⟩
    · exact ⟨_, nop_5, .fl (.int 5)⟩
    · exact ⟨_, nop_lst hl hg, .lst (SqL.of e1) (shAll_str gl)⟩
    · exact ⟨_, nop_tup hl hg, .tup (SqT.of e2) (shAll_str gl)⟩
section
variable {P : Program} {w : World} {K : PySem.W.Frag} {mg : Str → Option Value} {base : Heap} {C C0 : Addr} {c : Nat → Addr} {bR bK bP : Addr}
def tL9 (T : List (Addr × Str)) (gl wl : List Str) : TS := fun D σ H => ∃ (a lg lw : Addr) (o1 o2 : Option V), σ = Lst a o1 o2 (some (.ref lg)) (some (.ref lw)) none ∧ H lg = some (.lst (gl.map V.str)) ∧ H lw = some (.lst (wl.map V.str)) ∧ Tabs T H ∧
  ∀ (o5 : Option V) (H' : Hp), ExtN H H' → Tabs T H' → D.nx (Lst a o1 o2 (some (.ref lg)) (some (.ref lw)) o5) H'
theorem law9 {f cW PTW : Addr} {A : Around} {outer : List Env} {s : Shared} {H : Hp} {E : XK} {T : List (Addr × Str)} {gl wl : List Str} (hgd : (A.deeper (envOfC ("law" : Str) (defScope sLaw) s.heap.objs.size f (.ref cW))).guards = some []) (lg1 : gl.length ≤ 10) (lw1 : wl.length ≤ 100) (hg : ∀ z ∈ gl, Gdx z) (hw : ∀ z ∈ wl, Bdx z) (hr : Room 9 (A.deeper (envOfC ("law" : Str) (defScope sLaw) s.heap.objs.size f (.ref cW))))
    (TB : TabB base mg cW PTW) (hTm : (PTW, qW) ∈ T) (hTu : ∀ q ∈ T, q.1 = PTW → q.2 = qW) (R : Rt P w K mg base C C0 c bR bK bP) (hTup : mg "tuple" = none) :
    PS (cxOf CX0 P w K mg base NL "law" (defScope sLaw) f (.ref cW) A outer s H E).nox (lb 8) (tL9 T gl wl) := by
  obtain ⟨fI, fdI, MI, GI, bI, kI, gI⟩ := R.mkr
  obtain ⟨fC, fdC, FC, bC, gC⟩ := R.hC
  obtain ⟨fF, fdF, FF, bF, gF⟩ := R.hF
  obtain ⟨gE, ocE, odE, kVE, docE, pmE, anE, cdE, ctE, oslE, mE, kE, lE, cE, bE⟩ := R.er
  have hr2 : Room 2 (A.deeper (envOfC ("law" : Str) (defScope sLaw) s.heap.objs.size f (.ref cW))) := hr.mono (by decide)
  have hr8 : Room 8 (A.deeper (envOfC ("law" : Str) (defScope sLaw) s.heap.objs.size f (.ref cW))) := hr.mono (by decide)
  have hu := hr.units
  refine PS_imp (ps_for PassesOwn.never rfl (pi_list (pe_op op_cat (pv 4) (pe_lst (pa_cons pe_non (pa_cons pe_int (pa_cons (pv 3) (pa_cons (pe_callTy call_tuple_of (by rfl) hTup (by decide +kernel) (pa_cons (pv 3) pa_nil)) pa_nil))))))) (pg_name (i := 5) scL.nd rfl (Or.inr rfl))
    (pss_one (ps_if (PW.pt (pw_or (pt_cmpR op_ne (pe_callB (call_reprLK (K := K) rfl hgd hu) (by rfl) R.hRe (by decide +kernel) (pa_cons (pe_lamN (T := T) (TT := TTerr K c bR bK bP) (k := 6) rfl mE kE lE cE bE scError rfl (Or.inl rfl)
          (gives_err FC bC gC FF bF gF R.gc R.g1 R.g2 R.g3 R.hIs R.hL R.hVE R.hLE R.hAE) TB rfl hTm hTu hr8 (lamS_by (show lamSB (defScope sLaw) _ = true by decide +kernel)) rfl (fun _ _ _ _ _ => rfl)
          (fun A outer s H E f c' hr' => pe_makeKw MI GI hr' rfl gI kI (L2N.passes_call (L2N.takes_of rfl rfl rfl rfl) (fun _ _ _ _ z => z)) (pk_cons (pv 5) pk_nil))) pa_nil))
        (pe_callB (call_reprLK (K := K) rfl hgd hu) (by rfl) R.hRe (by decide +kernel) (pa_cons (pe_lst (pa_cons pe_str (pa_cons (pv 5) pa_nil))) pa_nil)) (nomark _))
      (pw_or1 (pt_val (pe_cl R.ft hr2 rfl pass0 (pa_cons (pv 5) pa_nil)))))) (pss_one (ps_ret pe_bl)) pss_nil))) ?_
  rintro D σ H ⟨a, lg, lw, o1, o2, rfl, e1, e2, hT, k⟩
  refine ⟨_, rfl, _, rfl, _, rfl, lg, _, rfl, .inl ⟨SqL.of e1, fun tg n1 => ?_⟩⟩
  refine ⟨by show 4 ≤ sizeLine; decide, fun l4 n2 => ?_⟩
  have s1 := (same_new (o := .tup (gl.map V.str)) n1).trans (same_new (o := .lst [.non, .int 5, .ref lg, .ref tg]) n2)
  have f1 : upd (upd H tg (.tup (gl.map V.str))) l4 (.lst [.non, .int 5, .ref lg, .ref tg]) l4 = some (.lst [.non, .int 5, .ref lg, .ref tg]) := upd_same
  have f2 : upd (upd H tg (.tup (gl.map V.str))) l4 (.lst [.non, .int 5, .ref lg, .ref tg]) tg = some (.tup (gl.map V.str)) := keep1 upd_same n2
  generalize upd (upd H tg (.tup (gl.map V.str))) l4 (.lst [.non, .int 5, .ref lg, .ref tg]) = H1 at s1 f1 f2 ⊢
  clear n1 n2
  refine ⟨lw, l4, _, _, rfl, rfl, s1 _ _ e2, f1, by rw [List.length_map, sizeLine_eq]; show wl.length + 4 ≤ _; omega, fun q n3 => ⟨q, rfl, ⟨_, SqL.of upd_same⟩, ?_⟩⟩
  have s2 := s1.trans (same_new (o := .lst (wl.map V.str ++ [.non, .int 5, .ref lg, .ref tg])) n3)
  have g1 : upd H1 q (.lst (wl.map V.str ++ [.non, .int 5, .ref lg, .ref tg])) q = some (.lst (wl.map V.str ++ [.non, .int 5, .ref lg, .ref tg])) := upd_same
  have g2 : upd H1 q (.lst (wl.map V.str ++ [.non, .int 5, .ref lg, .ref tg])) tg = some (.tup (gl.map V.str)) := keep1 f2 n3
  have g3 := s2 _ _ e1
  generalize upd H1 q (.lst (wl.map V.str ++ [.non, .int 5, .ref lg, .ref tg])) = H2 at s2 g1 g2 g3 ⊢
  clear s1 f1 f2 n3 e1 e2
  have hT2 := Tabs.ext hT s2
  refine for_list (K := K) (a := q) (xs := wl.map V.str ++ [.non, .int 5, .ref lg, .ref tg]) (fun i σ H' => (∃ o5, σ = Lst a o1 o2 (some (.ref lg)) (some (.ref lw)) o5) ∧ ExtN H2 H' ∧ Tabs T H')
    ⟨⟨_, rfl⟩, fun b o e _ => e, hT2⟩ (fun i σ H' _ h => SqL.of (h.2.1 _ _ g1 fun _ z => by cases z)) ?_ ?_
  · rintro i y σ H3 hi ⟨⟨o5, rfl⟩, x3, t3⟩
    obtain ⟨d, np, sh⟩ := nops (K := K) lg1 hg hw g3 g2 hi
    have sh3 := Sh.ext x3 sh
    clear sh hi
    obtain ⟨f1, f2, f3⟩ := pair_shx np.sx
    refine ⟨t3, fun H5 x5 t5 => ?_⟩
    have sh5 := Sh.ext x5 sh3
    refine ⟨_, rfl, rfl, fun r dr nr ndr ne => ?_⟩
    have sm : Same H5 (upd (upd H5 dr (.own r)) r (.ins C dr [])) := (same_new ndr).trans (same_new (by rw [upd_ne ne.symm]; exact nr))
    refine ⟨r, dr, y, d, rfl, upd_same, Sh.ext (ExtN.of sm) sh5, fun t e => ⟨Nat.le_trans (np.tx t e).1 (by decide), (np.tx t e).2.1⟩, fun t pp hd hp H6 keep rA => ?_, fun hn da H6 s6 e6 => ⟨C0, da, 0, _, y, rfl, rfl, R.eI, e6, rfl, fun la H7 s7 ela => ?_⟩⟩
    · rw [np.no] at hp
      cases hp
    · have sA := (sm.trans s6).trans s7
      have ft : fitsD d = false := by rw [fits_parts, hn]; rfl
      refine ⟨la, [.str "text", d], rfl, .lst (SqL.of ela) (.cons (.fl (.str _)) (.cons (Sh.ext (ExtN.of sA) sh5) .nil)), f1, f2, f3, ?_⟩
      refine ⟨_, rfl, (by show 2 ≤ sizeLine; decide), fun lb hlb => ?_⟩
      have sB := sA.trans (same_new (o := .lst [.str "text", y]) hlb)
      refine ⟨lb, [.str "text", d], rfl, .lst (SqL.of upd_same) (.cons (.fl (.str _)) (.cons (Sh.ext (ExtN.of sB) sh5) .nil)), f1, f2, f3, rfl, _, rfl, ifF_of (by simp) ?_⟩
      refine ⟨_, rfl, y, d, rfl, Sh.ext (ExtN.of sB) sh5, np.tx, fun H8 s8 => ⟨_, rfl, ifF_of ft ?_⟩⟩
      have sC := sB.trans s8
      exact ⟨⟨_, rfl⟩, fun b o e nt => sC _ _ (x5 _ _ (x3 _ _ e nt) nt), Tabs.ext t5 sC⟩
  · rintro σ H3 ⟨⟨o5, rfl⟩, x3, t3⟩
    exact k o5 H3 (fun b o e nt => x3 _ _ (s2 _ _ e) nt) t3
end
end My
namespace My
open PySem PySem.Spec PyProof.Rows L2 PySem.GX L2H LamX
def spLaw (K : PySem.W.Frag) (T : List (Addr × Str)) : Sp := fun vs H Q _ => ∃ (a : Addr) (ns : List Int), vs = [.ref a] ∧ SqL K H a (ns.map V.int) ∧ ns.length ≤ 63 ∧ Tabs T H ∧ ∀ H', Q (.bl true) H'
theorem all_rep (n : Nat) : (List.replicate n true).all id = true := by
  induction n with
  | zero => rfl
  | succ n ih => rw [List.replicate_succ, List.all_cons, ih]; rfl
theorem rep_snoc {α : Type} (n : Nat) (x : α) : List.replicate n x ++ [x] = List.replicate (n + 1) x := by
  rw [List.replicate_succ']
theorem sq_ext {K : PySem.W.Frag} {H H' : Hp} {a : Addr} {xs : List V} (s : ExtN H H') (h : SqL K H a xs) : SqL K H' a xs := by
  rcases h with (h | ⟨o, h⟩) | h
  · exact .inl (.inl (s _ _ h fun _ z => by cases z))
  · exact .inl (.inr ⟨o, s _ _ h fun _ z => by cases z⟩)
  · exact .inr h
section
variable {P : Program} {w : World} {K : PySem.W.Frag} {mg : Str → Option Value} {base : Heap} {C C0 : Addr} {c : Nat → Addr} {bR bK bP : Addr}
theorem ok_law {f fW fR cW PTW : Addr} {fdW fdR : FuncData} {T : List (Addr × Str)} {kV doc pm ct oc : Value} {an od : Option Addr} {osl : Array (Option Value)} (lk : K.lookup f = some ⟨oc, od, .func (PySem.W.fnOf "law" "law" (defArgs sLaw) (defBody sLaw) (defScope sLaw) .none kV doc pm an (.ref cW) ct), osl⟩)
    (hcd : PySem.W.codeIn K (.ref cW) "law" = true) (TB : TabB base mg cW PTW) (hTm : (PTW, qW) ∈ T) (hTu : ∀ q ∈ T, q.1 = PTW → q.2 = qW) (R : Rt P w K mg base C C0 c bR bK bP)
    {fI : Addr} {fdI : FuncData} (MI : Mk K C fI) (GI : FnOk P w K mg base CX0 5 fI fdI ["self", "text"] (spInit C)) (bI : Binds K fdI ["self", "text"] []) (gI : mg "Rule" = some (.ref C))
    (hWd : Hv P w K mg base 1 "_law_word" ["_law_measure"] spWd) (hTup : mg "tuple" = none) (hAll : mg "all" = none) (hMax : mg "max" = none) (hMin : mg "min" = none)
    (GW : FnOk P w K mg base CX0 1 fW fdW ["_law_script", "_law_turn"] (spWell K)) (bW : Binds K fdW ["_law_script", "_law_turn"] []) (gW : mg "_law_well" = some (.ref fW)) (kW : PySem.W.keepIn K (.ref fW) = true)
    (GR : FnG P w K mg base CX0 9 fR fdR ["_law_well_here"] (spRight T)) (bR' : Binds K fdR ["_law_well_here"] []) (gR : mg "_law_right" = some (.ref fR)) (kR : PySem.W.keepIn K (.ref fR) = true) :
    FnG P w K mg base CX0 10 f (PySem.W.fnOf "law" "law" (defArgs sLaw) (defBody sLaw) (defScope sLaw) .none kV doc pm an (.ref cW) ct) ["_law_script"] (spLaw K T) := by
  obtain ⟨pp, gp, fdp, PP, GP, bP'⟩ := R.pr
  obtain ⟨z1, hz1⟩ : ∃ z, z = sizeT 300 := ⟨_, rfl⟩
  obtain ⟨z2, hz2⟩ : ∃ z, z = sizeT 301 := ⟨_, rfl⟩
  have g1 : Gdx z1 := by rw [hz1]; exact gd_300
  have b1 : Bdx z2 := by rw [hz2]; exact bd_301
  have hg : ∀ z ∈ [z1, goodB, goodC], Gdx z := fun z hz => by
    rcases List.mem_cons.mp hz with e | hz
    · rw [e]; exact g1
    · rcases List.mem_cons.mp hz with e | hz
      · rw [e]; exact gd_B
      · rw [List.mem_singleton.mp hz]; exact gd_C
  have hw : ∀ z ∈ z2 :: wrongL, Bdx z := fun z hz => by
    rcases List.mem_cons.mp hz with e | hz
    · rw [e]; exact b1
    · exact bd_wrong z hz
  refine fnG_of lk hcd scL (fun vs H Q E h => ?_) (fun A outer s H vs Q E hgd hr h => ?_)
  · obtain ⟨a, ns, rfl, _⟩ := h
    rfl
  · obtain ⟨a, ns, rfl, hS, hl, hT, k⟩ := h
    suffices hh : ∃ t, PSs (cxOf CX0 P w K mg base NL "law" (defScope sLaw) f (.ref cW) A outer s H E).nox (defBody sLaw) t ∧ t { nx := fun _ H' => Q .non H', rt := Q } (L2.start NL [.ref a]) H from by
      obtain ⟨t, h1, h2⟩ := hh
      exact ⟨t, h1.nox, h2⟩
    have hr1 : Room 1 (A.deeper (envOfC "law" (defScope sLaw) s.heap.objs.size f (.ref cW))) := hr.mono (by decide)
    have hr6 : Room 6 (A.deeper (envOfC "law" (defScope sLaw) s.heap.objs.size f (.ref cW))) := hr.mono (by decide)
    have p8 := law8 (f := f) (cdv := .ref cW) (outer := outer) (s := s) (H := H) (E := E) hg (by show 3 ≤ 1000; decide) hr6 MI GI bI gI R.cl PP GP bP' R.ft hAll
    have p9 := law9 (f := f) (outer := outer) (s := s) (H := H) (E := E) hgd (by show 3 ≤ 10; decide) (by show 13 ≤ 100; decide) hg hw hr TB hTm hTu R hTup
    have p1 := law1 (f := f) (cdv := .ref cW) (A := A) (outer := outer) (s := s) (H := H) (E := E) hr1 hWd R.hRa
    have p2 := law2 (P := P) (w := w) (K := K) (mg := mg) (base := base) (f := f) (cdv := .ref cW) (A := A) (outer := outer) (s := s) (H := H) (E := E)
    refine ⟨_, pss_cons p1 (pss_cons p2
      (pss_cons (ps_set (i := 3) scL.nd rfl (Or.inl rfl) (pe_lst (pa_cons (pe_ix ix_list (pv 2) pe_int (fun _ _ => rfl)) (pa_cons pe_str (pa_cons pe_str pa_nil)))))
      (pss_cons (ps_set (i := 4) scL.nd rfl (Or.inl rfl) (pe_lst (pa_cons (pe_ix ix_list (pv 2) pe_int (fun _ _ => rfl)) (pa_cons pe_str (pa_cons pe_str pa_nil)))))
      (pss_cons (ps_set (i := 4) scL.nd rfl (Or.inl rfl) (pe_op op_cat (pv 4) (pe_lst (pa_cons pe_str (pa_cons pe_str (pa_cons pe_str (pa_cons pe_str pa_nil)))))))
      (pss_cons (ps_set (i := 4) scL.nd rfl (Or.inl rfl) (pe_op op_cat (pv 4) (pe_lst (pa_cons pe_str (pa_cons pe_str (pa_cons pe_str pa_nil))))))
      (pss_cons (ps_set (i := 4) scL.nd rfl (Or.inl rfl) (pe_op op_cat (pv 4) (pe_lst (pa_cons pe_str (pa_cons pe_str (pa_cons pe_str pa_nil))))))
      (pss_cons p8 (pss_cons p9
      (pss_one (ps_ret (pe_callB (cr_all rfl) (by rfl) hAll (by decide +kernel) (pa_cons
        (pe_lc (own := [("_law_turn", 9)]) (g := gName 9) (tt := tYes) (te := tCall (spRight T) [] E0 (tCons (tCall (spWell K) [] E0 (tCons (tVar 0) (tCons (tVar 9) tNil))) tNil)) rfl scL.nd
          (pi_range1 rfl R.hRa (pa_cons (pe_callB (call_max2 rfl) (by rfl) hMax (by decide +kernel) (pa_cons pe_int (pa_cons (pe_callB (call_min2 rfl) (by rfl) hMin (by decide +kernel) (pa_cons (pe_callB call_len_seq (by rfl) R.hL PySem.boot_len (pa_cons (pv 0) pa_nil)) (pa_cons pe_int pa_nil))) pa_nil))) pa_nil))
          (blkOk_by (N := NL) (sc := defScope sLaw) (by decide +kernel)) (fun _ _ _ _ _ => pg_name (i := 9) scL.nd rfl (Or.inl rfl)) (fun _ _ _ _ _ => pts_nil)
          (fun _ _ _ _ _ => pe_callG GR hgd hr rfl gR kR bR' pass0 (pa_cons (pe_call GW hr1 rfl gW kW bW .nil pass0 (pa_cons (pv 0) (pa_cons (pv 9) pa_nil))) pa_nil))) pa_nil)))))))))))), ?_⟩
    clear p1 p2 p8 p9
    refine ⟨a, rfl, fun l1 H1 s1 n1 e1 => ?_⟩
    refine ⟨a, l1, rfl, e1, fun l2 H2 s2 n2 e2 => ?_⟩
    rw [← hz1, ← hz2] at e2
    have s3 := s1.trans s2
    clear hz1 hz2 n1 n2 e1 s1 s2
    refine ⟨_, rfl, l2, _, _, _, rfl, rfl, SqL.of e2, atI_nat (j := 0) rfl, by show 3 ≤ sizeLine; decide, fun lg n3 => ?_⟩
    have f1 : upd H2 lg (.lst [.str z1, .str goodB, .str goodC]) lg = some (.lst ([z1, goodB, goodC].map V.str)) := upd_same
    have s4 := s3.trans (same_new (o := .lst [.str z1, .str goodB, .str goodC]) n3)
    have e2 := keep1 (o := .lst [.str z1, .str goodB, .str goodC]) e2 n3
    generalize upd H2 lg (.lst [.str z1, .str goodB, .str goodC]) = H3 at f1 s4 e2 ⊢
    clear n3 s3
    refine ⟨_, rfl, l2, _, _, _, rfl, rfl, SqL.of e2, atI_nat (j := 1) rfl, by show 3 ≤ sizeLine; decide, fun lw1 n4 => ?_⟩
    refine ⟨_, rfl, by show 4 ≤ sizeLine; decide, fun lx n5 => ⟨lw1, lx, _, _, rfl, rfl, keep1 upd_same n5, upd_same, by show 7 ≤ sizeLine; decide, fun lw2 n6 => ?_⟩⟩
    refine ⟨_, rfl, by show 3 ≤ sizeLine; decide, fun ly n7 => ⟨lw2, ly, _, _, rfl, rfl, keep1 upd_same n7, upd_same, by show 10 ≤ sizeLine; decide, fun lw3 n8 => ?_⟩⟩
    refine ⟨_, rfl, by show 3 ≤ sizeLine; decide, fun lz n9 => ⟨lw3, lz, _, _, rfl, rfl, keep1 upd_same n9, upd_same, by show 13 ≤ sizeLine; decide, fun lw4 n10 => ?_⟩⟩
    refine (fun (G : ∀ H4 : Hp, Same H3 H4 → H4 lw4 = some (.lst ((z2 :: wrongL).map V.str)) → _) => G _ ((((same_new n4).trans (same_new n5)).trans ((same_new n6).trans (same_new n7))).trans (((same_new n8).trans (same_new n9)).trans (same_new n10))) upd_same) (fun H4 s5 f2 => ?_)
    have f1 := s5 _ _ f1
    have s6 := s4.trans s5
    clear n4 n5 n6 n7 n8 n9 n10 s5 s4 e2
    refine ⟨a, lg, _, _, _, rfl, f1, fun H5 s7 => ?_⟩
    have f1 := s7 _ _ f1
    have f2 := s7 _ _ f2
    have s8 := s6.trans s7
    refine ⟨a, lg, lw4, _, _, rfl, f1, f2, Tabs.ext hT s8, fun o5 H6 x6 tN => ?_⟩
    have xN : ExtN H H6 := fun b o e nt => x6 _ _ (s8 _ _ e) nt
    have hS := sq_ext xN hS
    clear xN x6 s8 f1 f2 s6 s7
    refine ⟨_, rfl, a, _, rfl, .inl hS, _, _, rfl, _, _, rfl, _, rfl, ?_, ?_, fun D hD => ?_⟩
    · rw [List.length_map]
      split <;> split <;> omega
    · rw [List.length_map]
      split <;> split <;> omega
    · rw [List.length_map] at *
      generalize hn : (if (if (4 : Int) < (ns.length : Int) then (4 : Int) else (ns.length : Int)) > 2 then (if (4 : Int) < (ns.length : Int) then (4 : Int) else (ns.length : Int)) else 2) = n
      have n1 : 0 ≤ n ∧ n ≤ 4 := by
        rw [← hn]
        constructor <;> split <;> split <;> omega
      refine lc_range (lo := 0) (n := n.toNat) (fun j H' => ExtN H6 H' ∧ Tabs T H' ∧ H' D = some (.lst (List.replicate j (V.bl true)))) ⟨ExtN.of (same_new hD), Tabs.ext tN (same_new hD), upd_same⟩ (fun j H' hj ⟨sH, tH, eD⟩ => ?_) (fun H' ⟨sH, tH, eD⟩ => ?_)
      · refine ⟨rfl, ?_⟩
        refine ⟨_, rfl, _, rfl, a, ns, _, rfl, sq_ext sH hS, (by omega), (by omega), fun p H1 s1 np hW => ?_⟩
        refine ⟨p, rfl, hW, Tabs.ext tH s1, fun H2 s2 t2 => ?_⟩
        have dp : D ≠ p := ne_of_none eD np
        have eD2 : H2 D = some (.lst (List.replicate j (V.bl true))) := s2 D _ dp (fun _ z => by cases z) (s1 _ _ eD)
        refine ⟨_, eD2, ?_, fun b o e nt => ?_, Tabs.off t2 eD2, ?_⟩
        · rw [List.length_replicate]
          exact small1000 (by omega)
        · rw [upd_ne (ne_of_none e hD)]
          have z0 := sH _ _ e nt
          exact s2 b o (ne_of_none z0 np) nt (s1 _ _ z0)
        · rw [upd_same, rep_snoc]
      · refine ⟨D, List.replicate n.toNat true, rfl, SqL.of (by rw [List.map_replicate]; exact eD), ?_⟩
        rw [all_rep]
        exact k H'
end
end My
namespace My
open PySem PySem.Spec PyProof.Rows L2 PySem.GX L2H LamX
/-! ### what is asked of the written part, as tests that are run -/
def okC (K : PySem.W.Frag) (C : Addr) : Bool :=
  PySem.W.findIn K (.ref C) "__getattribute__" == some (some (.builtin "BaseException.__getattribute__")) && (PySem.W.findIn K (.ref C) "__getattr__" == some none &&
  (PySem.W.subIn K (.ref C) (.type "BaseException") == some true && (PySem.W.hasDictIn K C && (PySem.W.findIn K (.ref C) "__class__" == some (some (.builtin "object.__class__")) &&
  (PySem.W.specialIn K (.builtin "object.__class__") "__get__" == some (some (.builtin "getset_descriptor.__get__")) && (PySem.W.takesIn K (.builtin "object.__class__") == some true &&
  (PySem.W.mroIn K C (.type "object") == some true && (PySem.W.findIn K (.ref C) "__setattr__" == some (some (.builtin "object.__setattr__")) && PySem.W.keepIn K (.ref C)))))))))
theorem okC_of {K : PySem.W.Frag} {C : Addr} (h : okC K C = true) : ExcC K C ∧ PySem.W.findIn K (.ref C) "__setattr__" = some (some (.builtin "object.__setattr__")) ∧ PySem.W.keepIn K (.ref C) = true := by
  unfold okC at h
  simp only [Bool.and_eq_true, beq_iff_eq] at h
  obtain ⟨h1, h2, h3, h4, h5, h6, h7, h8, h9, h10⟩ := h
  exact ⟨⟨h1, h2, h3, h4, h5, h6, h7, h8⟩, h9, h10⟩
def shp (K : PySem.W.Frag) (C B : Addr) (tl : List Value) (nid : String) : Bool := match K.lookup C with
  | some ⟨.type "type", _, .cls cd, sl⟩ => (match cd.mro, sl.toList with
    | .ref C' :: bm, [_, _, _, _, some (.builtin n), _] => C' == C && (n == nid && (!cd.hasDel && (cd.hasDict && bm == .ref B :: tl)))
    | _, _ => false)
  | _ => false
theorem shp_of {K : PySem.W.Frag} {C B : Addr} {tl : List Value} {nid : String} (q : shp K C B tl nid = true) : ∃ nm qn N bs sn sub ab col dd k0 k1 k2 k3 k5,
    K.lookup C = some (excClassObj nm qn C N bs (.ref B :: tl) true sn sub ab col dd k0 k1 k2 k3 k5 nid) := by
  unfold shp at q
  split at q
  · rename_i dd cd sl ho
    split at q
    · rename_i C' bm k0 k1 k2 k3 n k5 hm hs
      simp only [Bool.and_eq_true, beq_iff_eq, Bool.not_eq_true'] at q
      obtain ⟨rfl, rfl, hdel, hdi, hbm⟩ := q
      obtain ⟨nm, bs, mro, ns, qn, hd, sn, sub, ab, col, dl⟩ := cd
      dsimp only at hm hdel hdi
      subst hm hdel hdi hbm
      have hsl : sl = #[k0, k1, k2, k3, some (.builtin n), k5] := by
        obtain ⟨l⟩ := sl
        simp only at hs
        rw [hs]
      subst hsl
      exact ⟨nm, qn, ns, bs, sn, sub, ab, col, dd, k0, k1, k2, k3, k5, ho⟩
    · cases q
  · cases q
theorem exG_of {K : PySem.W.Frag} {C B : Addr} {Bn nid iid : String} (FB : ExcBaseFacts Bn nid iid (tailOf Bn)) (hp : ∀ self, refuseLoop self "__setattr__" (tailOf Bn) = pure ()) (h : okC K C = true) (q : shp K C B (tailOf Bn) nid = true) : ExG K C := by
  obtain ⟨a, b, c⟩ := okC_of h
  obtain ⟨nm, qn, N, bs, sn, sub, ab, col, dd, k0, k1, k2, k3, k5, e⟩ := shp_of q
  exact ⟨a, ⟨Bn, nid, iid, tailOf Bn, nm, qn, N, bs, _, sn, sub, ab, col, dd, k0, k1, k2, k3, k5, FB, fun Y => by rw [List.contains_cons]; rfl, mroOk2 hp, e⟩, b, c⟩
def chk (K : PySem.W.Frag) (C : Addr) (i : Nat) (cs bs : List Addr) : Bool :=
  okC K C && ((List.range 11).all (fun j => PySem.W.kitOne K (.ref C) (.ref (cs.getD j 0)) == some (decide (j = i))) && (shp K C (bs.getD 0 0) (tailOf "ValueError") "ValueError.__new__" && (PySem.W.findIn K (.ref C) "given" == some none &&
  (PySem.W.kitOne K (.ref C) (.ref (bs.getD 0 0)) == some true && (PySem.W.kitOne K (.ref C) (.ref (bs.getD 1 0)) == some false && (PySem.W.kitOne K (.ref C) (.ref (bs.getD 2 0)) == some false &&
  (PySem.W.kitOne K (.ref C) (.type "ValueError") == some true && (PySem.W.kitOne K (.ref C) (.type "LookupError") == some false && (PySem.W.kitOne K (.ref C) (.type "ArithmeticError") == some false &&
  (PySem.W.exmAny K (.ref C) [.ref (bs.getD 0 0), .ref (bs.getD 1 0), .ref (bs.getD 2 0)] == some true && PySem.W.typeIn K (.ref C) == some (.type "type")))))))))))
theorem chk_of {K : PySem.W.Frag} {C B0 B1 B2 : Addr} {i : Nat} {cs : List Addr} (hi : i < 8) (q : chk K C i cs [B0, B1, B2] = true) : ErrC K (fun j => cs.getD j 0) B0 B1 B2 C i ∧ ExG K C ∧ PySem.W.typeIn K (.ref C) = some (.type "type") := by
  unfold chk at q
  simp only [Bool.and_eq_true, beq_iff_eq] at q
  obtain ⟨q1, q2, q3, q4, q5, q6, q7, q8, q9, q10, q11, q12⟩ := q
  exact ⟨⟨(okC_of q1).1, hi, fun j hj => beq_iff_eq.mp (List.all_eq_true.mp q2 j (List.mem_range.mpr hj)), q4, q5, q6, q7, q8, q9, q10, q11⟩, exG_of (B := B0) PySem.F.excBase_ValueError pass_VE q1 q3, q12⟩
theorem vals_rev : ∀ {zs : List V} {ws : List Value}, Vals zs ws → Vals zs.reverse ws.reverse
  | _, _, .nil => .nil
  | _, _, .cons r t => by
    rw [List.reverse_cons, List.reverse_cons]
    exact (vals_rev t).append (.cons r .nil)
theorem funD_mk {K : PySem.W.Frag} {x qual : Str} {st : Stmt} {f T : Addr} {o : Obj} {its : List Value} {n : Nat} {dvs : List V} {oc : Value} {od an : Option Addr} {osl : Array (Option Value)} {kV doc pm cdv ct : Value} (l : K.lookup f = some ⟨oc, od, .func (PySem.W.fnOf x qual (defArgs st) (defBody st) (defScope st) (.ref T) kV doc pm an cdv ct), osl⟩)
    (c : PySem.W.codeIn K cdv qual = true) (k : PySem.W.keepIn K (.ref f) = true) (hne : dvs ≠ []) (lT : K.lookup T = some o) (oT : o.data = .seq its.toArray n) (vd : Vals dvs its) : FunD K x qual (defArgs st) (defBody st) (defScope st) dvs [] f (PySem.W.fnOf x qual (defArgs st) (defBody st) (defScope st) (.ref T) kV doc pm an cdv ct) :=
  ⟨⟨oc, od, .ref T, kV, doc, pm, an, cdv, ct, osl, rfl, l, c, .inr ⟨hne, T, o, its, n, rfl, lT, oT, vd⟩, .inl rfl⟩, k⟩
end My
namespace My
open PySem PySem.Spec PyProof.Rows L2 PySem.GX L2H LamX
theorem mk_c0 {P : Program} {w : World} {K : PySem.W.Frag} {mg : Str → Option Value} {base : Heap} {C fI : Addr} {fd : FuncData} (F : Fun K "__init__" "InvalidText.__init__" (inClass (top 3) 0) fI fd) (T : ExG K C) (no : PySem.W.findIn K (.ref C) "given" = some none) (gC : mg "InvalidText" = some (.ref C))
    (iC : PySem.W.findIn K (.ref C) "__init__" = some (some (.ref fI))) (tI : PySem.W.typeIn K (.ref fI) = some (.type "function")) : Mk1 P w K mg base "InvalidText" C "given" := by
  have S : FnScope ["self", "given"] ["self", "given"] (defScope (inClass (top 3) 0)) := ⟨rfl, rfl, rfl, by decide +kernel, rfl, by decide +kernel, by decide +kernel⟩
  refine ⟨T, gC, fI, fd, iC, tI, ?_, ?_, ?_⟩
  · refine F.ok S (fun vs H Q E h => by obtain ⟨a, v, rfl, _⟩ := h; rfl) (fun cdv A outer s H vs Q E hr h => ?_)
    obtain ⟨a, v, rfl, ha, k⟩ := h
    exact ⟨_, pss_one (ps_osG (pv 0) (pv 1)), _, rfl, _, rfl, a, C, rfl, T, no, .inl ⟨ha, k⟩⟩
  · obtain ⟨oc, od, kV, doc, pm, an, cdv, ct, osl, rfl, lk, hcd⟩ := F.ex
    exact ⟨fun s us ws _ hu hw => match us, ws, hu, hw with | [_, _], [], _, _ => .of_eq rfl, fun r _ => r⟩
  · obtain ⟨oc, od, kV, doc, pm, an, cdv, ct, osl, rfl, lk, hcd⟩ := F.ex
    exact ⟨fun s us ws _ hu hw => match us, ws, hu, hw with | [_], [_], _, _ => .of_eq rfl, fun r q => r.append q⟩
def frees : List Str := ["int", "bool", "len", "abs", "isinstance", "repr", "all", "range", "max", "min", "ValueError", "LookupError", "ArithmeticError", "str", "set", "sorted", "list", "tuple"]
def chkF (K : PySem.W.Frag) : Bool := frees.all fun x => PySem.W.nsIn K mainGlobals x == some none
theorem free_of {K : PySem.W.Frag} {h : Heap} {mg : Str → Option Value} (X : K.In h) (G : h.Ns mainGlobals mg) (q : chkF K = true) {x : Str} (hx : x ∈ frees) : mg x = none := by
  unfold chkF at q
  exact PySem.W.mg_none_of X G (beq_iff_eq.mp (List.all_eq_true.mp q x hx))
def tabsOf : List (Addr × Addr) → List (Addr × Str)
  | [a, b] => [(a.2, qR), (b.2, qW)]
  | _ => []
theorem tabs_start : ∀ {ts : List (Addr × Addr)} {H : Hp}, (∀ q ∈ ts, H q.2 = some (.tbl #[])) → Tabs (tabsOf ts) H
  | [a, b], H, h => fun p hp => by
    have hp' : p ∈ [(a.2, qR), (b.2, qW)] := hp
    simp only [List.mem_cons, List.not_mem_nil, or_false] at hp'
    rcases hp' with rfl | rfl
    · exact TabS.nil (h a (List.mem_cons_self ..))
    · exact TabS.nil (h b (List.mem_cons_of_mem _ (List.mem_cons_self ..)))
  | [], H, h => fun p hp => by cases hp
  | [_], H, h => fun p hp => by cases hp
  | _ :: _ :: _ :: _, H, h => fun p hp => by cases hp
section
variable {l : PySem.W.OpenLaw} {w : World} {K : PySem.W.Frag} {h : Heap} {mg : Str → Option Value}
theorem all_mk {fa : Addr} {C0 C1 C2 C3 C4 C5 C6 C7 C8 C9 C10 B0 B1 B2 CU gva cR PR cW PTW tT pT gol giw gas gam gag grg grr glw gld glp glt gls glx gle glo glr glc gli glm glf glb glg gll gri gpt : Addr} {odva anva odol anol odiw aniw odas anas odam anam odag anag odrg anrg odrr anrr odlw anlw odld anld odlp anlp odlt anlt odls anls odlx anlx odle anle odlo anlo odlr anlr odlc anlc odli anli odlm anlm odlf anlf odlb anlb odlg anlg odll anll odri anri odpt anpt odR odW : Option Addr} {slva slol sliw slas slam slag slrg slrr sllw slld sllp sllt slls sllx slle sllo sllr sllc slli sllm sllf sllb sllg slll slri slpt slT slR slW : Array (Option Value)} {ocva kVva dcva pmva ctva cdva ocol kVol dcol pmol ctol cdol ociw kViw dciw pmiw ctiw cdiw ocas kVas dcas pmas ctas cdas ocam kVam dcam pmam ctam cdam ocag kVag dcag pmag ctag cdag ocrg kVrg dcrg pmrg ctrg cdrg ocrr kVrr dcrr pmrr ctrr cdrr oclw kVlw dclw pmlw ctlw cdlw ocld kVld dcld pmld ctld cdld oclp kVlp dclp pmlp ctlp cdlp oclt kVlt dclt pmlt ctlt cdlt ocls kVls dcls pmls ctls cdls oclx kVlx dclx pmlx ctlx cdlx ocle kVle dcle pmle ctle cdle oclo kVlo dclo pmlo ctlo cdlo oclr kVlr dclr pmlr ctlr cdlr oclc kVlc dclc pmlc ctlc cdlc ocli kVli dcli pmli ctli cdli oclm kVlm dclm pmlm ctlm cdlm oclf kVlf dclf pmlf ctlf cdlf oclb kVlb dclb pmlb ctlb cdlb oclg kVlg dclg pmlg ctlg ocll kVll dcll pmll ctll ocri kVri dcri pmri ctri cdri ocpt kVpt dcpt pmpt ctpt cdpt ocR ocW : Value} {tk0 tk1 tk3 tk4 u0 u1 u2 : Tok} {nT : Nat} {rsT : List Value} {vsR vsW : Array Value} (X : K.In h) (G : h.Ns mainGlobals mg) (hfa : mg "law" = some (.ref fa))
    (acC0 : PySem.W.nsIn K mainGlobals "InvalidText" = some (some (.ref C0)))
    (acC1 : PySem.W.nsIn K mainGlobals "InvalidRow" = some (some (.ref C1)))
    (acC2 : PySem.W.nsIn K mainGlobals "InvalidKind" = some (some (.ref C2)))
    (acC3 : PySem.W.nsIn K mainGlobals "InvalidNumber" = some (some (.ref C3)))
    (acC4 : PySem.W.nsIn K mainGlobals "InvalidMood" = some (some (.ref C4)))
    (acC5 : PySem.W.nsIn K mainGlobals "InvalidSign" = some (some (.ref C5)))
    (acC6 : PySem.W.nsIn K mainGlobals "InvalidPaper" = some (some (.ref C6)))
    (acC7 : PySem.W.nsIn K mainGlobals "NotARule" = some (some (.ref C7)))
    (acC8 : PySem.W.nsIn K mainGlobals "OtherSigns" = some (some (.ref C8)))
    (acC9 : PySem.W.nsIn K mainGlobals "TooMany" = some (some (.ref C9)))
    (acC10 : PySem.W.nsIn K mainGlobals "Kept" = some (some (.ref C10)))
    (acB0 : PySem.W.nsIn K mainGlobals "NotRight" = some (some (.ref B0)))
    (acB1 : PySem.W.nsIn K mainGlobals "NotKnown" = some (some (.ref B1)))
    (acB2 : PySem.W.nsIn K mainGlobals "NotPossible" = some (some (.ref B2)))
    (acCU : PySem.W.nsIn K mainGlobals "Rule" = some (some (.ref CU)))
    (amva : PySem.W.findIn K (.ref C0) "__init__" = some (some (.ref gva)))
    (aiva : PySem.W.isFn K (.ref gva) = true)
    (lgva : K.lookup gva = some ⟨ocva, odva, .func (PySem.W.fnOf "__init__" "InvalidText.__init__" (defArgs (inClass (top 3) 0)) (defBody (inClass (top 3) 0)) (defScope (inClass (top 3) 0)) .none kVva dcva pmva anva cdva ctva), slva⟩)
    (cgva : PySem.W.codeIn K cdva "InvalidText.__init__" = true)
    (kgva : PySem.W.keepIn K (.ref gva) = true)
    (tva : PySem.W.typeIn K (.ref gva) = some (.type "function"))
    (agol : PySem.W.nsIn K mainGlobals "made_of" = some (some (.ref gol)))
    (lgol : K.lookup gol = some ⟨ocol, odol, .func (PySem.W.fnOf "made_of" "made_of" (defArgs sMade) (defBody sMade) (defScope sMade) .none kVol dcol pmol anol cdol ctol), slol⟩)
    (cgol : PySem.W.codeIn K cdol "made_of" = true)
    (kgol : PySem.W.keepIn K (.ref gol) = true)
    (agiw : PySem.W.nsIn K mainGlobals "is_word" = some (some (.ref giw)))
    (lgiw : K.lookup giw = some ⟨ociw, odiw, .func (PySem.W.fnOf "is_word" "is_word" (defArgs sWord) (defBody sWord) (defScope sWord) .none kViw dciw pmiw aniw cdiw ctiw), sliw⟩)
    (cgiw : PySem.W.codeIn K cdiw "is_word" = true)
    (kgiw : PySem.W.keepIn K (.ref giw) = true)
    (agas : PySem.W.nsIn K mainGlobals "are_signs" = some (some (.ref gas)))
    (lgas : K.lookup gas = some ⟨ocas, odas, .func (PySem.W.fnOf "are_signs" "are_signs" (defArgs sSigns) (defBody sSigns) (defScope sSigns) .none kVas dcas pmas anas cdas ctas), slas⟩)
    (cgas : PySem.W.codeIn K cdas "are_signs" = true)
    (kgas : PySem.W.keepIn K (.ref gas) = true)
    (agam : PySem.W.nsIn K mainGlobals "are_moods" = some (some (.ref gam)))
    (lgam : K.lookup gam = some ⟨ocam, odam, .func (PySem.W.fnOf "are_moods" "are_moods" (defArgs sMoods) (defBody sMoods) (defScope sMoods) .none kVam dcam pmam anam cdam ctam), slam⟩)
    (cgam : PySem.W.codeIn K cdam "are_moods" = true)
    (kgam : PySem.W.keepIn K (.ref gam) = true)
    (agag : PySem.W.nsIn K mainGlobals "are_good" = some (some (.ref gag)))
    (lgag : K.lookup gag = some ⟨ocag, odag, .func (PySem.W.fnOf "are_good" "are_good" (defArgs sGood) (defBody sGood) (defScope sGood) .none kVag dcag pmag anag cdag ctag), slag⟩)
    (cgag : PySem.W.codeIn K cdag "are_good" = true)
    (kgag : PySem.W.keepIn K (.ref gag) = true)
    (agrg : PySem.W.nsIn K mainGlobals "read_goals" = some (some (.ref grg)))
    (lgrg : K.lookup grg = some ⟨ocrg, odrg, .func (PySem.W.fnOf "read_goals" "read_goals" (defArgs sGoals) (defBody sGoals) (defScope sGoals) .none kVrg dcrg pmrg anrg cdrg ctrg), slrg⟩)
    (cgrg : PySem.W.codeIn K cdrg "read_goals" = true)
    (kgrg : PySem.W.keepIn K (.ref grg) = true)
    (agrr : PySem.W.nsIn K mainGlobals "read_rule" = some (some (.ref grr)))
    (lgrr : K.lookup grr = some ⟨ocrr, odrr, .func (PySem.W.fnOf "read_rule" "read_rule" (defArgs sRead) (defBody sRead) (defScope sRead) .none kVrr dcrr pmrr anrr cdrr ctrr), slrr⟩)
    (cgrr : PySem.W.codeIn K cdrr "read_rule" = true)
    (kgrr : PySem.W.keepIn K (.ref grr) = true)
    (aglw : PySem.W.nsIn K mainGlobals "_law_well" = some (some (.ref glw)))
    (lglw : K.lookup glw = some ⟨oclw, odlw, .func (PySem.W.fnOf "_law_well" "_law_well" (defArgs sWell) (defBody sWell) (defScope sWell) .none kVlw dclw pmlw anlw cdlw ctlw), sllw⟩)
    (cglw : PySem.W.codeIn K cdlw "_law_well" = true)
    (kglw : PySem.W.keepIn K (.ref glw) = true)
    (agld : PySem.W.nsIn K mainGlobals "_law_dip" = some (some (.ref gld)))
    (lgld : K.lookup gld = some ⟨ocld, odld, .func (PySem.W.fnOf "_law_dip" "_law_dip" (defArgs sDip) (defBody sDip) (defScope sDip) .none kVld dcld pmld anld cdld ctld), slld⟩)
    (cgld : PySem.W.codeIn K cdld "_law_dip" = true)
    (kgld : PySem.W.keepIn K (.ref gld) = true)
    (aglp : PySem.W.nsIn K mainGlobals "_law_pick" = some (some (.ref glp)))
    (lglp : K.lookup glp = some ⟨oclp, odlp, .func (PySem.W.fnOf "_law_pick" "_law_pick" (defArgs sPick) (defBody sPick) (defScope sPick) .none kVlp dclp pmlp anlp cdlp ctlp), sllp⟩)
    (cglp : PySem.W.codeIn K cdlp "_law_pick" = true)
    (kglp : PySem.W.keepIn K (.ref glp) = true)
    (aglt : PySem.W.nsIn K mainGlobals "_law_terms" = some (some (.ref glt)))
    (lglt : K.lookup glt = some ⟨oclt, odlt, .func (PySem.W.fnOf "_law_terms" "_law_terms" (defArgs sTerms) (defBody sTerms) (defScope sTerms) .none kVlt dclt pmlt anlt cdlt ctlt), sllt⟩)
    (cglt : PySem.W.codeIn K cdlt "_law_terms" = true)
    (kglt : PySem.W.keepIn K (.ref glt) = true)
    (agls : PySem.W.nsIn K mainGlobals "_law_sketch" = some (some (.ref gls)))
    (lgls : K.lookup gls = some ⟨ocls, odls, .func (PySem.W.fnOf "_law_sketch" "_law_sketch" (defArgs sSketch) (defBody sSketch) (defScope sSketch) .none kVls dcls pmls anls cdls ctls), slls⟩)
    (cgls : PySem.W.codeIn K cdls "_law_sketch" = true)
    (kgls : PySem.W.keepIn K (.ref gls) = true)
    (aglx : PySem.W.nsIn K mainGlobals "_law_text" = some (some (.ref glx)))
    (lglx : K.lookup glx = some ⟨oclx, odlx, .func (PySem.W.fnOf "_law_text" "_law_text" (defArgs sText) (defBody sText) (defScope sText) .none kVlx dclx pmlx anlx cdlx ctlx), sllx⟩)
    (cglx : PySem.W.codeIn K cdlx "_law_text" = true)
    (kglx : PySem.W.keepIn K (.ref glx) = true)
    (agle : PySem.W.nsIn K mainGlobals "_law_word" = some (some (.ref gle)))
    (lgle : K.lookup gle = some ⟨ocle, odle, .func (PySem.W.fnOf "_law_word" "_law_word" (defArgs sWd) (defBody sWd) (defScope sWd) .none kVle dcle pmle anle cdle ctle), slle⟩)
    (cgle : PySem.W.codeIn K cdle "_law_word" = true)
    (kgle : PySem.W.keepIn K (.ref gle) = true)
    (aglo : PySem.W.nsIn K mainGlobals "_law_odd" = some (some (.ref glo)))
    (lglo : K.lookup glo = some ⟨oclo, odlo, .func (PySem.W.fnOf "_law_odd" "_law_odd" (defArgs sOdd) (defBody sOdd) (defScope sOdd) .none kVlo dclo pmlo anlo cdlo ctlo), sllo⟩)
    (cglo : PySem.W.codeIn K cdlo "_law_odd" = true)
    (kglo : PySem.W.keepIn K (.ref glo) = true)
    (aglr : PySem.W.nsIn K mainGlobals "_law_error" = some (some (.ref glr)))
    (lglr : K.lookup glr = some ⟨oclr, odlr, .func (PySem.W.fnOf "_law_error" "_law_error" (defArgs sError) (defBody sError) (defScope sError) .none kVlr dclr pmlr anlr cdlr ctlr), sllr⟩)
    (cglr : PySem.W.codeIn K cdlr "_law_error" = true)
    (kglr : PySem.W.keepIn K (.ref glr) = true)
    (aglc : PySem.W.nsIn K mainGlobals "_law_class" = some (some (.ref glc)))
    (lglc : K.lookup glc = some ⟨oclc, odlc, .func (PySem.W.fnOf "_law_class" "_law_class" (defArgs sClass) (defBody sClass) (defScope sClass) .none kVlc dclc pmlc anlc cdlc ctlc), sllc⟩)
    (cglc : PySem.W.codeIn K cdlc "_law_class" = true)
    (kglc : PySem.W.keepIn K (.ref glc) = true)
    (agli : PySem.W.nsIn K mainGlobals "_law_field" = some (some (.ref gli)))
    (lgli : K.lookup gli = some ⟨ocli, odli, .func (PySem.W.fnOf "_law_field" "_law_field" (defArgs sField) (defBody sField) (defScope sField) .none kVli dcli pmli anli cdli ctli), slli⟩)
    (cgli : PySem.W.codeIn K cdli "_law_field" = true)
    (kgli : PySem.W.keepIn K (.ref gli) = true)
    (aglm : PySem.W.nsIn K mainGlobals "_law_is_term" = some (some (.ref glm)))
    (lglm : K.lookup glm = some ⟨oclm, odlm, .func (PySem.W.fnOf "_law_is_term" "_law_is_term" (defArgs sTerm) (defBody sTerm) (defScope sTerm) .none kVlm dclm pmlm anlm cdlm ctlm), sllm⟩)
    (cglm : PySem.W.codeIn K cdlm "_law_is_term" = true)
    (kglm : PySem.W.keepIn K (.ref glm) = true)
    (aglf : PySem.W.nsIn K mainGlobals "_law_fits" = some (some (.ref glf)))
    (lglf : K.lookup glf = some ⟨oclf, odlf, .func (PySem.W.fnOf "_law_fits" "_law_fits" (defArgs sFits) (defBody sFits) (defScope sFits) .none kVlf dclf pmlf anlf cdlf ctlf), sllf⟩)
    (cglf : PySem.W.codeIn K cdlf "_law_fits" = true)
    (kglf : PySem.W.keepIn K (.ref glf) = true)
    (aglb : PySem.W.nsIn K mainGlobals "_law_bent" = some (some (.ref glb)))
    (lglb : K.lookup glb = some ⟨oclb, odlb, .func (PySem.W.fnOf "_law_bent" "_law_bent" (defArgs sBent) (defBody sBent) (defScope sBent) .none kVlb dclb pmlb anlb cdlb ctlb), sllb⟩)
    (cglb : PySem.W.codeIn K cdlb "_law_bent" = true)
    (kglb : PySem.W.keepIn K (.ref glb) = true)
    (aglg : PySem.W.nsIn K mainGlobals "_law_right" = some (some (.ref glg)))
    (lglg : K.lookup glg = some ⟨oclg, odlg, .func (PySem.W.fnOf "_law_right" "_law_right" (defArgs sRight) (defBody sRight) (defScope sRight) .none kVlg dclg pmlg anlg (.ref cR) ctlg), sllg⟩)
    (cglg : PySem.W.codeIn K (.ref cR) "_law_right" = true)
    (kglg : PySem.W.keepIn K (.ref glg) = true)
    (agll : PySem.W.nsIn K mainGlobals "law" = some (some (.ref gll)))
    (lgll : K.lookup gll = some ⟨ocll, odll, .func (PySem.W.fnOf "law" "law" (defArgs sLaw) (defBody sLaw) (defScope sLaw) .none kVll dcll pmll anll (.ref cW) ctll), slll⟩)
    (cgll : PySem.W.codeIn K (.ref cW) "law" = true)
    (kgll : PySem.W.keepIn K (.ref gll) = true)
    (amri : PySem.W.findIn K (.ref CU) "__init__" = some (some (.ref gri)))
    (airi : PySem.W.isFn K (.ref gri) = true)
    (lgri : K.lookup gri = some ⟨ocri, odri, .func (PySem.W.fnOf "__init__" "Rule.__init__" (defArgs sInit) (defBody sInit) (defScope sInit) .none kVri dcri pmri anri cdri ctri), slri⟩)
    (cgri : PySem.W.codeIn K cdri "Rule.__init__" = true)
    (kgri : PySem.W.keepIn K (.ref gri) = true)
    (atp : PySem.W.findIn K (.ref CU) "text" = some (some (.ref pT)))
    (gtp : PySem.W.specialIn K (.ref pT) "__get__" = some (some (.builtin "property.__get__")))
    (ttp : PySem.W.takesIn K (.ref pT) = some true)
    (rtp : PySem.W.recIn K pT "property" = some (.ref gpt :: rsT))
    (lgpt : K.lookup gpt = some ⟨ocpt, odpt, .func (PySem.W.fnOf "text" "Rule.text" (defArgs (inClass sRule 1)) (defBody (inClass sRule 1)) (defScope (inClass sRule 1)) .none kVpt dcpt pmpt anpt cdpt ctpt), slpt⟩)
    (cgpt : PySem.W.codeIn K cdpt "Rule.text" = true)
    (kgpt : PySem.W.keepIn K (.ref gpt) = true)
    (av0 : PySem.W.nsIn K mainGlobals "MOST_SIGNS" = some (some (.int 3 tk0)))
    (av1 : PySem.W.nsIn K mainGlobals "MOST_MOODS" = some (some (.int 300 tk1)))
    (av3 : PySem.W.nsIn K mainGlobals "LONGEST_WORD" = some (some (.int 8 tk3)))
    (av4 : PySem.W.nsIn K mainGlobals "LETTERS" = some (some (.str abc tk4)))
    (atT : PySem.W.nsIn K mainGlobals "TITLES" = some (some (.ref tT)))
    (ltT : K.lookup tT = some ⟨.type "tuple", none, .seq #[.str "signs" u0, .str "moods" u1, .str "good" u2] nT, slT⟩)
    (pg : PySem.W.plainGet K CU Str.empty = true)
    (hd : PySem.W.hasDictIn K CU = true)
    (po : PySem.W.plainOver K CU = true)
    (sa : PySem.W.findIn K (.ref CU) "__setattr__" = some (some (.builtin "object.__setattr__")))
    (mk : PySem.W.makesIn K CU = true)
    (kc : PySem.W.keepIn K (.ref CU) = true)
    (nf0 : PySem.W.findIn K (.ref CU) "written" = some none)
    (nf1 : PySem.W.findIn K (.ref CU) "letters" = some none)
    (nf2 : PySem.W.findIn K (.ref CU) "words" = some none)
    (nf3 : PySem.W.findIn K (.ref CU) "chosen" = some none)
    (nf4 : PySem.W.findIn K (.ref CU) "goals" = some none)
    (lcR : K.lookup cR = some ⟨ocR, odR, .fields vsR, slR⟩)
    (p11 : vsR[11]? = some (.ref PR))
    (lcW : K.lookup cW = some ⟨ocW, odW, .fields vsW, slW⟩)
    (q11 : vsW[11]? = some (.ref PTW))
    (npp : decide (PR = PTW) = false)
    (hch0 : chk K C0 0 [C0, C1, C2, C3, C4, C5, C6, C7, C8, C9, C10] [B0, B1, B2] = true) (hcf : chkF K = true) :
    ∃ fd : FuncData, (∀ (s : Shared) (v : Value), BindsTo s fd ⟨[v], []⟩ [("_law_script", v)]) ∧ ∀ base : Heap, K.In base → base.Ns mainGlobals mg → (∀ q ∈ [(cR, PR), (cW, PTW)], TabB base mg q.1 q.2) → FnG l.prog w K mg base CX0 10 fa fd ["_law_script"] (spLaw K (tabsOf [(cR, PR), (cW, PTW)])) := by
  have e := hfa.symm.trans (PySem.W.mg_of X G agll)
  cases e
  have fr := fun {x : Str} (hx : x ∈ frees) => free_of X G hcf hx
  obtain ⟨E0, X0, y0⟩ := chk_of (by decide) hch0
  have mcC0 := PySem.W.mg_of X G acC0
  have mcC1 := PySem.W.mg_of X G acC1
  have mcC2 := PySem.W.mg_of X G acC2
  have mcC3 := PySem.W.mg_of X G acC3
  have mcC4 := PySem.W.mg_of X G acC4
  have mcC5 := PySem.W.mg_of X G acC5
  have mcC6 := PySem.W.mg_of X G acC6
  have mcC7 := PySem.W.mg_of X G acC7
  have mcC8 := PySem.W.mg_of X G acC8
  have mcC9 := PySem.W.mg_of X G acC9
  have mcC10 := PySem.W.mg_of X G acC10
  have mcB0 := PySem.W.mg_of X G acB0
  have mcB1 := PySem.W.mg_of X G acB1
  have mcB2 := PySem.W.mg_of X G acB2
  have mcCU := PySem.W.mg_of X G acCU
  have Fva := fun_mk (st := (inClass (top 3) 0)) lgva cgva kgva
  have bva := Fva.binds (ps := ["self", "given"]) fun _ _ _ _ _ _ us hl => match us, hl with | [_, _], _ => rfl
  have Fol := fun_mk (st := sMade) lgol cgol kgol
  have bol := Fol.binds (ps := ["text", "letters"]) fun _ _ _ _ _ _ us hl => match us, hl with | [_, _], _ => rfl
  have mol := PySem.W.mg_of X G agol
  have Fiw := fun_mk (st := sWord) lgiw cgiw kgiw
  have biw := Fiw.binds (ps := ["text"]) fun _ _ _ _ _ _ us hl => match us, hl with | [_], _ => rfl
  have miw := PySem.W.mg_of X G agiw
  have Fas := fun_mk (st := sSigns) lgas cgas kgas
  have bas := Fas.binds (ps := ["words"]) fun _ _ _ _ _ _ us hl => match us, hl with | [_], _ => rfl
  have mas := PySem.W.mg_of X G agas
  have Fam := fun_mk (st := sMoods) lgam cgam kgam
  have bam := Fam.binds (ps := ["words"]) fun _ _ _ _ _ _ us hl => match us, hl with | [_], _ => rfl
  have mam := PySem.W.mg_of X G agam
  have Fag := fun_mk (st := sGood) lgag cgag kgag
  have bag := Fag.binds (ps := ["words", "moods"]) fun _ _ _ _ _ _ us hl => match us, hl with | [_, _], _ => rfl
  have mag := PySem.W.mg_of X G agag
  have Frg := fun_mk (st := sGoals) lgrg cgrg kgrg
  have brg := Frg.binds (ps := ["signs", "moods", "rows"]) fun _ _ _ _ _ _ us hl => match us, hl with | [_, _, _], _ => rfl
  have mrg := PySem.W.mg_of X G agrg
  have Frr := fun_mk (st := sRead) lgrr cgrr kgrr
  have brr := Frr.binds (ps := ["text"]) fun _ _ _ _ _ _ us hl => match us, hl with | [_], _ => rfl
  have mrr := PySem.W.mg_of X G agrr
  have Flw := fun_mk (st := sWell) lglw cglw kglw
  have blw := Flw.binds (ps := ["_law_script", "_law_turn"]) fun _ _ _ _ _ _ us hl => match us, hl with | [_, _], _ => rfl
  have mlw := PySem.W.mg_of X G aglw
  have Fld := fun_mk (st := sDip) lgld cgld kgld
  have bld := Fld.binds (ps := ["_law_well_here", "_law_size"]) fun _ _ _ _ _ _ us hl => match us, hl with | [_, _], _ => rfl
  have mld := PySem.W.mg_of X G agld
  have Flp := fun_mk (st := sPick) lglp cglp kglp
  have blp := Flp.binds (ps := ["_law_well_here", "_law_menu"]) fun _ _ _ _ _ _ us hl => match us, hl with | [_, _], _ => rfl
  have mlp := PySem.W.mg_of X G aglp
  have Flt := fun_mk (st := sTerms) lglt cglt kglt
  have blt := Flt.binds (ps := ["_law_well_here", "_law_size"]) fun _ _ _ _ _ _ us hl => match us, hl with | [_, _], _ => rfl
  have mlt := PySem.W.mg_of X G aglt
  have Fls := fun_mk (st := sSketch) lgls cgls kgls
  have bls := Fls.binds (ps := ["_law_well_here", "_law_most_signs", "_law_most_moods"]) fun _ _ _ _ _ _ us hl => match us, hl with | [_, _, _], _ => rfl
  have mls := PySem.W.mg_of X G agls
  have Flx := fun_mk (st := sText) lglx cglx kglx
  have blx := Flx.binds (ps := ["_law_sketch_here"]) fun _ _ _ _ _ _ us hl => match us, hl with | [_], _ => rfl
  have mlx := PySem.W.mg_of X G aglx
  have Fle := fun_mk (st := sWd) lgle cgle kgle
  have ble := Fle.binds (ps := ["_law_measure"]) fun _ _ _ _ _ _ us hl => match us, hl with | [_], _ => rfl
  have mle := PySem.W.mg_of X G agle
  have Flo := fun_mk (st := sOdd) lglo cglo kglo
  have blo := Flo.binds (ps := ["_law_well_here"]) fun _ _ _ _ _ _ us hl => match us, hl with | [_], _ => rfl
  have mlo := PySem.W.mg_of X G aglo
  have Flr := fun_mk (st := sError) lglr cglr kglr
  have blr := Flr.binds (ps := ["_law_act"]) fun _ _ _ _ _ _ us hl => match us, hl with | [_], _ => rfl
  have mlr := PySem.W.mg_of X G aglr
  have Flc := fun_mk (st := sClass) lglc cglc kglc
  have blc := Flc.binds (ps := ["_law_e"]) fun _ _ _ _ _ _ us hl => match us, hl with | [_], _ => rfl
  have mlc := PySem.W.mg_of X G aglc
  have Fli := fun_mk (st := sField) lgli cgli kgli
  have bli := Fli.binds (ps := ["_law_e"]) fun _ _ _ _ _ _ us hl => match us, hl with | [_], _ => rfl
  have mli := PySem.W.mg_of X G agli
  have Flm := fun_mk (st := sTerm) lglm cglm kglm
  have blm := Flm.binds (ps := ["_law_word_here"]) fun _ _ _ _ _ _ us hl => match us, hl with | [_], _ => rfl
  have mlm := PySem.W.mg_of X G aglm
  have Flf := fun_mk (st := sFits) lglf cglf kglf
  have blf := Flf.binds (ps := ["_law_sheet"]) fun _ _ _ _ _ _ us hl => match us, hl with | [_], _ => rfl
  have mlf := PySem.W.mg_of X G aglf
  have Flb := fun_mk (st := sBent) lglb cglb kglb
  have blb := Flb.binds (ps := ["_law_well_here", "_law_sheet"]) fun _ _ _ _ _ _ us hl => match us, hl with | [_, _], _ => rfl
  have mlb := PySem.W.mg_of X G aglb
  have Flg := fun_mk (st := sRight) lglg cglg kglg
  have blg := Flg.binds (ps := ["_law_well_here"]) fun _ _ _ _ _ _ us hl => match us, hl with | [_], _ => rfl
  have mlg := PySem.W.mg_of X G aglg
  have Fll := fun_mk (st := sLaw) lgll cgll kgll
  have bll := Fll.binds (ps := ["_law_script"]) fun _ _ _ _ _ _ us hl => match us, hl with | [_], _ => rfl
  have mll := PySem.W.mg_of X G agll
  have Fri := fun_mk (st := sInit) lgri cgri kgri
  have bri := Fri.binds (ps := ["self", "text"]) fun _ _ _ _ _ _ us hl => match us, hl with | [_, _], _ => rfl
  have Fpt := fun_mk (st := (inClass sRule 1)) lgpt cgpt kgpt
  have bpt := Fpt.binds (ps := ["self"]) fun _ _ _ _ _ _ us hl => match us, hl with | [_], _ => rfl
  have v0 := PySem.W.mg_of X G av0
  have v1 := PySem.W.mg_of X G av1
  have v3 := PySem.W.mg_of X G av3
  have v4 := PySem.W.mg_of X G av4
  refine ⟨PySem.W.fnOf "law" "law" (defArgs sLaw) (defBody sLaw) (defScope sLaw) .none kVll dcll pmll anll (.ref cW) ctll, fun s v => .of_eq rfl, fun base _ _ hTB => ?_⟩
  have TBR : TabB base mg cR PR := hTB (cR, PR) (List.mem_cons_self ..)
  have TBW : TabB base mg cW PTW := hTB (cW, PTW) (List.mem_cons_of_mem _ (List.mem_cons_self ..))
  have ne := of_decide_eq_false npp
  have uR : ∀ q ∈ tabsOf [(cR, PR), (cW, PTW)], q.1 = PR → q.2 = qR := fun q hq e => by
    have hq' : q ∈ [(PR, qR), (PTW, qW)] := hq
    simp only [List.mem_cons, List.not_mem_nil, or_false] at hq'
    rcases hq' with rfl | rfl
    · rfl
    · exact absurd e.symm ne
  have uW : ∀ q ∈ tabsOf [(cR, PR), (cW, PTW)], q.1 = PTW → q.2 = qW := fun q hq e => by
    have hq' : q ∈ [(PR, qR), (PTW, qW)] := hq
    simp only [List.mem_cons, List.not_mem_nil, or_false] at hq'
    rcases hq' with rfl | rfl
    · exact absurd e ne
    · rfl
  have T : RuC K CU := ⟨⟨pg, hd, po, sa⟩, nf0, nf1, nf2, nf3, nf4⟩
  have hOl : Hv l.prog w K mg base 1 "made_of" ["text", "letters"] spMade := ⟨_, _, ok_made Fol (fr (by decide)), bol, mol, kgol⟩
  have hIw : Hv l.prog w K mg base 2 "is_word" ["text"] spWord := ⟨_, _, ok_word Fiw hOl (fr (by decide)) v3 v4, biw, miw, kgiw⟩
  have hAs : Hv l.prog w K mg base 2 "are_signs" ["words"] (spSigns K) := ⟨_, _, ok_signs Fas hOl v4 (fr (by decide)) (fr (by decide)) (fr (by decide)) v0, bas, mas, kgas⟩
  have hAm : Hv l.prog w K mg base 3 "are_moods" ["words"] (spMoods K) := ⟨_, _, ok_moods Fam hIw (fr (by decide)) (fr (by decide)) (fr (by decide)) v1, bam, mam, kgam⟩
  have hAg : Hv l.prog w K mg base 1 "are_good" ["words", "moods"] (spGood K) := ⟨_, _, ok_good Fag, bag, mag, kgag⟩
  have hRg : Hv l.prog w K mg base 1 "read_goals" ["signs", "moods", "rows"] spGoals := ⟨_, _, ok_goals Frg (fr (by decide)) (fr (by decide)), brg, mrg, kgrg⟩
  have kT : ∀ H, SqT K H tT (titles.map V.str) := fun H => .inr ⟨_, _, _, ltT, rfl, rfl, by show 3 ≤ sizeLine; decide, .cons ⟨_, rfl⟩ (.cons ⟨_, rfl⟩ (.cons ⟨_, rfl⟩ .nil))⟩
  have hRr : Hv l.prog w K mg base 4 "read_rule" ["text"] spRead := ⟨_, _, ok_read Frr hAs hAm hAg hRg (PySem.W.mg_of X G atT) kT (fr (by decide)) (fr (by decide)), brr, mrr, kgrr⟩
  have Z0 : RzC l.prog w K mg base "InvalidText" C0 := ⟨mk_c0 Fva X0 E0.no mcC0 amva tva, X0.toExcC.hs, y0⟩
  have GI := ok_init (P := l.prog) (w := w) (base := base) Fri T hRr (fr (by decide)) (fr (by decide))
  have GIB := ok_initB (P := l.prog) (w := w) (base := base) Fri T Z0 hRr (fr (by decide)) (fr (by decide))
  have MI : Mk K CU gri := ⟨mk, amri, airi, kc⟩
  have PP : PropOf K CU "text" pT gpt := ⟨atp, gtp, ttp, _, rtp⟩
  have scT : FnScope ["self"] ["self"] (defScope (inClass sRule 1)) := ⟨rfl, rfl, rfl, by decide +kernel, rfl, by decide +kernel, by decide +kernel⟩
  have GP : FnOk l.prog w K mg base CX0 1 gpt _ ["self"] (getSp CU "written") := fn_getter lgpt cgpt scT rfl rfl T.cl nf0
  have hDp : Hv l.prog w K mg base 1 "_law_dip" ["_law_well_here", "_law_size"] spDip := ⟨_, _, ok_dip Fld (fr (by decide)), bld, mld, kgld⟩
  have hPl : Hv l.prog w K mg base 2 "_law_pick" ["_law_well_here", "_law_menu"] spPickL := ⟨_, _, ok_pickL Flp hDp (fr (by decide)), blp, mlp, kglp⟩
  have hPs : Hv l.prog w K mg base 2 "_law_pick" ["_law_well_here", "_law_menu"] spPickS := ⟨_, _, ok_pickS Flp hDp (fr (by decide)), blp, mlp, kglp⟩
  have hTe : Hv l.prog w K mg base 3 "_law_terms" ["_law_well_here", "_law_size"] spTerms := ⟨_, _, ok_terms Flt hDp hPl (fr (by decide)) (fr (by decide)), blt, mlt, kglt⟩
  have hTm : Hv l.prog w K mg base 1 "_law_is_term" ["_law_word_here"] spTerm := ⟨_, _, ok_term Flm (fr (by decide)), blm, mlm, kglm⟩
  have hOd : Hv l.prog w K mg base 2 "_law_odd" ["_law_well_here"] (spOdd K) := ⟨_, _, ok_odd Flo (ok_dip Fld (fr (by decide))) bld mld kgld (fr (by decide)), blo, mlo, kglo⟩
  have R : Rt l.prog w K mg base CU C0 (fun j => ([C0, C1, C2, C3, C4, C5, C6, C7, C8, C9, C10] : List Addr).getD j 0) B0 B1 B2 := {
    mkr := ⟨_, _, MI, GIB, bri, ⟨fun s us ws _ hu hw => match us, ws, hu, hw with | [_], [_], _, _ => .of_eq rfl, fun r q => r.append q⟩, mcCU⟩
    pr := ⟨pT, gpt, _, PP, GP, bpt⟩
    cl := T.cl
    bt := ⟨_, _, ok_bent Flb hDp hPl hPs hOd (fr (by decide)), blb, mlb, kglb⟩
    tx := ⟨_, _, ok_text Flx, blx, mlx, kglx⟩
    sk := ⟨_, _, ok_sketch Fls hDp hPl hTe (fr (by decide)) (fr (by decide)), bls, mls, kgls⟩
    ft := ⟨_, _, ok_fits Flf hTm (fr (by decide)) (fr (by decide)) (fr (by decide)) (fr (by decide)) (fr (by decide)) (fr (by decide)) (fr (by decide)), blf, mlf, kglf⟩
    eI := E0
    hC := ⟨_, _, Flc, blc, mlc⟩
    hF := ⟨_, _, Fli, bli, mli⟩
    gc := fun j hj => match j, hj with
      | 0, _ => mcC0
      | 1, _ => mcC1
      | 2, _ => mcC2
      | 3, _ => mcC3
      | 4, _ => mcC4
      | 5, _ => mcC5
      | 6, _ => mcC6
      | 7, _ => mcC7
      | 8, _ => mcC8
      | 9, _ => mcC9
      | 10, _ => mcC10
      | n + 11, h => absurd h (by omega)
    g1 := mcB0
    g2 := mcB1
    g3 := mcB2
    hIs := fr (by decide)
    hL := fr (by decide)
    hVE := fr (by decide)
    hLE := fr (by decide)
    hAE := fr (by decide)
    hRe := fr (by decide)
    hRa := fr (by decide)
    er := ⟨glr, oclr, odlr, kVlr, dclr, pmlr, anlr, cdlr, ctlr, sllr, mlr, kglr, lglr, cglr, blr⟩ }
  have GR := ok_right (T := tabsOf [(cR, PR), (cW, PTW)]) lglg cglg TBR (List.mem_cons_self ..) uR R
  have GW := ok_well (P := l.prog) (w := w) (mg := mg) (base := base) Flw (fr (by decide)) (fr (by decide)) (fr (by decide))
  have hWd : Hv l.prog w K mg base 1 "_law_word" ["_law_measure"] spWd := ⟨_, _, ok_wd Fle (fr (by decide)), ble, mle, kgle⟩
  exact ok_law (T := tabsOf [(cR, PR), (cW, PTW)]) lgll cgll TBW (List.mem_cons_of_mem _ (List.mem_cons_self ..)) uW R MI GI bri mcCU hWd (fr (by decide)) (fr (by decide)) (fr (by decide)) (fr (by decide)) GW blw mlw kglw GR blg mlg kglg
end
end My
open PySem PySem.W PyProof.Rows
set_option maxRecDepth 100000 in
set_option maxHeartbeats 0 in
theorem PySem.Challenge.cw_shortlooks_k03_texts_refused_holds : PySem.Challenge.rw_shortlooks_k03_texts_refused.Holds := by
  w_on; o_law; k_head; (case hw => w_witness2)
  k_fill
  refine' L2.walk_GT (l := PySem.Challenge.rw_shortlooks_k03_texts_refused) (n := 63) (k := 10) (x := "_law_script") (ts := [(_, _), (_, _)]) (sp := fun K ts => My.spLaw K (My.tabsOf ts)) rfl (by decide) rfl ⟨rfl, by decide, by decide⟩ (fun w h Y => PySem.W.km_in_of Y) ?Y ?F (fun _ _ a ns hl hT hS => ⟨a, ns, rfl, hS, hl, My.tabs_start hT, fun _ => rfl⟩)
  case F =>
    intro w mg fa h KX G hmg
    refine' My.all_mk KX G hmg ?acC0 ?acC1 ?acC2 ?acC3 ?acC4 ?acC5 ?acC6 ?acC7 ?acC8 ?acC9 ?acC10 ?acB0 ?acB1 ?acB2 ?acCU ?amva ?aiva ?lgva ?cgva ?kgva ?tva ?agol ?lgol ?cgol ?kgol ?agiw ?lgiw ?cgiw ?kgiw ?agas ?lgas ?cgas ?kgas ?agam ?lgam ?cgam ?kgam ?agag ?lgag ?cgag ?kgag ?agrg ?lgrg ?cgrg ?kgrg ?agrr ?lgrr ?cgrr ?kgrr ?aglw ?lglw ?cglw ?kglw ?agld ?lgld ?cgld ?kgld ?aglp ?lglp ?cglp ?kglp ?aglt ?lglt ?cglt ?kglt ?agls ?lgls ?cgls ?kgls ?aglx ?lglx ?cglx ?kglx ?agle ?lgle ?cgle ?kgle ?aglo ?lglo ?cglo ?kglo ?aglr ?lglr ?cglr ?kglr ?aglc ?lglc ?cglc ?kglc ?agli ?lgli ?cgli ?kgli ?aglm ?lglm ?cglm ?kglm ?aglf ?lglf ?cglf ?kglf ?aglb ?lglb ?cglb ?kglb ?aglg ?lglg ?cglg ?kglg ?agll ?lgll ?cgll ?kgll ?amri ?airi ?lgri ?cgri ?kgri ?atp ?gtp ?ttp ?rtp ?lgpt ?cgpt ?kgpt ?av0 ?av1 ?av3 ?av4 ?atT ?ltT ?pg ?hd ?po ?sa ?mk ?kc ?nf0 ?nf1 ?nf2 ?nf3 ?nf4 ?lcR ?p11 ?lcW ?q11 ?npp ?hch0 ?hcf
    (case acC0 => k_is)
    (case acC1 => k_is)
    (case acC2 => k_is)
    (case acC3 => k_is)
    (case acC4 => k_is)
    (case acC5 => k_is)
    (case acC6 => k_is)
    (case acC7 => k_is)
    (case acC8 => k_is)
    (case acC9 => k_is)
    (case acC10 => k_is)
    (case acB0 => k_is)
    (case acB1 => k_is)
    (case acB2 => k_is)
    (case acCU => k_is)
    (case amva => k_is)
    (case aiva => k_is)
    (case lgva => k_is)
    (case cgva => k_is)
    (case kgva => k_is)
    (case tva => k_is)
    (case agol => k_is)
    (case lgol => k_is)
    (case cgol => k_is)
    (case kgol => k_is)
    (case agiw => k_is)
    (case lgiw => k_is)
    (case cgiw => k_is)
    (case kgiw => k_is)
    (case agas => k_is)
    (case lgas => k_is)
    (case cgas => k_is)
    (case kgas => k_is)
    (case agam => k_is)
    (case lgam => k_is)
    (case cgam => k_is)
    (case kgam => k_is)
    (case agag => k_is)
    (case lgag => k_is)
    (case cgag => k_is)
    (case kgag => k_is)
    (case agrg => k_is)
    (case lgrg => k_is)
    (case cgrg => k_is)
    (case kgrg => k_is)
    (case agrr => k_is)
    (case lgrr => k_is)
    (case cgrr => k_is)
    (case kgrr => k_is)
    (case aglw => k_is)
    (case lglw => k_is)
    (case cglw => k_is)
    (case kglw => k_is)
    (case agld => k_is)
    (case lgld => k_is)
    (case cgld => k_is)
    (case kgld => k_is)
    (case aglp => k_is)
    (case lglp => k_is)
    (case cglp => k_is)
    (case kglp => k_is)
    (case aglt => k_is)
    (case lglt => k_is)
    (case cglt => k_is)
    (case kglt => k_is)
    (case agls => k_is)
    (case lgls => k_is)
    (case cgls => k_is)
    (case kgls => k_is)
    (case aglx => k_is)
    (case lglx => k_is)
    (case cglx => k_is)
    (case kglx => k_is)
    (case agle => k_is)
    (case lgle => k_is)
    (case cgle => k_is)
    (case kgle => k_is)
    (case aglo => k_is)
    (case lglo => k_is)
    (case cglo => k_is)
    (case kglo => k_is)
    (case aglr => k_is)
    (case lglr => k_is)
    (case cglr => k_is)
    (case kglr => k_is)
    (case aglc => k_is)
    (case lglc => k_is)
    (case cglc => k_is)
    (case kglc => k_is)
    (case agli => k_is)
    (case lgli => k_is)
    (case cgli => k_is)
    (case kgli => k_is)
    (case aglm => k_is)
    (case lglm => k_is)
    (case cglm => k_is)
    (case kglm => k_is)
    (case aglf => k_is)
    (case lglf => k_is)
    (case cglf => k_is)
    (case kglf => k_is)
    (case aglb => k_is)
    (case lglb => k_is)
    (case cglb => k_is)
    (case kglb => k_is)
    (case aglg => k_is)
    (case lglg => k_is)
    (case cglg => k_is)
    (case kglg => k_is)
    (case agll => k_is)
    (case lgll => k_is)
    (case cgll => k_is)
    (case kgll => k_is)
    (case amri => k_is)
    (case airi => k_is)
    (case lgri => k_is)
    (case cgri => k_is)
    (case kgri => k_is)
    (case atp => k_is)
    (case gtp => k_is)
    (case ttp => k_is)
    (case rtp => k_is)
    (case lgpt => k_is)
    (case cgpt => k_is)
    (case kgpt => k_is)
    (case av0 => k_is)
    (case av1 => k_is)
    (case av3 => k_is)
    (case av4 => k_is)
    (case atT => k_is)
    (case ltT => k_is)
    (case pg => k_is)
    (case hd => k_is)
    (case po => k_is)
    (case sa => k_is)
    (case mk => k_is)
    (case kc => k_is)
    (case nf0 => k_is)
    (case nf1 => k_is)
    (case nf2 => k_is)
    (case nf3 => k_is)
    (case nf4 => k_is)
    (case lcR => k_is)
    (case p11 => exact rfl)
    (case lcW => k_is)
    (case q11 => exact rfl)
    (case npp => exact rfl)
    (case hch0 => kernel_rfl)
    (case hcf => kernel_rfl)
  case Y =>
    intro w h Y q hq
    simp only [List.mem_cons, List.not_mem_nil, or_false] at hq
    rcases hq with rfl | rfl
    · exact ⟨PySem.W.km_tabs_of Y _ (by repeat first | exact List.Mem.head _ | apply List.Mem.tail), by kernel_rfl, PySem.W.codeHd_of_K (PySem.W.km_in_of Y) (by kernel_rfl)⟩
    · exact ⟨PySem.W.km_tabs_of Y _ (by repeat first | exact List.Mem.head _ | apply List.Mem.tail), by kernel_rfl, PySem.W.codeHd_of_K (PySem.W.km_in_of Y) (by kernel_rfl)⟩
