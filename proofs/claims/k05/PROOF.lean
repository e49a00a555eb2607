import PyProof.Rows.All
import Wide.All
import OpenK.AllK
import Wide.FinOn
import PyProof.EqAt
import PyProof.EqKinds
import PyProof.TupleCall
import KE.KFromBytes
import HandS.ForMost
import HandS.Exc
import HandS.ExcInit
import HandS.ExcIs
import HandS.IsInst
import HandS.ExcOwn
import HandS.ExcValue
import HandS.Defaults
import HandS.Set
import HandS.Strs
import PyProof.Rows.SetFrom
import PyProof.StrWalks
import PyProof.Rows.SortStr
import PyProof.Rows.SortShellAny
import PyProof.SetRoads
import HandS.DictComp
import HandS.Walk
import HandS.NoneIn
import HandS.Flow
import HandS.FStr
import HandS.Star
import HandS.Property
import KE.KCallOwn
import HandS.RaiseMore
import PyProof.Rows.StrCountLaw
import PyProof.P3Eq
import PySem.Challenge.RW_shortlooks_k05_sample_rules
set_option Elab.async false
set_option linter.all false
set_option maxRecDepth 100000
set_option maxHeartbeats 8000000
namespace PySem
namespace GX
open PySem.W PySem.Calls PyProof.Rows PySem.HandSPX
open Builtin Builtin.ObjectAttr

section
variable {M : Model} {Ar : Around} {Er : Value → Shared → Prop} {hh : Heap} {gg : Array GenState} {dd : Drawn} {tt : Nat} {oo : OsState}
variable {n1 n2 : Str} {C N : Addr} {b1 b2 b3 : List Value} {hx : Bool} {l1 : List Str} {l2 : List Value} {ab : Bool} {cl : Option Bool} {da : Option Addr} {m0 m1 m2 m3 m5 : Option Value} {B nid iid : String}

theorem chkNew (F : ExcBaseFacts B nid iid b3) (hT : ∀ Y : String, b2.contains (.type Y) = b3.contains (.type Y)) {rs : List Value} {kw : List (Str × Value)} {Q : Unit → Shared → Prop}
    (hC : hh.get? C = some (excClassObj n1 n2 C N b1 b2 hx l1 l2 ab cl da m0 m1 m2 m3 m5 nid))
    (hq : Q () ⟨hh, gg, dd, tt, oo⟩) :
    wpAny M Ar (checkBuiltinCall nid ⟨.ref C :: rs, kw⟩) Q Er ⟨hh, gg, dd, tt, oo⟩ := by
  have c1 : (Value.ref C :: b2).contains (.type B) = true := by
    rw [List.contains_cons, hT, F.hasB, Bool.or_true]
  have c2 := F.noStar
  simp only [checkBuiltinCall, F.newKind, F.newSplit, F.newRow]
  repeat (first
    | refine wpAny_loadPart_at hC ?_
    | (refine wpAny_isSubtype_exc hC ?_; rw [c1])
    | refine wpAny_staticBase_exc hC ?_
    | refine wpAny_madeBy_exc hC ?_
    | simp only [bne_self_eq_false, Bool.false_eq_true, if_false]
    | wp_step)
  exact hq
end
section
variable {pr : Program} {wd : World} {Ar : Around} {Er : Value → Shared → Prop} {Rr : Result → Shared → Prop} {hh : Heap} {gg : Array GenState} {dd : Drawn} {tt : Nat} {oo : OsState}
variable {n1 n2 : Str} {C N : Addr} {b1 b2 b3 : List Value} {hx : Bool} {l1 : List Str} {l2 : List Value} {ab : Bool} {cl : Option Bool} {da : Option Addr} {m0 m1 m2 m3 m5 : Option Value} {B nid iid : String}

theorem newK (F : ExcBaseFacts B nid iid b3) (hT : ∀ Y : String, b2.contains (.type Y) = b3.contains (.type Y)) {rs : List Value} {kw : List (Str × Value)}
    (hC : hh.get? C = some (excClassObj n1 n2 C N b1 b2 hx l1 l2 ab cl da m0 m1 m2 m3 m5 nid))
    (hq : Rr (.ok (.ret (.ref (hh.objs.size + 1)))) ⟨(hh.push (W.kdv_tup rs)).push (excO C hh.objs.size), gg, dd, tt, oo⟩)
    (hrs : rs.length ≤ sizeLine) :
    codeAny (model pr wd) Ar (.builtin nid ⟨.ref C :: rs, kw⟩) Rr ⟨hh, gg, dd, tt, oo⟩ := by
  have c0 := F.ends
  have cB : (Value.ref C :: b2).contains (.type B) = true := by
    rw [List.contains_cons, hT, F.hasB, Bool.or_true]
  have cA : (Value.ref C :: b2).contains (.type "AttributeError") = false := by
    rw [List.contains_cons, hT, F.noAttr]; rfl
  have cN : (Value.ref C :: b2).contains (.type "NameError") = false := by
    rw [List.contains_cons, hT, F.noName]; rfl
  refine codeAny_builtinAt F.entry ?_
  unfold Builtin.«BaseException.__new__»
  refine wpAt_bind ?_
  show wpAt _ _ _ (stack >>= _) _ _ _
  refine wpAt_bind (wpAt_stack fun p below => wpAt_of_wpAny ?_)
  wp_walk
  refine wpAt_of_wpAny ?_
  rw [F.owner]
  repeat (first
    | with_reducible refine wpAny_madeHere_exc F.canon hC ?_
    | with_reducible refine wpAny_loadPart_at hC ?_
    | (with_reducible refine wpAny_isSubtype_exc hC ?_; first | rw [cB] | rw [cA] | rw [cN])
    | wp_step)
  show Rr _ _
  rw [Heap.size_push]
  exact hq
end
end GX
end PySem
namespace PySem
namespace GX
open PySem.W PySem.Calls PyProof.Rows PySem.HandSPX
open Builtin Builtin.ObjectAttr
section
variable {M : Model} {Ar : Around} {Er : Value → Shared → Prop} {hh : Heap} {gg : Array GenState} {dd : Drawn} {tt : Nat} {oo : OsState}
variable {n1 n2 : Str} {C N : Addr} {b1 b2 b3 : List Value} {hx : Bool} {l1 : List Str} {l2 : List Value} {ab : Bool} {cl : Option Bool} {da : Option Addr} {m0 m1 m2 m3 m5 : Option Value} {B nid iid : String}
theorem chkCall {rs : List Value} {kw : List (Str × Value)} {Q : Unit → Shared → Prop}
    (hC : hh.get? C = some (excClassObj n1 n2 C N b1 b2 hx l1 l2 ab cl da m0 m1 m2 m3 m5 nid))
    (hq : Q () ⟨hh, gg, dd, tt, oo⟩) :
    wpAny M Ar (checkBuiltinCall "type.__call__" ⟨.ref C :: rs, kw⟩) Q Er ⟨hh, gg, dd, tt, oo⟩ := by
  have z3 := tc_sub
  have zT : (⟨hh, gg, dd, tt, oo⟩ : Shared).TypeIs (.ref C) "type" := ⟨_, hC, rfl⟩
  simp only [checkBuiltinCall, tc_kind, tc_split]
  repeat (any_goals (first
    | assumption
    | with_reducible refine wpAny_loadPart_at hC ?_
    | with_reducible refine wpAny_onRaise ?_
    | with_reducible refine wpAny_map ?_
    | wp_step))
end
section
variable {pr : Program} {wd : World} {Ar : Around} {Er : Value → Shared → Prop} {Rr : Result → Shared → Prop} {hh : Heap} {gg : Array GenState} {dd : Drawn} {tt : Nat} {oo : OsState}
variable {n1 n2 : Str} {C N : Addr} {b1 b2 b3 : List Value} {hx : Bool} {l1 : List Str} {l2 : List Value} {ab : Bool} {cl : Option Bool} {da : Option Addr} {m0 m1 m2 m3 m5 : Option Value} {B nid iid : String}

theorem typeK (F : ExcBaseFacts B nid iid b3) (hT : ∀ Y : String, b2.contains (.type Y) = b3.contains (.type Y)) {rs : List Value} {kw : List (Str × Value)} {fI : Addr} {Q : Fin → Shared → Prop}
    (hC : hh.get? C = some (excClassObj n1 n2 C N b1 b2 hx l1 l2 ab cl da m0 m1 m2 m3 m5 nid))
    (hi : W.Looks (model pr wd) hh (typeLookup (.ref C) "__init__") (some (.ref fI)))
    (hb : ∀ self, W.Looks (model pr wd) hh (bindSpecial (.ref fI) self) (.ref fI, [self]))
    (hrs : rs.length ≤ sizeLine)
    (hq : codeAny (model pr wd) Ar (.call (.ref fI) ⟨.ref (hh.objs.size + 1) :: rs, kw⟩)
      (fun r s' => match r with
        | .ok (.ret v) => v = .none ∧ Q (.done (.ret (.ref (hh.objs.size + 1)))) s'
        | .ok _ => False
        | .error e => Er e s')
      ⟨(hh.push (W.kdv_tup rs)).push (excO C hh.objs.size), gg, dd, tt, oo⟩) :
    wpAny (model pr wd) Ar (Builtin.«type.__call__» ⟨.ref C :: rs, kw⟩) Q Er ⟨hh, gg, dd, tt, oo⟩ := by
  repeat (first
    | with_reducible refine wpAny_loadPart_at hC ?_
    | with_reducible refine wpAny_madeBy_exc hC ?_
    | wp_step)
  refine codeAny_call_builtin_code (Code.quiet_builtin _ F.quiet) (chkNew F hT hC ?_)
  refine newK F hT hC ?_ hrs
  show wpAny _ _ _ _ _ _
  have kk : ∀ b o, hh.get? b = some o → ((hh.push (W.kdv_tup rs)).push (excO C hh.objs.size)).get? b = some o :=
    fun b o e => Heap.get?_push_of_some _ (Heap.get?_push_of_some _ e)
  have hC1 := kk _ _ hC
  have hgt : ((hh.push (W.kdv_tup rs)).push (excO C hh.objs.size)).get? (hh.objs.size + 1) = some (excO C hh.objs.size) := by
    heap_get
  have cC : (Value.ref C :: b2).contains (.ref C) = true := by simp
  have j1 := hi.keeps kk
  have j2 := (hb (.ref (hh.objs.size + 1))).keeps kk
  unfold isInstance
  repeat (first
    | with_reducible refine wpAny_loadPart_at hgt ?_
    | (with_reducible refine wpAny_isSubtype_exc hC1 ?_; rw [cC])
    | wp_step)
  show wpAny _ _ (typeLookup (.ref C) _) _ _ _
  refine j1.at ?_
  refine wpAny_holding (wpAny_bind (j2.at ?_))
  refine wpAny_bind (wpAny_call (codeAny_mono hq fun r s' z => ?_))
  rcases r with e | (v | _ | _ | _) <;> first | exact z | exact z.elim | skip
  obtain ⟨rfl, z⟩ := z
  first
    | exact wpAny_pure (wpAny_pure z)
    | (wp_walk; exact z)

theorem callK (F : ExcBaseFacts B nid iid b3) (hT : ∀ Y : String, b2.contains (.type Y) = b3.contains (.type Y)) {rs : List Value} {kw : List (Str × Value)} {fI : Addr}
    (hC : hh.get? C = some (excClassObj n1 n2 C N b1 b2 hx l1 l2 ab cl da m0 m1 m2 m3 m5 nid))
    (hi : W.Looks (model pr wd) hh (typeLookup (.ref C) "__init__") (some (.ref fI)))
    (hb : ∀ self, W.Looks (model pr wd) hh (bindSpecial (.ref fI) self) (.ref fI, [self]))
    (hrs : rs.length ≤ sizeLine)
    (hq : codeAny (model pr wd) (Ar.under (.builtin "type.__call__" ⟨.ref C :: rs, kw⟩)) (.call (.ref fI) ⟨.ref (hh.objs.size + 1) :: rs, kw⟩) (W.InitBack (hh.objs.size + 1) Rr)
      ⟨(hh.push (W.kdv_tup rs)).push (excO C hh.objs.size), gg, dd, tt, oo⟩) :
    codeAny (model pr wd) Ar (.call (.ref C) ⟨rs, kw⟩) Rr ⟨hh, gg, dd, tt, oo⟩ := by
  have z1 := tc_lookup
  have z2 := tc_bind (.ref C)
  have zT : (⟨hh, gg, dd, tt, oo⟩ : Shared).TypeIs (.ref C) "type" := ⟨_, hC, rfl⟩
  refine codeAny_of_tree ?_
  show wpAny _ _ (callAny (.ref C) _) _ _ _
  repeat (any_goals (first
    | assumption
    | with_reducible refine wpAny_loadPart_at hC ?_
    | wp_step))
  refine ⟨rfl, ?_⟩
  refine codeAny_call_builtin_at (Code.quiet_builtin _ (by decide +kernel)) entry_typeCall (chkCall hC (typeK F hT hC hi hb hrs ?_))
  refine codeAny_mono hq fun r s' z => ?_
  rcases r with e | (v | _ | _ | _) <;> exact z
end
end GX
end PySem
namespace PySem
namespace GX
open PySem.W PySem.Calls PyProof.Rows PySem.HandSPX
open Builtin Builtin.ObjectAttr
/-- what an own class's mro must say for a store to an instance -/
structure MroOk (l : List Value) : Prop where
  pass : ∀ self, refuseLoop self "__setattr__" l = pure ()
  ob : l.contains (.type "object") = true
  ne : l.isEmpty = false
section
variable {pr : Program} {wd : World} {Ar : Around} {Er : Value → Shared → Prop} {Rr : Result → Shared → Prop} {hh : Heap} {gg : Array GenState} {dd : Drawn} {tt : Nat} {oo : OsState}
theorem osaN {K : W.Frag} {nm : Str} {tk : Tok} {v : Value} {x C : Addr} {fv : Array Value} {cd : ClassData}
    (X : K.In hh) (hx : hh.get? x = some { cls := .ref C, data := .fields fv }) (hcd : W.clsIn K C = some cd) (hm : MroOk cd.mro) (hd : cd.hasDict = true)
    (ha : W.findIn K (.ref C) nm = some none)
    (hq : ∀ h' tk' dx, (∀ b o, b ≠ x → hh.get? b = some o → h'.get? b = some o) → hh.objs.size ≤ dx → dx ≠ x →
      h'.get? x = some { cls := .ref C, dict := some dx, data := .fields fv } →
      h'.Ns1 dx (fun y => if y = nm then some v else none) → Rr (.ok (.ret .none)) ⟨h', gg, dd, tk', oo⟩) :
    codeAny (model pr wd) Ar (.call (.builtin "object.__setattr__") ⟨[.ref x, .str nm tk, v], []⟩) Rr ⟨hh, gg, dd, tt, oo⟩ := by
  have I : W.InstAt hh x { cls := .ref C, data := .fields fv } C none := ⟨hx, rfl, rfl, trivial⟩
  have SF := F.store_object
  have hne := hm.ne
  have hxs : x ≠ hh.objs.size := Nat.ne_of_lt (Heap.lt_size hx)
  have sub : W.Looks (model pr wd) hh (isInstance (.ref x) (.type "object")) true :=
    I.type.andThen (W.looks_mroIn X (by unfold W.mroIn; rw [hcd, Option.bind_some, if_neg (by rw [hne]; decide), hm.ob]))
  refine codeAny_call_builtin SF.slot.plain SF.entry (@W.check_slot (model pr wd) _ _ ⟨hh, gg, dd, tt, oo⟩ "object.__setattr__" "object" "__setattr__" (.ref x)
    [.str nm tk, v] [] _ SF.kind SF.split sub (SF.args (.ref x) (.str nm tk) v) ?_)
  have lm : W.Looks (model pr wd) hh (mroOf (.ref C)) cd.mro := (W.looks_clsIn X hcd).andThen .now
  have lt : W.Looks (model pr wd) hh (storeTaker? none) none := .now
  have lc : W.Looks (model pr wd) hh (classData C) cd := W.looks_clsIn X hcd
  rw [W.osa_eq, refuse_eq]
  refine wpAny_bind (wpAny_bind (I.type.at (wpAny_bind (lm.at ?_))))
  rw [hm.pass]
  refine wpAny_pure (wpAny_bind (I.type.at (wpAny_bind ((W.looks_findIn X ha).at (wpAny_bind (lt.at ?_))))))
  show wpAny _ _ (storeInOwnDict (.ref x) (.ref C) (.str nm tk) nm v false) _ _ _
  obtain ⟨c1, c2, c3, c4, c5, c6, c7, c8, c9, c10, c11⟩ := cd
  dsimp only at hd
  subst hd
  unfold storeInOwnDict ownDictForStores
  repeat (first
    | with_reducible refine store_in_new ?_ ?_
    | with_reducible refine wpAny_loadPart_at hx ?_
    | with_reducible refine lc.at ?_
    | wp_step)
  · exact ⟨_, #[], _, (Heap.get?_update_ne _ _ _ _ hxs.symm).trans (Heap.get?_push_at rfl rfl), rfl, fun e he => absurd he (by simp), fun _ => rfl⟩
  · intro h' tk' hn' hs
    have hx1 : (hh.push { cls := .type "dict", data := .dict #[] }).get? x = some { cls := .ref C, data := .fields fv } :=
      Heap.get?_push_of_some _ hx
    refine hq h' tk' hh.objs.size (fun b o hb ho => ?_) (Nat.le_refl _) hxs.symm ?_ hn'
    · exact (hs.2 b (Nat.ne_of_lt (Heap.lt_size ho))).trans ((Heap.get?_update_ne _ _ _ _ hb).trans (Heap.get?_push_of_some _ ho))
    · exact (hs.2 x hxs).trans (Heap.get?_update_self _ hx1 rfl)
theorem osaO {K : W.Frag} {nm : Str} {tk : Tok} {v : Value} {x C dx : Addr} {fv : Array Value} {cd : ClassData} {m0 : Str → Option Value} {nl : List Str}
    (X : K.In hh) (hx : hh.get? x = some { cls := .ref C, dict := some dx, data := .fields fv }) (hns : hh.Ns1 dx m0) (hw : Within m0 nl) (hz : nl.length ≤ 1000)
    (hcd : W.clsIn K C = some cd) (hm : MroOk cd.mro) (hd : cd.hasDict = true) (ha : W.findIn K (.ref C) nm = some none)
    (hq : ∀ h' tk', (∀ b o, b ≠ dx → hh.get? b = some o → h'.get? b = some o) →
      h'.Ns1 dx (fun y => if y = nm then some v else m0 y) → Rr (.ok (.ret .none)) ⟨h', gg, dd, tk', oo⟩) :
    codeAny (model pr wd) Ar (.call (.builtin "object.__setattr__") ⟨[.ref x, .str nm tk, v], []⟩) Rr ⟨hh, gg, dd, tt, oo⟩ := by
  obtain ⟨oD, esD, epD, hoD, hdD, _⟩ := hns.count hw
  have I : W.InstAt hh x { cls := .ref C, dict := some dx, data := .fields fv } C (some oD) := ⟨hx, rfl, rfl, hoD⟩
  have SF := F.store_object
  have hne := hm.ne
  have sub : W.Looks (model pr wd) hh (isInstance (.ref x) (.type "object")) true :=
    I.type.andThen (W.looks_mroIn X (by unfold W.mroIn; rw [hcd, Option.bind_some, if_neg (by rw [hne]; decide), hm.ob]))
  refine codeAny_call_builtin SF.slot.plain SF.entry (@W.check_slot (model pr wd) _ _ ⟨hh, gg, dd, tt, oo⟩ "object.__setattr__" "object" "__setattr__" (.ref x)
    [.str nm tk, v] [] _ SF.kind SF.split sub (SF.args (.ref x) (.str nm tk) v) ?_)
  have lm : W.Looks (model pr wd) hh (mroOf (.ref C)) cd.mro := (W.looks_clsIn X hcd).andThen .now
  have lt : W.Looks (model pr wd) hh (storeTaker? none) none := .now
  have lc : W.Looks (model pr wd) hh (classData C) cd := W.looks_clsIn X hcd
  rw [W.osa_eq, refuse_eq]
  refine wpAny_bind (wpAny_bind (I.type.at (wpAny_bind (lm.at ?_))))
  rw [hm.pass]
  refine wpAny_pure (wpAny_bind (I.type.at (wpAny_bind ((W.looks_findIn X ha).at (wpAny_bind (lt.at ?_))))))
  show wpAny _ _ (storeInOwnDict (.ref x) (.ref C) (.str nm tk) nm v false) _ _ _
  obtain ⟨c1, c2, c3, c4, c5, c6, c7, c8, c9, c10, c11⟩ := cd
  dsimp only at hd
  subst hd
  unfold storeInOwnDict ownDictForStores
  repeat (first
    | with_reducible refine PySem.OEX.store_in_old hns hw hz ?_
    | with_reducible refine wpAny_loadPart_at hx ?_
    | with_reducible refine lc.at ?_
    | wp_step)
  intro h' tk' hn' hs
  exact hq h' tk' (fun b o hb ho => (hs.2 b hb).trans ho) hn'
end
/-! the three built-in bases -/
abbrev tailOf (B : String) : List Value := [.type B, .type "Exception", .type "BaseException", .type "object"]
theorem pass_VE : ∀ self, refuseLoop self "__setattr__" (tailOf "ValueError") = pure () := fun self => by kernel_rfl
theorem pass_LE : ∀ self, refuseLoop self "__setattr__" (tailOf "LookupError") = pure () := fun self => by kernel_rfl
theorem pass_AE : ∀ self, refuseLoop self "__setattr__" (tailOf "ArithmeticError") = pure () := fun self => by kernel_rfl
theorem mroOk2 {B : String} {a b : Addr} (hp : ∀ self, refuseLoop self "__setattr__" (tailOf B) = pure ()) : MroOk (.ref a :: .ref b :: tailOf B) :=
  ⟨fun self => by rw [refuseLoop_ref, refuseLoop_ref]; exact hp self, by simp [List.contains_cons], rfl⟩
end GX
end PySem
namespace PySem
namespace GX
open PySem.W PySem.Calls PyProof.Rows PySem.HandSPX
section
variable {pr : Program} {wd : World} {Ar : Around} {Er : Value → Shared → Prop} {s : Shared} {K : Frag} {x D : Addr} {ox : Obj} {od : Option Obj}
theorem classG {Q : Option Value → Shared → Prop} (T : L2.ExcC K D) (X : K.In s.heap) (I : InstAt s.heap x ox D od) (h : Q (some (.ref D)) { s with toks := s.toks + 1 }) :
    wpAny (model pr wd) Ar (getAttr? (.ref x) "__class__") Q Er s := by
  have cs : (clsIn K D).isSome = true := by
    obtain ⟨cd, hc, _⟩ := any_some T.hd
    rw [hc]; rfl
  have hf : findObj K D od "__class__" = some (.bind (.builtin "getset_descriptor.__get__") (.builtin "object.__class__")) := by
    cases od with
    | none => exact findObj_dataN cs T.ha T.hn T.ht
    | some o => exact findObj_data cs T.ha T.hn T.ht
  obtain ⟨hp, g, d, t, os⟩ := s
  have y0 := I.type (M := model pr wd)
  have y1 := looks_findIn (M := model pr wd) X T.hg
  have y2 := looks_findIn (M := model pr wd) X T.hk
  have y3 := looks_find (M := model pr wd) X I hf
  have sub : Looks (model pr wd) hp (isInstance (.ref x) (.type "BaseException")) true := y0.andThen (looks_subIn X T.hs)
  have e0 : (false && onTheHeap (Value.builtin "BaseException.__getattribute__")) = false := rfl
  have e2 : (Value.builtin "BaseException.__getattribute__" == Value.builtin "object.__getattribute__") = false := by
    decide +kernel
  have e1 : (onTheHeap (Value.ref D) && Value.builtin "BaseException.__getattribute__" == Value.builtin "object.__getattribute__") = false := by
    rw [e2]; rfl
  unfold getAttr? getAttrBy? getAttrBy
  refine wpAny_bind (wpAny_mkText (wpAny_bind (wpAny_attempt (wpAny_holding (wpAny_bind (y0.at (wpAny_bind (y1.at ?_))))))))
  show wpAny _ _ (if (onTheHeap (Value.ref D) && Value.builtin "BaseException.__getattribute__" == Value.builtin "object.__getattribute__") = true then _ else _) _ _ _
  rw [e1, if_neg Bool.false_ne_true]
  unfold getAttrByItsOwn hookBefore
  refine wpAny_bind ?_
  rw [if_pos (show onTheHeap (Value.ref D) = true from rfl)]
  refine y2.at ?_
  refine wpAny_bind (wpAny_attempt (wpAny_holding ?_))
  unfold callGetattribute
  rw [e0, if_neg Bool.false_ne_true]
  unfold boundAndCalled
  rw [PySem.F.excAttr_ValueError.ga.bind (.ref x)]
  refine wpAny_bind (wpAny_pure ?_)
  show wpAny _ _ (call (.builtin "BaseException.__getattribute__") [.ref x, .str "__class__" t]) _ _ _
  refine wpAny_call (codeAny_call_builtin PySem.F.excAttr_ValueError.ga.plain PySem.F.entry_bexc_ga ?_)
  refine @check_slot (model pr wd) _ _ ⟨hp, g, d, t + 1, os⟩ "BaseException.__getattribute__" "BaseException" "__getattribute__" (.ref x)
    [.str "__class__" t] [] _ (by decide +kernel) (by decide +kernel) sub (PySem.F.args_bexc_ga (.ref x) (.str "__class__" t)) ?_
  unfold Builtin.«object.__getattribute__»
  refine wpAny_bind (wpAny_of_eq (a := ((Value.ref x : Value), [Value.str "__class__" t])) (by first | rfl | (simp only [slotArgs]; rfl)) ?_)
  refine wpAny_bind (wpAny_pure (wpAny_bind (y0.at (wpAny_bind (y3.at ?_)))))
  show wpAny _ _ (holding [Value.builtin "object.__class__"] (call (.builtin "getset_descriptor.__get__") [.builtin "object.__class__", .ref x, .ref D]) >>= ret) _ _ _
  refine wpAny_bind (wpAny_holding (wpAny_call (class_get (s := ⟨hp, g, d, t + 1, os⟩) (ox := ox) (od := od) X I T.hm ?_)))
  refine wpAny_pure ?_
  show wpAny _ _ (handedOut (.ref D)) _ _ _
  rw [handedOut_of (v := .ref D) rfl]
  first
    | exact wpAny_pure (wpAny_pure h)
    | exact wpAny_pure h
    | exact wpAny_pure (wpAny_bind (wpAny_pure (wpAny_pure h)))
theorem kitG (T : L2.ExcC K D) : KitX K (.ref x) (.ref D) (fun h => InstAt h x ox D od) where
  ty := fun _ _ _ I => I.type
  it := fun _ _ X _ => by
    obtain ⟨cdD, hcD, _⟩ := any_some T.hd
    unfold clsIn at hcD
    split at hcD
    · rename_i c' d' cd' sl' ho
      intro A' Q' E' s' k q
      unfold isType loadHead
      exact wpAny_bind (wpAny_loadPart (k _ _ (X _ _ ho)) (wpAny_pure q))
    · cases hcD
  ne := fun h tp dd its n sl X htp => by
    obtain ⟨cdD, hcD, _⟩ := any_some T.hd
    refine Bool.eq_false_iff.mpr fun q => ?_
    have e : D = tp := Value.ref.inj (beq_iff_eq.mp q)
    subst e
    unfold clsIn at hcD
    split at hcD
    · rename_i c' d' cd' sl' ho
      have z := (X _ _ ho).symm.trans htp
      cases z
    · cases hcD
  ca := fun X I k => classG T X I k
end
end GX
end PySem
namespace L2
open PySem PySem.Spec PyProof.Rows PySem.GX
/-- what the written part says of an own exception class at C over a built-in base -/
structure ExG (K : PySem.W.Frag) (C : Addr) : Prop extends ExcC K C where
  cls : ∃ (B nid iid : String) (b3 : List Value) (nm q : Str) (N : Addr) (bs bm : List Value) (sn : List Str) (sub : List Value) (ab : Bool) (col : Option Bool) (dd : Option Addr) (k0 k1 k2 k3 k5 : Option Value),
    ExcBaseFacts B nid iid b3 ∧ (∀ Y : String, bm.contains (.type Y) = b3.contains (.type Y)) ∧ MroOk (.ref C :: bm) ∧
    K.lookup C = some (excClassObj nm q C N bs bm true sn sub ab col dd k0 k1 k2 k3 k5 nid)
  sa : PySem.W.findIn K (.ref C) "__setattr__" = some (some (.builtin "object.__setattr__"))
  kC : PySem.W.keepIn K (.ref C) = true
/-- an exception at a of the class at C with the fields fs (its dict at d) -/
structure ExAt (H : Hp) (a C d : Addr) (fs : List (Str × V)) : Prop where
  ob : H a = some (exo a C (some d))
  di : H d = some (exd d fs)
section
variable {X : Cx} {pins : List (Addr × Obj)} {σ : St} {H : Hp} {s : Shared} {a C d : Addr} {fs : List (Str × V)}
/-- as the library's looks at an instance want it -/
theorem inst_ex {od : Option Addr} (I : Inv X pins σ H s) (e : H a = some (exo a C od)) (hd : ∀ dx, od = some dx → ∃ fs, H dx = some (exd dx fs)) :
    ∃ (ox : Obj) (o : Option Obj), PySem.W.InstAt s.heap a ox C o := by
  obtain ⟨t1, ho⟩ := exo_at I.hok e
  cases od with
  | none => exact ⟨_, none, ⟨ho, rfl, rfl, trivial⟩⟩
  | some dx =>
    obtain ⟨fs, ed⟩ := hd dx rfl
    obtain ⟨mA, ⟨o, es, ep, h1, h2⟩, _⟩ := exd_at I.hok ed
    exact ⟨_, some o, ⟨ho, rfl, rfl, h1⟩⟩
end
/-- isinstance(e, c), e an exception that is a value -/
def rIsX (K : PySem.W.Frag) : List V → Hp → VK → Prop := fun xs H Q => ∃ (a D : Addr) (od : Option Addr) (c : V) (u : Value) (b : Bool), xs = [.ref a, c] ∧ ExcC K D ∧ H a = some (exo a D od) ∧
  (∀ dx, od = some dx → ∃ fs, H dx = some (exd dx fs)) ∧ ClsV c u ∧ PySem.W.kitOne K (.ref D) u = some b ∧ Q (.bl b) H
theorem call_isX {X : Cx} : CallR X (.builtin "isinstance") (rIsX X.K) := by
  intro pins s σ H xs us Q I r h
  obtain ⟨a, D, od, c, u, b, rfl, T, e, hd, k, ek, q⟩ := h
  obtain ⟨u1, u2, rfl, r1, r2⟩ := vals2 r
  have e2 := k.eq r2
  subst e2
  obtain rfl : u1 = Value.ref a := r1
  obtain ⟨ox, o, J⟩ := inst_ex I e hd
  exact PySem.W.kia_one (kitG T) I.kIn J ek (fun z => nomatch z) fun tk => ⟨.bl b, H, I.tok tk, rfl, q⟩
section
variable {X : Cx} {pins : List (Addr × Obj)} {σ : St} {H : Hp} {s : Shared} {a C dx : Addr} {f : Str} {y : V} {u : Value} {fs : List (Str × V)}
/-- e.f -/
def tXf (K : PySem.W.Frag) (f : Str) (te : TE) : TE := fun σ H Q => te σ H fun x H1 => ∃ (a C d : Addr) (fs : List (Str × V)) (v : V), x = .ref a ∧ ExcC K C ∧ ExAt H1 a C d fs ∧
  PySem.W.findIn K (.ref C) f = some none ∧ fs.lookup f = some v ∧ Q v H1
theorem pe_xf {e : Expr} {te : TE} {pos : Pos} (he : PE X e te) (hb : attributeBase e f X.env (eval e X.env) = eval e X.env := by rfl) : PE X (.Attribute e f pos) (tXf X.K f te) := by
  refine ⟨fun pins s σ H Q I h => ?_⟩
  refine attr_of hb (thn (he.run pins s σ H _ I h) fun u s1 hh => ?_)
  obtain ⟨x, H1, I1, rx, a, C, d, fs, v, ex, T, ea, no, l, q⟩ := hh
  subst ex
  obtain rfl : u = Value.ref a := rx
  obtain ⟨t1, ho⟩ := exo_at I1.hok ea.ob
  obtain ⟨mA, hns, rel⟩ := exd_at I1.hok ea.di
  obtain ⟨od, hod, hl⟩ := lookIn_ns hns
  obtain ⟨u, hu, ru⟩ := RelO.some_of (v := v) (o := mA f) (by rw [← l]; exact rel f)
  have J : PySem.W.InstAt s1.heap a _ C (some od) := ⟨ho, rfl, rfl, hod⟩
  exact HandSPX.exc_get I1.kIn J T.hg T.hk T.hs (PySem.W.findObj_own T.hd no rfl (by rw [hl, hu])) (handed_of ru) ⟨v, H1, I1.tok _, ru, q⟩
end
end L2
namespace L2
open PySem PySem.Spec PyProof.Rows PySem.GX
section
variable {X : Cx} {pins : List (Addr × Obj)} {σ : St} {H : Hp} {s : Shared} {a C dx : Addr} {f : Str} {y : V} {u : Value} {fs : List (Str × V)} {Q : Unit → Shared → Prop} {Er : Value → Shared → Prop} {Ar : Around}
/-- the first store gives the exception its dict -/
theorem ostN (T : ExG X.K C) (I : Inv X pins σ H s) (e : H a = some (exo a C none)) (hno : PySem.W.findIn X.K (.ref C) f = some none) (ry : RelV y u)
    (h : ∀ dx s', H dx = none → dx ≠ a → Inv X pins σ (upd (upd H dx (exd dx [(f, y)])) a (exo a C (some dx))) s' → Q () s') :
    wpAny (model X.prog X.w) Ar (setAttr (.ref a) f u) Q Er s := by
  obtain ⟨B, nid, iid, b3, nm, q, N, bs, bm, sn, sub, ab, col, dd, k0, k1, k2, k3, k5, FB, hT, hM, hC⟩ := T.cls
  have hcl : PySem.W.clsIn X.K C = some { name := nm, bases := bs, mro := .ref C :: bm, ns := N, qualname := q, hasDict := true, slotNames := sn, subclasses := sub, abstract := ab, collection := col, hasDel := false } := by
    unfold PySem.W.clsIn; rw [hC] <;> rfl
  obtain ⟨t1, ho⟩ := exo_at I.hok e
  obtain ⟨hp, g, d, t, os⟩ := s
  refine PySem.W.set_plain I.kIn (ox := { cls := .ref C, dict := none, data := .fields #[.ref t1, .none, .none, .none, .bool false, .none] })
    (od := none) ⟨ho, rfl, rfl, trivial⟩ T.sa ?_
  refine osaN I.kIn ho hcl hM rfl hno (fun h' tk' dx k dn dne hx hn => ?_)
  have free1 : H dx = none := I.hok.fresh dn
  have ndx : ∀ {b : Addr} {o : Obj}, hp.get? b = some o → b ≠ dx :=
    fun {b o} q => Nat.ne_of_lt (Nat.lt_of_lt_of_le (Heap.lt_size q) dn)
  have nea : ∀ {b : Addr}, H b = none → b ≠ a := fun {b} n z => by
    rw [z, e] at n; cases n
  have U1 : Un X.fs [] H (upd (upd H dx (exd dx [(f, y)])) a (exo a C (some dx))) hp h' := by
    refine ⟨fun b o q n _ _ => k b o (nea n) q, fun b o q n _ _ => ⟨o.slots, k b o (nea n) q⟩, fun b o q n _ => ?_, fun b o q _ => ?_, fun b xs q => ?_, fun b o v q => ?_, fun b ps q => ⟨#[], ?_⟩⟩
    · rw [upd_ne (nea n), upd_ne (ndx q)]; exact n
    · by_cases hb : b = a
      · exact ⟨_, by rw [hb]; exact hx⟩
      · exact ⟨o, k b o hb q⟩
    · rw [upd_ne (at_ne e q exo_tup), upd_ne (ne_of_none q free1)]; exact q
    · rw [upd_ne (at_ne e q exo_frz), upd_ne (ne_of_none q free1)]; exact q
    · rw [upd_ne (at_ne e q exo_tbl), upd_ne (ne_of_none q free1), q]; simp
  refine h dx _ free1 dne (I.un (t' := tk') U1 fun b o q => ?_)
  by_cases hb : b = a
  · subst hb
    rw [upd_same] at q; cases q
    exact exo_ok hx
  · rw [upd_ne hb] at q
    by_cases hd : b = dx
    · subst hd
      rw [upd_same] at q; cases q
      exact exd_ok hn (relO_put (fs := []) ry fun g => True.intro)
    · rw [upd_ne hd] at q
      refine (I.hok b o q).stay (fun c v hc z => k c v ?_ z) (fun c hc => ?_) (fun c xs hc => ?_)
      · rcases hc with hc | hc
        · rw [hc]; exact hb
        · exact at_ne e hc exo_own
      · rw [upd_ne (at_ne e hc exo_own), upd_ne (ne_of_none hc free1)]; exact hc
      · rw [upd_ne (at_ne e hc exo_tup), upd_ne (ne_of_none hc free1)]; exact hc
theorem ostO (T : ExG X.K C) (I : Inv X pins σ H s) (e : H a = some (exo a C (some dx))) (ed : H dx = some (exd dx fs)) (hl : fs.length ≤ 900) (hno : PySem.W.findIn X.K (.ref C) f = some none) (ry : RelV y u)
    (h : ∀ s', Inv X pins σ (upd H dx (exd dx ((f, y) :: fs))) s' → Q () s') : wpAny (model X.prog X.w) Ar (setAttr (.ref a) f u) Q Er s := by
  obtain ⟨B, nid, iid, b3, nm, q, N, bs, bm, sn, sub, ab, col, dd, k0, k1, k2, k3, k5, FB, hT, hM, hC⟩ := T.cls
  have hcl : PySem.W.clsIn X.K C = some { name := nm, bases := bs, mro := .ref C :: bm, ns := N, qualname := q, hasDict := true, slotNames := sn, subclasses := sub, abstract := ab, collection := col, hasDel := false } := by
    unfold PySem.W.clsIn; rw [hC] <;> rfl
  obtain ⟨t1, ho⟩ := exo_at I.hok e
  obtain ⟨mA, hns, rel⟩ := exd_at I.hok ed
  have hw := within_of rel
  obtain ⟨hp, g, d, t, os⟩ := s
  obtain ⟨oD, _, _, hoD, _, _⟩ := hns.count hw
  refine PySem.W.set_plain I.kIn (ox := { cls := .ref C, dict := some dx, data := .fields #[.ref t1, .none, .none, .none, .bool false, .none] })
    (od := some oD) ⟨ho, rfl, rfl, hoD⟩ T.sa ?_
  refine osaO I.kIn ho hns hw (by rw [List.length_map]; omega) hcl hM rfl hno (fun h' tk' k hn => ?_)
  have hd : ∃ o, h'.get? dx = some o := by
    obtain ⟨o, _, _, e', _⟩ := hn
    exact ⟨o, e'⟩
  exact h _ (I.write (t' := tk') (x := dx) (e := dx) (o := exd dx ((f, y) :: fs)) (by rw [ed]; exact True.intro) (.inl rfl) k hd (exd_ok hn (relO_put ry rel)))
end
/-- self.f = e in an own exception's __init__ -/
def tOsG (K : PySem.W.Frag) (f : Str) (to te : TE) : TS := fun D σ H => te σ H fun y H1 => to σ H1 fun x H2 => ∃ a C : Addr, x = .ref a ∧ ExG K C ∧ PySem.W.findIn K (.ref C) f = some none ∧
  ((H2 a = some (exo a C none) ∧ ∀ dx, H2 dx = none → dx ≠ a → D.nx σ (upd (upd H2 dx (exd dx [(f, y)])) a (exo a C (some dx)))) ∨
    ∃ (dx : Addr) (fs : List (Str × V)), H2 a = some (exo a C (some dx)) ∧ H2 dx = some (exd dx fs) ∧ fs.length ≤ 900 ∧ D.nx σ (upd H2 dx (exd dx ((f, y) :: fs))))
/-- C(e, .., k = v, ..), C's own __init__ keeping sp: the exception stays a tracked value -/
def tMkG (C : Addr) (n m : Nat) (sp : Sp) (gV : List V → List V → List V) (t tk : TA) : TE := fun σ H Q => t σ H fun vs H1 => tk σ H1 fun zs H2 => vs.length = n ∧ zs.length = m ∧ vs.length ≤ 1000 ∧
  ∀ a, H2 a = none → sp (gV (.ref a :: vs) zs) (upd H2 a (exo a C none)) (fun v H3 => v = .non ∧ Q (.ref a) H3) (fun _ _ _ => False)
section
variable {X : Cx} {o e : Expr} {es : List Expr} {to te : TE} {ta tk : TA} {f : Str} {p p' p1 p2 pos : Pos} {kws : List Keyword} {ks : List Str} {n : Nat}
theorem ps_osG (ho : PE X o to) (he : PE X e te) (hs : swapsWith e (some (.Attribute o f p')) pos.line X.env = pure false := by rfl) : PS X (.Assign [.Attribute o f p'] e pos) (tOsG X.K f to te) := by
  refine ⟨fun pins s σ H D I h => ?_⟩
  refine plainObj_wpAny_Assign_Attribute (thn (he.run pins s σ H _ I h) fun v s1 ⟨y, H1, I1, r1, q1⟩ => thn (ho.run pins s1 σ H1 _ I1 q1) fun u s2 ⟨x, H2, I2, r2, a, C, ex, T, hno, q⟩ => ?_) hs
  subst ex
  obtain rfl : u = Value.ref a := r2
  rcases q with ⟨ea, q⟩ | ⟨dx, fs, ea, ed, hl, q⟩
  · exact ostN T I2 ea hno r1 fun dx s' n ne J => ⟨σ, _, J, q dx n ne⟩
  · exact ostO T I2 ea ed hl hno r1 fun s' J => ⟨σ, _, J, q⟩
variable {CX : CXT} {x : Str} {C fI : Addr} {k : Nat} {fd : FuncData} {ps : List Str} {sp : Sp} {g : List Value → List Value → List Value} {gV : List V → List V → List V}
theorem run_mkG {pins : List (Addr × Obj)} {σ : St} {H : Hp} {s : Shared} {Q : VK} {us ws : List Value} {vs zs : List V} (T : ExG X.K C) (iC : PySem.W.findIn X.K (.ref C) "__init__" = some (some (.ref fI)))
    (tI : PySem.W.typeIn X.K (.ref fI) = some (.type "function")) (F1 : FnOk X.prog X.w X.K X.mg X.base CX k fI fd ps sp) (hr : Room (k + 1) X.A) (hb : KBn X.K fd ps (n + 1) ks g gV) (hx : Passes CX X (fun _ _ _ => False))
    (I : Inv X pins σ H s) (r : Vals vs us) (rz : Vals zs ws) (l1 : vs.length = n) (l2 : zs.length = ks.length) (l3 : vs.length ≤ 1000)
    (h : ∀ a, H a = none → sp (gV (.ref a :: vs) zs) (upd H a (exo a C none)) (fun v H3 => v = .non ∧ Q (.ref a) H3) (fun _ _ _ => False)) :
    wpAny (model X.prog X.w) X.A (call (.ref C) us (ks.zip ws)) (EP X pins σ Q) X.xe s := by
  obtain ⟨B, nid, iid, b3, nm, q, N, bs, bm, sn, sub, ab, col, dd, k0, k1, k2, k3, k5, FB, hT, hM, hC⟩ := T.cls
  obtain ⟨hp, gn, dr, tkk, os⟩ := s
  have hsz : hp.objs.size ≤ hp.objs.size + 1 := Nat.le_succ _
  have hn : H (hp.objs.size + 1) = none := I.hok.fresh hsz
  have hq := h (hp.objs.size + 1) hn
  have kk : ∀ b o, hp.get? b = some o → ((hp.push (PySem.W.kdv_tup us)).push (PySem.HandSPX.excO C hp.objs.size)).get? b = some o :=
    fun b o e => Heap.get?_push_of_some _ (Heap.get?_push_of_some _ e)
  have hgt : ((hp.push (PySem.W.kdv_tup us)).push (PySem.HandSPX.excO C hp.objs.size)).get? (hp.objs.size + 1) = some (PySem.HandSPX.excO C hp.objs.size) := by
    heap_get
  have I2 : Inv X pins σ (upd H (hp.objs.size + 1) (exo (hp.objs.size + 1) C none)) ⟨(hp.push (PySem.W.kdv_tup us)).push (PySem.HandSPX.excO C hp.objs.size), gn, dr, tkk, os⟩ :=
    I.laid (t' := tkk) (a := hp.objs.size + 1) (o := exo (hp.objs.size + 1) C none)
      (h' := (hp.push (PySem.W.kdv_tup us)).push (PySem.HandSPX.excO C hp.objs.size)) kk hsz (exo_ok hgt)
  have r1 : Vals (V.ref (hp.objs.size + 1) :: vs) (Value.ref (hp.objs.size + 1) :: us) := .cons rfl r
  have r2 := hb.rel r1 rz
  have n1 : (Value.ref (hp.objs.size + 1) :: us).length = n + 1 := by
    rw [List.length_cons, ← r.length, l1]
  have hus : us.length ≤ sizeLine := by
    rw [← Paired.length r, sizeLine_eq]; omega
  refine wpAny_call (callK FB hT (I.kIn _ _ hC) (PySem.W.looks_findIn I.kIn iC) (fun self => PySem.W.bind_fn I.kIn self tI) hus
    (codeAny_mono (F1.run _ X.stack _ _ ⟨Value.ref (hp.objs.size + 1) :: us, ks.zip ws⟩ (g (Value.ref (hp.objs.size + 1) :: us) ws) _ _ (fun _ _ _ => False)
      (hr.make C us (ks.zip ws)) (I2.env0.make C us (ks.zip ws)) (hb.to _ (Value.ref (hp.objs.size + 1) :: us) ws I2.kIn n1 (rz.length.symm.trans l2)) r2 hq) fun r s' hq' => ?_))
  cases r with
  | error er => exact hx pins σ _ _ er s' I2 hq'
  | ok fl =>
    cases fl with
    | ret u =>
      obtain ⟨v, H', I3, rv, ev, q3⟩ := I2.after hq'
      subst ev
      exact ⟨rv, ⟨V.ref (hp.objs.size + 1), H', I3, rfl, q3⟩⟩
    | next => exact False.elim hq'
    | brk => exact False.elim hq'
    | cont => exact False.elim hq'
theorem pe_mkG (T : ExG X.K C) (iC : PySem.W.findIn X.K (.ref C) "__init__" = some (some (.ref fI))) (tI : PySem.W.typeIn X.K (.ref fI) = some (.type "function"))
    (F1 : FnOk X.prog X.w X.K X.mg X.base CX k fI fd ps sp) (hr : Room (k + 1) X.A) (hg : Gl X x) (hm : X.mg x = some (.ref C)) (hb : KBn X.K fd ps (n + 1) [] g gV) (hx : Passes CX X (fun _ _ _ => False)) (ha : PA X (e :: es) ta)
    (hdb : (x == ("__debug__" : Str)) = false := by decide) (he : starEach (e :: es) X.env = (false, eval e X.env) :: starEach es X.env := by rfl) (hpl : (backTo pos (starEach es X.env)).any (·.1) = false := by rfl) :
    PE X (.Call (.Name x p) (e :: es) [] pos) (tMkG C n 0 sp gV ta tNil) := by
  refine ⟨fun pins s σ H Q I h => ?_⟩
  refine wpAny_Call_Name_kw (ld_glob I hg hm ?_ hdb)
  refine PySem.W.callWith_K (h₀ := X.base) I.ok.mod.kin T.kC (thn (ha.run pos pins s σ H _ I h) fun us s1 ⟨vs, H1, I1, r, l1, l2, l3, q⟩ => ⟨I1.kIn, ?_⟩) he hpl
  exact run_mkG (ws := []) (zs := []) T iC tI F1 hr hb hx I1 r .nil l1 l2 l3 q
theorem pe_mkGK (T : ExG X.K C) (iC : PySem.W.findIn X.K (.ref C) "__init__" = some (some (.ref fI))) (tI : PySem.W.typeIn X.K (.ref fI) = some (.type "function"))
    (F1 : FnOk X.prog X.w X.K X.mg X.base CX k fI fd ps sp) (hr : Room (k + 1) X.A) (hg : Gl X x) (hm : X.mg x = some (.ref C)) (hb : KBn X.K fd ps 1 ks g gV) (hx : Passes CX X (fun _ _ _ => False)) (hkw : PK X kws tk)
    (hall : (backToKw pos (keywordEach kws X.env)).all (·.1.isSome) = true := by rfl) (hks : (backToKw pos (keywordEach kws X.env)).filterMap (·.1) = ks := by rfl) (hdb : (x == ("__debug__" : Str)) = false := by decide)
    (hpl : ((backTo pos (starEach [] X.env)).any (·.1) || (backToKw pos (keywordEach kws X.env)).any (·.1.isNone)) = false := by rfl) :
    PE X (.Call (.Name x p) [] kws pos) (tMkG C 0 ks.length sp gV tNil tk) := by
  refine ⟨fun pins s σ H Q I h => ?_⟩
  refine wpAny_Call_Name_kw (ld_glob I hg hm ?_ hdb)
  refine PySem.W.callWith_KW0 (h₀ := X.base) I.ok.mod.kin T.kC hall ?_ hpl
  refine thn (hkw.run pos pins s σ H _ I h) fun ws s2 ⟨zs, H2, I2, rz, l1, l2, l3, q2⟩ => ⟨I2.kIn, ?_⟩
  rw [hks]
  exact run_mkG (us := []) (vs := []) T iC tI F1 hr hb hx I2 .nil rz rfl l2 (Nat.zero_le _) q2
end
end L2
namespace L2
open PySem PySem.Spec PyProof.Rows PySem.GX
/-- flat things -/
inductive Fl : V → PyData → Prop
  | non : Fl .non .none
  | bl (b : Bool) : Fl (.bl b) (.bool b)
  | int (i : Int) : Fl (.int i) (.int i)
  | str (x : Str) : Fl (.str x) (.str x)
mutual
/-- the data that a value is, dicts of flat things among them -/
inductive Sh (K : PySem.W.Frag) (H : Hp) : V → PyData → Prop
  | fl {v : V} {d : PyData} : Fl v d → Sh K H v d
  | lst {a : Addr} {xs : List V} {ds : List PyData} : SqL K H a xs → ShAll K H xs ds → Sh K H (.ref a) (.list ds)
  | tup {a : Addr} {xs : List V} {ds : List PyData} : SqT K H a xs → ShAll K H xs ds → Sh K H (.ref a) (.tuple ds)
  | dic {a : Addr} {kvs : List (Key × V)} {kds : List (PyData × PyData)} : H a = some (.dK kvs) → Paired Fl (kvs.map fun p => kV p.1) (kds.map (·.1)) → Paired Fl (kvs.map (·.2)) (kds.map (·.2)) →
      Sh K H (.ref a) (.dict kds)
inductive ShAll (K : PySem.W.Frag) (H : Hp) : List V → List PyData → Prop
  | nil : ShAll K H [] []
  | cons {v : V} {vs : List V} {d : PyData} {ds : List PyData} : Sh K H v d → ShAll K H vs ds → ShAll K H (v :: vs) (d :: ds)
end
section
variable {pr : Program} {wd : World} {h0 : Heap}
theorem Fl.reads {v : V} {d : PyData} {u : Value} (f : Fl v d) (r : RelV v u) : Reads h0 u d [] := by
  cases f with
  | non => cases r; exact .none
  | bl b => cases r; exact .bool b
  | int i => obtain ⟨t, rfl⟩ := r; exact .int i t
  | str x => obtain ⟨t, rfl⟩ := r; exact .str x t
theorem Fl.repr {v : V} {d : PyData} {u : Value} (f : Fl v d) (r : RelV v u) (hs : d.showable = true) (hz : d.shown.length ≤ sizeLine) (n : Nat) (bs : List Addr) : ReprK pr wd bs h0 n u d.shown := by
  cases f with
  | non => cases r; simp only [PyData.shown]; exact .of_is ReprIs.none _ _ _
  | bl b => cases r; simp only [PyData.shown]; exact .of_is (ReprIs.bool b) _ _ _
  | int i => obtain ⟨t, rfl⟩ := r; simp only [PyData.shown]; exact .of_is (ReprIs.int t (by simpa [PyData.showable] using hs)) _ _ _
  | str x => obtain ⟨t, rfl⟩ := r; simp only [PyData.shown]; exact .of_is (ReprIs.str x t (by simpa only [PyData.shown] using hz)) _ _ _
theorem flAll_reads : ∀ {vs : List V} {ds : List PyData} {us : List Value}, Paired Fl vs ds → Vals vs us → ReadsAll h0 us ds []
  | _, _, _, .nil, .nil => .nil
  | _, _, _, .cons f t, .cons r q => ReadsAll.cons (as := []) (bs := []) (f.reads r) (flAll_reads t q)
theorem flAll_repr (n : Nat) (bs : List Addr) : ∀ {vs : List V} {ds : List PyData} {us : List Value}, Paired Fl vs ds → Vals vs us → PyData.showableAll ds = true → (∀ t ∈ PyData.shownAll ds, t.length ≤ sizeLine) → ReprAllK pr wd bs h0 n us (PyData.shownAll ds)
  | _, _, _, .nil, .nil, _, _ => by simp only [PyData.shownAll]; exact .nil
  | _, d :: ds, _, .cons f t, .cons r q, hs, hz => by
    have hs' : d.showable = true ∧ PyData.showableAll ds = true := by simpa [PyData.showableAll] using hs
    simp only [PyData.shownAll] at hz ⊢
    exact .cons (f.repr r hs'.1 (hz _ (List.mem_cons_self ..)) n bs) (flAll_repr n bs t q hs'.2 fun t ht => hz t (List.mem_cons_of_mem _ ht))
end
theorem pairs_split {P : Program} {w : World} : ∀ {es : List DictEntry} {kvs : List (Key × V)} {vs : List (Key × Value)}, Pairs (mixKind P w) es vs → KV kvs vs → Vals (kvs.map fun p => kV p.1) (es.map (·.key)) ∧ Vals (kvs.map (·.2)) (es.map (·.val))
  | _, _, _, .nil, .nil => ⟨.nil, .nil⟩
  | e :: es, (k, v) :: kvs, (k', u) :: vs, .cons h1 h2 t, .cons r q => by
    obtain ⟨a, b⟩ := pairs_split t q
    obtain ⟨r1, r2⟩ := r
    have r1' : k = k' := r1
    subst r1'
    have hk : keyIs k e.key = true := h1
    have h2' : e.val = u := h2
    have rk : RelV (kV k) e.key := by
      rcases keyIs_shape hk with ⟨i, t, rfl, q⟩ | ⟨x, t, rfl, q⟩
      · exact ⟨t, q⟩
      · exact ⟨t, q⟩
    exact ⟨.cons rk a, .cons (show RelV v e.val by rw [h2']; exact r2) b⟩
section
variable {X : Cx} {pins : List (Addr × Obj)} {σ : St} {H : Hp} {s : Shared}
mutual
theorem Sh.both (I : Inv X pins σ H s) : ∀ (d : PyData) (v : V) (u : Value), Sh X.K H v d → RelV v u → d.showable = true → d.shown.length ≤ sizeLine →
    (∃ as, Reads s.heap u d as) ∧ ∃ bs, ReadAtMost s.heap d.depth bs ∧ ReprK X.prog X.w bs s.heap d.depth u d.shown
  | .none, _, _, h, r, hs, hz => by
    cases h with
    | fl f => exact ⟨⟨_, f.reads r⟩, [], (fun _ z => nomatch z), f.repr r hs hz _ _⟩
  | .bool b, _, _, h, r, hs, hz => by
    cases h with
    | fl f => exact ⟨⟨_, f.reads r⟩, [], (fun _ z => nomatch z), f.repr r hs hz _ _⟩
  | .int i, _, _, h, r, hs, hz => by
    cases h with
    | fl f => exact ⟨⟨_, f.reads r⟩, [], (fun _ z => nomatch z), f.repr r hs hz _ _⟩
  | .str x, _, _, h, r, hs, hz => by
    cases h with
    | fl f => exact ⟨⟨_, f.reads r⟩, [], (fun _ z => nomatch z), f.repr r hs hz _ _⟩
  | .list ds, _, _, h, r, hs, hz => by
    cases h with
    | fl f => cases f
    | @lst a xs _ hq ha =>
      cases r
      obtain ⟨its, rv, ⟨o, n, ho, hc, _, hd⟩, _⟩ := I.list hq
      have hz' : (listText (PyData.shownAll ds)).length ≤ sizeLine := by simpa only [PyData.shown] using hz
      obtain ⟨⟨as, hr⟩, bs, hb, hk⟩ := Sh.bothAll I ds xs its ha rv (by simpa [PyData.showable] using hs) (fun t ht => Nat.le_trans (listText_mem_le ht) hz')
      have rr : Reads s.heap (.ref a) (.list ds) _ := Reads.list ho hc hd hr
      have hna : a ∉ bs := not_mem_of_deeper rr (by simp only [PyData.depth]; omega) hb
      refine ⟨⟨_, rr⟩, a :: bs, ReadAtMost.cons rr (by simp only [PyData.depth]; omega) hb, ?_⟩
      simp only [PyData.depth, PyData.shown]
      cases its with
      | nil =>
        cases hr
        simp only [PyData.shownAll, listText_nil]
        exact ReprK.listEmpty ho hc hd
      | cons x l => exact ReprK.list ho hc hd hna (by simpa using hk.length_eq) (fun i y e => hk.item i y (by simpa using e))
  | .tuple ds, _, _, h, r, hs, hz => by
    cases h with
    | fl f => cases f
    | @tup a xs _ hq ha =>
      cases r
      obtain ⟨its, rv, ⟨o, ho, hc, n, hd⟩, _⟩ := I.tuple hq
      have hz' : (tupleText (PyData.shownAll ds)).length ≤ sizeLine := by simpa only [PyData.shown] using hz
      obtain ⟨⟨as, hr⟩, bs, hb, hk⟩ := Sh.bothAll I ds xs its ha rv (by simpa [PyData.showable] using hs) (fun t ht => Nat.le_trans (tupleText_mem_le ht) hz')
      have rr : Reads s.heap (.ref a) (.tuple ds) _ := Reads.tuple ho hc hd hr
      have hna : a ∉ bs := not_mem_of_deeper rr (by simp only [PyData.depth]; omega) hb
      refine ⟨⟨_, rr⟩, a :: bs, ReadAtMost.cons rr (by simp only [PyData.depth]; omega) hb, ?_⟩
      simp only [PyData.depth, PyData.shown]
      exact ReprK.tuple ho hc hd hna hk
  | .dict kds, _, _, h, r, hs, hz => by
    cases h with
    | fl f => cases f
    | @dic a kvs _ hq fk fv =>
      cases r
      obtain ⟨_, hsys, vs, rkv, o, es, ep, ho, ⟨hc, _⟩, hd, _, hp, _⟩ := I.hok a _ hq
      obtain ⟨vk, vv⟩ := pairs_split hp rkv
      obtain ⟨hs1, hs2⟩ := PyData.showableKv_split kds (by simpa [PyData.showable] using hs)
      have hz' : (dictText (PyData.shownKv kds)).length ≤ sizeLine := by simpa only [PyData.shown] using hz
      have k1 : ReprAllK X.prog X.w [] s.heap (PyData.depthKv kds) _ _ := flAll_repr (PyData.depthKv kds) [] fk vk hs1 (fun t ht => by
        obtain ⟨p, hp, hl⟩ := PyData.shownKv_key_le kds t ht
        exact Nat.le_trans hl (Nat.le_trans (dictText_mem_le hp) hz'))
      have k2 : ReprAllK X.prog X.w [] s.heap (PyData.depthKv kds) _ _ := flAll_repr (PyData.depthKv kds) [] fv vv hs2 (fun t ht => by
        obtain ⟨p, hp, hl⟩ := PyData.shownKv_val_le kds t ht
        exact Nat.le_trans hl (Nat.le_trans (dictText_mem_le hp) hz'))
      have rr : Reads s.heap (.ref a) (.dict kds) _ := Reads.dict ho hc hd (flAll_reads fk vk) (flAll_reads fv vv)
      refine ⟨⟨_, rr⟩, [a], ReadAtMost.cons rr (n := 0) (Nat.zero_le _) (fun _ z => nomatch z), ?_⟩
      simp only [PyData.depth, PyData.shown, PyData.shownKv_eq]
      exact ReprK.dict ho hc hd hsys (fun z => nomatch z) (ReprEntriesK.of_two es.toList _ _ k1 k2)
theorem Sh.bothAll (I : Inv X pins σ H s) : ∀ (ds : List PyData) (vs : List V) (us : List Value), ShAll X.K H vs ds → Vals vs us → PyData.showableAll ds = true → (∀ t ∈ PyData.shownAll ds, t.length ≤ sizeLine) →
    (∃ as, ReadsAll s.heap us ds as) ∧ ∃ bs, ReadAtMost s.heap (PyData.depthAll ds) bs ∧ ReprAllK X.prog X.w bs s.heap (PyData.depthAll ds) us (PyData.shownAll ds)
  | [], _, _, h, r, _, _ => by
    cases h
    cases r
    refine ⟨⟨_, ReadsAll.nil⟩, [], (fun _ z => nomatch z), ?_⟩
    simp only [PyData.shownAll]
    exact .nil
  | d :: ds, _, _, h, r, hs, hz => by
    cases h with
    | cons h1 h2 =>
      cases r with
      | cons r1 r2 =>
        have hs' : d.showable = true ∧ PyData.showableAll ds = true := by simpa [PyData.showableAll] using hs
        simp only [PyData.shownAll] at hz
        obtain ⟨⟨as, q1⟩, b1, hb1, k1⟩ := Sh.both I d _ _ h1 r1 hs'.1 (hz _ (List.mem_cons_self ..))
        obtain ⟨⟨bs, q2⟩, b2, hb2, k2⟩ := Sh.bothAll I ds _ _ h2 r2 hs'.2 (fun t ht => hz t (List.mem_cons_of_mem _ ht))
        refine ⟨⟨_, ReadsAll.cons q1 q2⟩, b1 ++ b2, ?_, ?_⟩
        · simp only [PyData.depthAll]
          exact (hb1.mono (Nat.le_max_left _ _)).append (hb2.mono (Nat.le_max_right _ _))
        · simp only [PyData.depthAll, PyData.shownAll]
          exact .cons ((k1.more fun b hb => List.mem_append_left _ hb).level_le (Nat.le_max_left _ _)) (k2.more_le (fun b hb => List.mem_append_right _ hb) (Nat.le_max_right _ _))
end
end
/-- repr(x), x a list -/
def rRepr (K : PySem.W.Frag) : List V → Hp → VK → Prop := fun xs H Q => ∃ (a : Addr) (ds : List PyData), xs = [.ref a] ∧ Sh K H (.ref a) (.list ds) ∧ PyData.showableAll ds = true ∧ (PyData.list ds).shown.length ≤ sizeLine ∧ (PyData.list ds).depth ≤ 60 ∧
  Q (.str (PyData.list ds).shown) H
theorem call_reprL {X : Cx} (hg : X.A.guards = some []) (hu : X.A.units + 64 < cLine) : CallR X (.builtin "repr") (rRepr X.K) := by
  intro pins s σ H xs us Q I r h
  obtain ⟨a, ds, rfl, hsh, hs, hz, hdp, q⟩ := h
  cases r with
  | cons r1 r2 =>
    cases r2
    cases r1
    cases hsh with
    | fl f => cases f
    | @lst _ xs _ hq ha =>
      obtain ⟨its, rv, ⟨o, n, ho, hc, _, hd⟩, _⟩ := I.list hq
      have hz' : (listText (PyData.shownAll ds)).length ≤ sizeLine := by simpa only [PyData.shown] using hz
      obtain ⟨⟨as, hr⟩, bs, hb, hk⟩ := Sh.bothAll I ds xs its ha rv hs (fun t ht => Nat.le_trans (listText_mem_le ht) hz')
      have rr : Reads s.heap (.ref a) (.list ds) _ := Reads.list ho hc hd hr
      have hna : a ∉ bs := not_mem_of_deeper rr (by simp only [PyData.depth]; omega) hb
      simp only [PyData.depth] at hdp
      simp only [PyData.shown] at q
      refine call_repr_slot (by omega) ⟨o, ho, hc⟩ F.slot_list_repr.toG ?_
      have fin : ∀ (h' : Heap) (u : Tok) (tk : Nat), (∀ b o, s.heap.get? b = some o → h'.get? b = some o) → EP X pins σ Q (.str (listText (PyData.shownAll ds)) u) { s with heap := h', toks := tk } :=
        fun h' u tk k => ⟨.str (listText (PyData.shownAll ds)), H, I.kept k, ⟨u, rfl⟩, q⟩
      cases its with
      | nil =>
        cases hr
        simp only [PyData.shownAll, listText_nil] at fin
        exact call_list_repr_empty ⟨o, ho, hc⟩ ho hd ⟨_, _, rfl, fin s.heap _ _ fun _ _ e => e⟩
      | cons x l =>
        exact call_list_reprK ho hc hd hna (by simpa using hk.length_eq) (fun i y e => hk.item i y (by simpa using e)) hg (fun b _ => Clear.nil b)
          (by show X.A.units + 1 + _ < cLine; omega) (fun _ _ e => e) (fun h' u tk k => ⟨_, _, rfl, fin h' u tk k⟩) hz'
end L2
namespace L2
open PySem PySem.Spec PyProof.Rows PySem.GX
/-- a def's promise where no repr is under way -/
structure FnG (P : Program) (w : World) (K : PySem.W.Frag) (mg : Str → Option Value) (base : Heap) (CX : CXT) (k : Nat) (f : Addr) (fd : FuncData) (ps : List Str) (sp : Sp) : Prop where
  len : ∀ vs H Q E, sp vs H Q E → vs.length = ps.length
  run : ∀ (A : Around) (outer : List Env) (s : Shared) (H : Hp) (args : Args) (us : List Value) (vs : List V) (Q : VK) (E : XK), A.guards = some [] → Room k A → Env0 P w K mg base A outer s H →
    BindsTo s fd args (ps.zip us) → Vals vs us → sp vs H Q E → codeAny (model P w) A (.call (.ref f) args) (CR CX outer P w H s Q E) s
section
variable {P : Program} {w : World} {K : PySem.W.Frag} {mg : Str → Option Value} {base : Heap} {CX : CXT}
theorem fnG_of {k : Nat} {f : Addr} {name qual : Str} {params : Arguments} {body : List Stmt} {scope : Scope} {dV kV doc pm cdv ct oc : Value} {an od : Option Addr}
    {osl : Array (Option Value)} {N ps : List Str} {sp : Sp} (lk : K.lookup f = some ⟨oc, od, .func (PySem.W.fnOf name qual params body scope dV kV doc pm an cdv ct), osl⟩)
    (hcd : PySem.W.codeIn K cdv qual = true) (S : FnScope N ps scope) (len : ∀ vs H Q E, sp vs H Q E → vs.length = ps.length)
    (hbody : ∀ (A : Around) (outer : List Env) (s : Shared) (H : Hp) (vs : List V) (Q : VK) (E : XK), A.guards = some [] → Room k (A.deeper (envOfC qual scope s.heap.objs.size f cdv)) → sp vs H Q E →
      ∃ t, PSs (cxOf CX P w K mg base N qual scope f cdv A outer s H E) body t ∧ t { nx := fun _ H' => Q .non H', rt := Q } (start N vs) H) :
    FnG P w K mg base CX (k + 1) f (PySem.W.fnOf name qual params body scope dV kV doc pm an cdv ct) ps sp := by
  refine ⟨len, fun A outer s H args us vs Q E hgd hr e0 hb r hsp => ?_⟩
  have hl := len _ _ _ _ hsp
  have KX : K.In s.heap := e0.mod.kin.keeps fun b o e => (e0.bs b o e).1
  have lim : s.heap.NoLimit := e0.mod.nolimit.keeps fun b o e => (e0.bs b o e).1
  have hkind : ∀ y ∈ ps.zip us, scope.names.lookup y.1 = some .local ∨
      (scope.names.lookup y.1 = some .cell ∧ ((cellsFrom (s.heap.objs.size + 1) scope.names []).lookup y.1).isSome = true) := fun ⟨n, v⟩ hy => by
    rcases S.par n (List.of_mem_zip hy).1 with q | q
    · exact .inl q
    · exact .inr ⟨q, PySem.W.cellsFrom_some _ _ _ (.inl q)⟩
  refine codeAny_call_function hr.depth (KX _ _ lk) rfl S.co S.gen rfl (PySem.W.codeRec_of KX hcd) (hb _ _ _ _ ?_)
  refine wpAny_newFunctionEnv_cells S.kind hkind fun env he s1 x => ?_
  subst he
  refine ⟨lim.keeps x.toInCall.keep, codeAny_func ?_⟩
  obtain ⟨t, ht, hq⟩ := hbody A outer s H vs Q E hgd (hr.deeper _) hsp
  have I : Inv (cxOf CX P w K mg base N qual scope f cdv A outer s H E) [] (start N vs) H s1 := inv_start S hr.hd e0 hl r x
  refine wpAny_mono (ht.run [] s1 (start N vs) H _ I hq) (fun fl s' hs => ?_) fun e s' hs => hs
  cases fl with
  | ret u =>
    obtain ⟨v, σ', H', J, rv, q⟩ := hs
    exact ⟨v, H', J.os, J.bare, J.base, J.hok, rv, q⟩
  | next =>
    obtain ⟨σ', H', J, q⟩ := hs
    exact ⟨V.non, H', J.os, J.bare, J.base, J.hok, rfl, q⟩
  | brk =>
    obtain ⟨_, _, _, q⟩ := hs
    exact False.elim q
  | cont =>
    obtain ⟨_, _, _, q⟩ := hs
    exact False.elim q
theorem Fun.okG {x qual : Str} {st : Stmt} {f : Addr} {fd : FuncData} {N ps : List Str} {k : Nat} {sp : Sp} (F : Fun K x qual st f fd) (S : FnScope N ps (defScope st)) (len : ∀ vs H Q E, sp vs H Q E → vs.length = ps.length)
    (hbody : ∀ (cdv : Value) (A : Around) (outer : List Env) (s : Shared) (H : Hp) (vs : List V) (Q : VK) (E : XK), A.guards = some [] → Room k (A.deeper (envOfC qual (defScope st) s.heap.objs.size f cdv)) → sp vs H Q E →
      ∃ t, PSs (cxOf CX0 P w K mg base N qual (defScope st) f cdv A outer s H E).nox (defBody st) t ∧ t { nx := fun _ H' => Q .non H', rt := Q } (start N vs) H) : FnG P w K mg base CX0 (k + 1) f fd ps sp := by
  obtain ⟨oc, od, kV, doc, pm, an, cdv, ct, osl, rfl, lk, hcd⟩ := F.ex
  refine fnG_of lk hcd S len fun A outer s H vs Q E hgd hr hsp => ?_
  obtain ⟨t, h, q⟩ := hbody cdv A outer s H vs Q E hgd hr hsp
  exact ⟨t, h.nox, q⟩
end
section
variable {X : Cx} {CX : CXT} {k : Nat} {f C : Addr} {fd : FuncData} {ps : List Str} {sp : Sp} {E : XK} {x : Str} {p pos : Pos} {e : Expr} {es : List Expr} {t : TA}
theorem pe_callG (F : FnG X.prog X.w X.K X.mg X.base CX k f fd ps sp) (hgd : X.A.guards = some []) (hr : Room k X.A) (hg : Gl X x) (hm : X.mg x = some (.ref f)) (hk : PySem.W.keepIn X.K (.ref f) = true) (hb : Binds X.K fd ps []) (hx : Passes CX X E)
    (ha : PA X (e :: es) t) (hdb : (x == ("__debug__" : Str)) = false := by decide) (he : starEach (e :: es) X.env = (false, eval e X.env) :: starEach es X.env := by rfl) (hpl : (backTo pos (starEach es X.env)).any (·.1) = false := by rfl) :
    PE X (.Call (.Name x p) (e :: es) [] pos) (tCall sp [] E t) := by
  refine ⟨fun pins s σ H Q I h => ?_⟩
  refine wpAny_Call_Name_kw (ld_glob I hg hm ?_ hdb)
  refine PySem.W.callWith_K (h₀ := X.base) I.ok.mod.kin hk (thn (ha.run pos pins s σ H _ I h) fun us s1 ⟨vs, H1, I1, r, q⟩ => ⟨I1.kIn, ?_⟩) he hpl
  have r2 : Vals (vs ++ []) (us ++ []) := r.append .nil
  have hl : (us ++ []).length = ps.length := by rw [← r2.length]; exact F.len _ _ _ _ q
  refine wpAny_call (codeAny_mono (F.run X.A X.stack s1 H1 ⟨us, []⟩ (us ++ []) (vs ++ []) Q E hgd hr I1.env0 (hb s1 us I1.kIn hl) r2 q) fun r s' hq => ?_)
  cases r with
  | error e => exact hx pins σ H1 s1 e s' I1 hq
  | ok fl =>
    cases fl with
    | ret u => exact I1.after hq
    | next => exact False.elim hq
    | brk => exact False.elim hq
    | cont => exact False.elim hq
/-- X(), an own exception class without own __init__ -/
theorem pe_exc0G {bmB : List Value} {B nid iid : String} (F : ExcBaseFacts B nid iid bmB) (q : PySem.W.excIn X.K C bmB nid = true) (gC : X.mg x = some (.ref C)) (kC : PySem.W.keepIn X.K (.ref C) = true) (hg : Gl X x)
    (hdb : (x == ("__debug__" : Str)) = false := by decide) :
    PE X (.Call (.Name x p) [] [] pos) (fun σ H Q => ∀ a, H a = none → Q (.ref a) (upd H a (exo a C none))) := by
  refine ⟨fun pins s σ H Q I h => ?_⟩
  refine wpAny_Call_Name_kw (ld_glob I hg gC ?_ hdb)
  refine PySem.W.callWith_K0 I.kIn kC ?_
  obtain ⟨bm, N, nm, qn, bs, hdct, sn, sub, ab, col, dd, k0, k1, k2, k3, k5, mN, hC, hN, hni, T⟩ := exc_obj I.kIn q
  refine wpAny_call_exc_subT F T hC hN hni (fun h' a hm => ?_) (by show 0 ≤ sizeLine; exact Nat.zero_le _)
  have hn : H a = none := I.hok.gone hm.new
  obtain ⟨t, ht, _, _⟩ := hm.there
  exact ⟨.ref a, upd H a (exo a C none), I.laidN hm.keeps hm.new hn (exo_ok ht), rfl, h a hn⟩
end
/-- the law's call, its promise where no repr is under way -/
theorem law_callG {P : Program} {w : World} {K : PySem.W.Frag} {mg mb : Str → Option Value} {CX : CXT} {k : Nat} {fa a : Addr} {fd : FuncData} {x : Str} {sp : Sp} {s1 : Shared} {vs : List Value} {ns : List Int}
    (KX : K.In s1.heap) (hns : s1.heap.Ns mainGlobals mg) (hb : s1.heap.Ns builtinsNs mb) (hbb : ∀ x : Str, x ≠ "__name__" → mb x = bootBuiltins x) (hlim : s1.heap.NoLimit) (hg : s1.gens = #[])
    (ha : s1.heap.get? a = some { cls := .type "list", data := .seq vs.toArray }) (hi : IntsAre vs ns) (hl : ns.length ≤ sizeLine) (hr : Room k callerA)
    (F : ∀ base : Heap, K.In base → base.Ns mainGlobals mg → FnG P w K mg base CX k fa fd [x] sp) (hbind : ∀ (s : Shared) (u : Value), BindsTo s fd ⟨[u], []⟩ [(x, u)])
    (hsp : ∀ H : Hp, Only H → SqL K H a (ns.map V.int) → sp [.ref a] H (fun v _ => v = .bl true) fun _ _ _ => False)
    (hCX : ∀ H e s', CX [] H s1 (fun _ _ _ => False) e s' → False) :
    codeAny (model P w) callerA (.call (.ref fa) ⟨[.ref a], []⟩) (fun r s' => r = .ok (.ret (.bool true)) ∧ OldK s1.heap s'.heap ∧ s'.os = s1.os ∧ AllBare s'.gens) s1 := by
  have rv := vals_ints hi
  have lenV := hi.length
  have core : ∀ H : Hp, Only H → SqL K H a (ns.map V.int) → HOk P w H s1.heap → (∀ b, H b ≠ none → b = a) → (H a ≠ none → K.lookup a = none) →
      codeAny (model P w) callerA (.call (.ref fa) ⟨[.ref a], []⟩) (fun r s' => r = .ok (.ret (.bool true)) ∧ OldK s1.heap s'.heap ∧ s'.os = s1.os ∧ AllBare s'.gens) s1 := by
    intro H hO hS hok hA hK
    have isA : ∀ {b : Addr} {u : HO}, H b = some u → b = a := fun {b u} q => hA b (by rw [q]; simp)
    have nod : ∀ {b : Addr} {o : Obj} {es : Array DictEntry} {ep : Nat}, s1.heap.get? b = some o → o.data = .dict es ep → H b = none := fun {b o es ep} e d => by
      cases q : H b with
      | none => rfl
      | some u =>
        have e1 := isA q
        subst e1
        rw [ha] at e
        cases e
        cases (show Data.seq vs.toArray _ = Data.dict es ep from d)
    have nsK : ∀ {b : Addr} {m : Str → Option Value}, s1.heap.Ns b m → (hidT s1.heap H).Ns b m :=
      fun {b m} ⟨o, es, ep, e, d, r⟩ => ⟨o, es, ep, hidT_get e (nod e d), d, r⟩
    have hKb : K.In (hidT s1.heap H) := fun b o e => hidT_get (KX b o e) (by
      cases q : H b with
      | none => rfl
      | some u =>
        have e1 := isA q
        subst e1
        rw [hK (by rw [q]; simp)] at e
        cases e)
    have hM : Mod K mg (hidT s1.heap H) :=
      ⟨hKb, nsK hns, ⟨mb, nsK hb, hbb⟩, let ⟨mc, h1, h2⟩ := hlim; ⟨mc, nsK h1, h2⟩⟩
    have e0 : Env0 P w K mg (hidT s1.heap H) callerA [] s1 H :=
      ⟨rfl, hM, fun b o e => of_hidT e, Nat.le_of_eq (hidT_size _ _), trivial, fun b hb => absurd (show b ∈ ([] : List Addr) from hb) (by simp), hok, .of_eq hg⟩
    refine codeAny_mono ((F _ hKb (nsK hns)).run callerA [] s1 H ⟨[.ref a], []⟩ [.ref a] [.ref a] _ _ rfl hr e0 (hbind s1 (.ref a)) (.cons rfl .nil) (hsp H hO hS)) fun r s' h => ?_
    cases r with
    | error e => exact (hCX H e s' h).elim
    | ok fl =>
      cases fl with
      | next => exact False.elim h
      | brk => exact False.elim h
      | cont => exact False.elim h
      | ret u =>
        obtain ⟨v, H', os, bare, un, hok', r', q⟩ := h
        have qv : v = .bl true := q
        subst qv
        obtain rfl : u = Value.bool true := r'
        refine ⟨rfl, OldK.of_keep fun b o e => ?_, os, bare⟩
        cases q : H b with
        | none => exact un.keep b o e q (by intro z; exact absurd (show b ∈ ([] : List Addr) from z) (by simp)) (by simp)
        | some u =>
          rcases hO b with z | ⟨ob, xs, z⟩
          · rw [q] at z; cases z
          · have z2 := un.frzs b ob _ z
            obtain ⟨e1, _⟩ := hok b _ z
            obtain ⟨e2, _⟩ := hok' b _ z2
            rw [e] at e1
            cases e1
            exact e2
  cases hk : K.lookup a with
  | some o =>
    have e := KX a o hk
    rw [ha] at e
    cases e
    refine core (fun _ => none) (fun _ => .inl rfl) (.inr ⟨_, vs.toArray, _, hk, rfl, rfl, rfl, by rw [List.size_toArray, lenV]; exact hl, by simpa using rv⟩)
      (fun b u z => by cases (show (none : Option HO) = some u from z)) (fun b z => absurd rfl z) fun z => absurd rfl z
  | none =>
    refine core (fun b => if b = a then some (.frz { cls := .type "list", data := .seq vs.toArray } (.lst (ns.map V.int))) else none)
      (fun b => ?_) (.inl (.inr ⟨{ cls := .type "list", data := .seq vs.toArray }, if_pos rfl⟩)) (fun b u z => ?_) (fun b z => ?_) fun _ => hk
    · by_cases hb : b = a
      · exact .inr ⟨_, _, if_pos hb⟩
      · exact .inl (if_neg hb)
    · by_cases hb : b = a
      · have z1 := (if_pos hb).symm.trans z
        cases z1
        subst hb
        exact ⟨ha, by rw [List.length_map]; exact hl, vs, _, rv, ha⟩
      · have z1 := (if_neg hb).symm.trans z
        cases z1
    · by_cases hb : b = a
      · exact hb
      · exact absurd (if_neg hb) z
theorem walk_G {l : PySem.W.OpenLaw} {n k : Nat} {q : Program} {loose : List Str} {XP : (Str → Option Value) → Heap → Prop} {YP : World → Heap → Prop} {d : DefRec} {K : Params → PySem.W.Frag} {sp : PySem.W.Frag → Sp} {x : Str}
    (hn : l.most = some n) (hn2 : n ≤ sizeLine) (hdf : d.params.defaults = []) (hr : Room k callerA)
    (hY : ∀ (w : World) (h : Heap), YP w h → (K w.params).In h)
    (F : ∀ (w : World) (mg : Str → Option Value) (fa : Addr) (h : Heap), (K w.params).In h → h.Ns mainGlobals mg → mg d.name = some (.ref fa) →
      ∃ fd : FuncData, (∀ (s : Shared) (u : Value), BindsTo s fd ⟨[u], []⟩ [(x, u)]) ∧
        ∀ base : Heap, (K w.params).In base → base.Ns mainGlobals mg → FnG l.prog w (K w.params) mg base CX0 k fa fd [x] (sp (K w.params)))
    (hsp : ∀ (K : PySem.W.Frag) (H : Hp) (a : Addr) (ns : List Int), ns.length ≤ n → Only H → SqL K H a (ns.map V.int) → sp K [.ref a] H (fun v _ => v = .bl true) fun _ _ _ => False) :
    PySem.W.WalkO q loose XP YP l.row.toRowW d [] (fun f vs => PySem.call f vs) := by
  refine Att.attach_call hn hdf fun w s₀ s1 mg mb fa o pm cd doc a vs ns G Y ho hd hcd hmg hobj hints hlen hg => ?_
  have KX := hY w _ Y
  obtain ⟨fd, hb, hF⟩ := F w mg fa _ KX G.T.g hmg
  exact law_callG KX G.T.g G.T.b G.T.builtins G.T.nolimit hg hobj hints (Nat.le_trans hlen hn2) hr hF hb (fun H hO hS => hsp (K w.params) H a ns hlen hO hS) fun _ _ _ z => z
end L2
namespace L2
open PySem PySem.Spec PyProof.Rows PySem.GX
/-! sets of texts that can be walked: ys are the members, none twice -/
def keyS (e : Int × Value) : Str := match e.2 with | .str k _ => k | _ => Str.empty
def GoodS (w : World) (e : Int × Value) : Prop := ∃ k tk, e.2 = Value.str k tk ∧ e.1 = hashStr w k
def SetT (w : World) (h : Heap) (a : Addr) (ys : List Str) : Prop :=
  ∃ o es ep t, h.get? a = some o ∧ o.ExactSet ∧ o.data = .set es ep t ∧ (∀ e ∈ es.toList, GoodS w e) ∧ (es.toList.map keyS).Perm ys ∧ ys.Nodup ∧
    es.size < scanBound ∧ t.fits es.size = true ∧ Ris t.place.toList ∧ (w.params.followText "set-order" = true ∨ t.led = true)
/-- one more member -/
def ins (ys : List Str) (k : Str) : List Str := if k ∈ ys then ys else k :: ys
theorem ins_nodup {ys : List Str} {k : Str} (h : ys.Nodup) : (ins ys k).Nodup := by
  unfold ins
  split
  · exact h
  · exact List.nodup_cons.mpr ⟨‹_›, h⟩
theorem ins_len (ys : List Str) (k : Str) : (ins ys k).length ≤ ys.length + 1 := by
  unfold ins
  split
  · omega
  · rw [List.length_cons]; omega
section
variable {P : Program} {w : World} {h h' : Heap} {a : Addr} {ys : List Str}
theorem SetT.at (R : SetT w h a ys) (k : ∀ o, h.get? a = some o → h'.get? a = some o) : SetT w h' a ys := by
  obtain ⟨o, es, ep, t, ho, r⟩ := R
  exact ⟨o, es, ep, t, k o ho, r⟩
theorem goodS_elems {l : List (Int × Value)} (g : ∀ e ∈ l, GoodS w e) : ElemsOf (strKind P w) l := fun e he => by
  obtain ⟨k, tk, h1, h2⟩ := g e he
  exact ⟨⟨k, by rw [h1]; exact strKind_is P w k tk, h2⟩, by rw [h1] <;> rfl⟩
theorem goodS_is {e : Int × Value} (g : GoodS w e) (k : Str) : (strKind P w).is k e.2 = true ↔ keyS e = k := by
  obtain ⟨k0, tk, h1, _⟩ := g
  unfold keyS
  rw [h1]
  constructor
  · intro z
    obtain ⟨t, e2⟩ := Value.isStrOf_shape (x := k) (v := .str k0 tk) z
    cases e2
    rfl
  · intro z
    have z' : k0 = k := z
    rw [z']
    exact strKind_is P w k tk
theorem goodS_mem {l : List (Int × Value)} (g : ∀ e ∈ l, GoodS w e) (k : Str) : k ∈ l.map keyS ↔ ∃ e ∈ l, (strKind P w).is k e.2 = true := by
  rw [List.mem_map]
  constructor
  · rintro ⟨e, he, q⟩
    exact ⟨e, he, (goodS_is (g e he) k).2 q⟩
  · rintro ⟨e, he, q⟩
    exact ⟨e, he, (goodS_is (g e he) k).1 q⟩
end
section
variable {P : Program} {w : World} {A : Around} {E : Value → Shared → Prop} {s : Shared} {a : Addr} {ys : List Str}
theorem setT_tail {g : Bool → Sem Unit} (hg : ∀ (b : Bool) (s₁ : Shared) (Q' : Unit → Shared → Prop), Q' () s₁ → wpAny (model P w) A (g b) Q' E s₁)
    {o : Obj} {es : Array (Int × Value)} {ep : Nat} {t : SetTable} (ho : s.heap.get? a = some o) (hex : o.ExactSet) (hd : o.data = .set es ep t)
    {es1 : Array (Int × Value)} {t2 : SetTable} {zs : List Str} (g1 : ∀ e ∈ es1.toList, GoodS w e) (p1 : (es1.toList.map keyS).Perm zs) (nd1 : zs.Nodup)
    (hb1 : es1.size < scanBound) (hf2 : t2.fits es1.size = true) (hr : Ris t2.place.toList) (hl : w.params.followText "set-order" = true ∨ t2.led = true) {wd : Bool} {R : Option Bool → Shared → Prop}
    (hR : ∀ h', Heap.SameBut a s.heap h' → SetT w h' a zs → R (some true) { s with heap := h' }) :
    wpAny (model P w) A (do
        storeSet a es1 t2
        if (!wd && t2.tooFull) = true then do
            g (relayAll t2 es1 (SetTable.grown es1.size)).2.2
            storeSet a (relayAll t2 es1 (SetTable.grown es1.size)).1 (relayAll t2 es1 (SetTable.grown es1.size)).2.1
            pure (some true)
          else pure (some true)) R E s := by
  refine wpAny_bind (wpAny_storeSet_of ho hd ?_ (fits_of_scanBound hb1))
  have ho1 := store_at (es' := es1) (t' := t2) ho hd
  have sb1 := Heap.SameBut.update s.heap a (Obj.putSet es1 t2)
  split
  · have c1 := relayAll_perm t2 es1 (SetTable.grown es1.size)
    have c2 := relayAll_fits t2 es1 (SetTable.grown es1.size)
    have c3 := relayAll_ris t2 es1 (SetTable.grown es1.size)
    have c4 := relayAll_led t2 es1 (SetTable.grown es1.size)
    generalize relayAll t2 es1 (SetTable.grown es1.size) = Z at c1 c2 c3 c4 ⊢
    obtain ⟨es2, t3, gv⟩ := Z
    dsimp only at c1 c2 c3 c4 ⊢
    have hsz : es2.size = es1.size := by
      rw [← Array.length_toList, c1.length_eq, Array.length_toList]
    have hb2 : es2.size < scanBound := by rw [hsz]; exact hb1
    refine wpAny_bind (hg _ _ _ ?_)
    refine wpAny_bind (wpAny_storeSet_of ho1 rfl ?_ (fits_of_scanBound hb2))
    have ho2 := store_at (es' := es2) (t' := t3) ho1 rfl
    refine wpAny_pure (hR _ (sb1.trans (Heap.SameBut.update _ a _)) ?_)
    exact ⟨_, es2, _, t3, ho2, hex, rfl, fun e he => g1 e (c1.mem_iff.mp he), (c1.map keyS).trans p1, nd1, hb2, c2, c3, hl.imp id fun z => by rw [c4]; exact z⟩
  · exact wpAny_pure (hR _ sb1 ⟨_, es1, _, t2, ho1, hex, rfl, g1, p1, nd1, hb1, hf2, hr, hl⟩)
theorem setT_add {k : Str} {tk : Tok} {Q : Bool → Shared → Prop} (R : SetT w s.heap a ys) (room : ys.length + 1 < scanBound)
    (hQ : ∀ (b : Bool) h', Heap.SameBut a s.heap h' → SetT w h' a (ins ys k) → Q b { s with heap := h' }) :
    wpAny (model P w) A (setAddHashed a (.str k tk) ((strKind P w).hash k)) Q E s := by
  obtain ⟨o, es, ep, t, ho, hex, hd, g, pm0, nd, hb, hf, hr, hl⟩ := R
  have hkey : (strKind P w).is k (.str k tk) = true := strKind_is P w k tk
  have hsc : (Value.str k tk).scannable = true := rfl
  have hel : ElemsOf (strKind P w) es.toList := goodS_elems g
  unfold setAddHashed setAddHashedIn
  refine wpAny_holding (wpAny_bind (wpAny_setState_of ho hd hf ?_))
  dsimp only
  rw [byScan_of hsc hb hel]
  simp only [↓reduceIte]
  unfold setAddByScan
  refine wpAny_bind ?_
  refine wpAny_bind (wpAny_rule ?_)
  refine wpAny_bind (wpAny_setScan_of hkey ho hd hf hel ?_)
  cases hfi : List.findIdx? (fun e => (strKind P w).is k e.2) es.toList with
  | some j =>
    dsimp only
    obtain ⟨hj, pj, _⟩ := List.findIdx?_eq_some_iff_getElem.mp hfi
    have hk : k ∈ ys := pm0.mem_iff.mp ((goodS_mem (P := P) (w := w) g k).2 ⟨es.toList[j], List.getElem_mem hj, pj⟩)
    refine wpAny_pure (wpAny_pure ?_)
    exact hQ _ s.heap (Heap.SameBut.refl a s.heap) ⟨o, es, ep, t, ho, hex, hd, g, by unfold ins; rw [if_pos hk]; exact pm0, ins_nodup nd, hb, hf, hr, hl⟩
  | none =>
    dsimp only
    have hnk : k ∉ ys := fun z => by
      obtain ⟨e, he, q⟩ := (goodS_mem (P := P) (w := w) g k).1 (pm0.mem_iff.mpr z)
      have c := List.findIdx?_eq_none_iff.mp hfi e he
      rw [q] at c
      cases c
    have hgw : ∀ (b : Bool) {s₁ : Shared} {Q' : Unit → Shared → Prop}, Q' () s₁ → wpAny (model P w) A (match b with | true => rule "set.scan.the-table-gave-way" | false => pure ()) Q' E s₁ :=
      fun b s₁ Q' q => by cases b <;> first | exact wpAny_pure q | exact wpAny_rule q
    have c1 := layNew_perm t es ((strKind P w).hash k) (.str k tk)
    have c2 := layNew_fits t es ((strKind P w).hash k) (.str k tk)
    have c3 := layNew_ris t es ((strKind P w).hash k) (.str k tk) hr
    have c4 := layNew_led t es ((strKind P w).hash k) (.str k tk)
    generalize layNew t es ((strKind P w).hash k) (.str k tk) = Z at c1 c2 c3 c4 ⊢
    obtain ⟨es1, t1, wasDummy, gave⟩ := Z
    dsimp only at c1 c2 c3 c4 ⊢
    rw [Array.toList_push] at c1
    have pc : es1.toList.Perm (((strKind P w).hash k, Value.str k tk) :: es.toList) := c1.trans (List.perm_append_singleton _ _)
    have pk : (es1.toList.map keyS).Perm (ins ys k) := by
      unfold ins
      rw [if_neg hnk]
      exact (pc.map keyS).trans (List.Perm.cons k pm0)
    have g1 : ∀ e ∈ es1.toList, GoodS w e := fun e he => by
      rcases List.mem_cons.mp (pc.mem_iff.mp he) with z | z
      · rw [z]; exact ⟨k, tk, rfl, rfl⟩
      · exact g e z
    have hsz : es1.size = ys.length + 1 := by
      rw [← Array.length_toList, pc.length_eq, List.length_cons, ← pm0.length_eq, List.length_map]
    have hb1 : es1.size < scanBound := by rw [hsz]; exact room
    have hled : w.params.followText "set-order" = true ∨ t1.led = true := hl.imp id fun z => by rw [c4]; exact z
    refine wpAny_bind (hgw _ ?_)
    split
    · refine wpAny_bind ?_
      rw [hashByValue_scannable 8 hsc]
      refine wpAny_pure ?_
      refine setT_tail ?_ ho hex hd g1 pk (ins_nodup nd) hb1 ?_ ?_ ?_ ?_
      · intro b s₁ Q' q; cases b <;> first | exact wpAny_pure q | exact wpAny_rule q
      · first | (split <;> first | exact c2 | exact SetTable.fits_plain_off c2) | exact c2
      · first | (split <;> exact c3) | exact c3
      · first | (split <;> exact hled) | exact hled
      · intro h' sb r; dsimp only; exact wpAny_pure (hQ _ h' sb r)
    · refine wpAny_bind (wpAny_pure ?_)
      simp only [↓reduceIte]
      refine setT_tail ?_ ho hex hd g1 pk (ins_nodup nd) hb1 c2 c3 hled ?_
      · intro b s₁ Q' q; cases b <;> first | exact wpAny_pure q | exact wpAny_rule q
      · intro h' sb r; dsimp only; exact wpAny_pure (hQ _ h' sb r)
end
end L2
namespace L2
open PySem PySem.Spec PyProof.Rows PySem.GX
def setFold (xs : List Str) : List Str := xs.foldl ins []
theorem setFold_snoc (xs : List Str) (x : Str) : setFold (xs ++ [x]) = ins (setFold xs) x := by
  unfold setFold
  rw [List.foldl_append]
  rfl
theorem setFold_len : ∀ (n : Nat) (xs : List Str), xs.length = n → (setFold xs).length ≤ n
  | 0, xs, h => by
    have := List.length_eq_zero_iff.mp h
    subst this
    exact Nat.le_refl 0
  | n + 1, xs, h => by
    obtain ⟨ys, y, rfl⟩ : ∃ ys y, xs = ys ++ [y] := ⟨xs.dropLast, xs.getLast (by intro z; rw [z] at h; cases h), (List.dropLast_concat_getLast _).symm⟩
    rw [List.length_append, List.length_singleton] at h
    have h1 := setFold_len n ys (by omega)
    have h2 := ins_len (setFold ys) y
    rw [setFold_snoc]
    omega
section
variable {prog : Program} {w : World} {A : Around} {R : Result → Shared → Prop} {I : Addr} {fp wr : List Addr} {G : Array GenState → Array GenState → Prop} {n : Nat} {Pv : Nat → Value → Prop} {St : Nat → Shared → Prop}
theorem loopT (W : WalksS prog w A.in1 I fp wr G n Pv St) (S : Addr) (hSf : S ∉ fp) (xs : List Str) (hsz : xs.length = n) (hn : n + 1 < scanBound)
    (hval : ∀ i v, Pv i v → ∃ x t, xs[i]? = some x ∧ v = .str x t) :
    ∀ (k i : Nat) (s : Shared), n - i = k → i ≤ n → St i s → SetT w s.heap S (setFold (xs.take i)) →
      (∀ s', Moved (S :: wr) G s s' → SetT w s'.heap S (setFold xs) → R (.ok (.ret .none)) s') →
      codeAny (model prog w) A (.builtin "set.update.loop" ⟨[.ref S, .ref I], []⟩) R s := by
  have hSw : S ∉ wr := fun h => hSf (W.sub _ h)
  have up : ∀ b ∈ wr, b ∈ S :: wr := fun b hb => List.mem_cons_of_mem _ hb
  intro k
  induction k with
  | zero =>
    intro i s hk hi hst hS hR
    have hin : i = n := by omega
    subst hin
    refine codeAny_builtin PyProof.Rows.F.entry_set_update_loop ?_
    rw [Around.under_plainId PyProof.Rows.F.plain_set_update_loop _]
    show wpAny _ A.in1 (pyNext (.ref I) >>= _) _ _ s
    refine wpAny_bind (W.done s _ _ hst fun s' hm => ?_)
    show wpAny _ A.in1 (ret Value.none) _ _ s'
    rw [List.take_of_length_le (by omega)] at hS
    exact wpAny_pure (hR s' (hm.mono up) (hS.at fun o e => hm.heap S _ hSw e))
  | succ k ih =>
    intro i s hk hi hst hS hR
    have hlt : i < n := by omega
    refine codeAny_builtin PyProof.Rows.F.entry_set_update_loop ?_
    rw [Around.under_plainId PyProof.Rows.F.plain_set_update_loop _]
    show wpAny _ A.in1 (pyNext (.ref I) >>= _) _ _ s
    refine wpAny_bind (W.item i s _ _ hlt hst fun v s' hP hst' hm => ?_)
    obtain ⟨x, t, hx, rfl⟩ := hval i v hP
    have hS1 : SetT w s'.heap S (setFold (xs.take i)) := hS.at fun o e => hm.heap S _ hSw e
    show wpAny _ A.in1 (holding [Value.str x t] (setAdd S (.str x t)) >>= _) _ _ s'
    refine wpAny_bind (wpAny_holding ?_)
    unfold setAdd
    refine wpAny_holding ?_
    refine wpAny_bind ((PySem.strKind prog w).pyHash (k := x) (strKind_is _ _ _ _) ?_)
    have lf := setFold_len i (xs.take i) (by rw [List.length_take]; omega)
    refine setT_add (s := { s' with toks := s'.toks + 1 }) hS1 (by omega) fun b h' hsb hS2 => ?_
    have e1 : xs.take (i + 1) = xs.take i ++ [x] := by
      rw [List.take_succ, hx]
      rfl
    have hS3 : SetT w h' S (setFold (xs.take (i + 1))) := by
      rw [e1, setFold_snoc]
      exact hS2
    refine wpAny_pure ⟨plainId_quiet PyProof.Rows.F.plain_set_update_loop _, ih (i + 1) _ (by omega) hlt (W.frame _ s' _ _ hst' (Nat.le_succ _) fun b hb o e => ?_) hS3 fun s'' hm'' hS'' => ?_⟩
    · rw [hsb.2 b (fun h : b = S => hSf (by rw [← h]; exact hb))]
      exact e
    · refine hR s'' (Moved.trans W.gtrans ((hm.mono up).then_heap (Nat.le_succ _) fun b o hb e => ?_) hm'') hS''
      rw [hsb.2 b (fun h : b = S => hb (by rw [h]; exact List.mem_cons_self))]
      exact e
end
section
variable {prog : Program} {w : World} {A : Around} {E : Value → Shared → Prop} {s : Shared}
abbrev newSet (w : World) : Obj := { cls := .type "set", dict := none, data := .set #[] 0 (.fresh 0 0 (!w.params.followText "set-order")) }
theorem setT_fresh {h : Heap} (w : World) : SetT w (h.push (newSet w)) h.objs.size [] :=
  ⟨_, #[], 0, _, Heap.get?_push_size _ rfl, ⟨rfl, rfl, rfl⟩, rfl, (fun e he => by simp at he), List.Perm.refl _, List.nodup_nil, (by decide), (by rfl), List.Pairwise.nil, by
    show _ ∨ (!w.params.followText "set-order") = true
    cases w.params.followText "set-order"
    · exact .inr rfl
    · exact .inl rfl⟩
theorem code_setNew (a : Value) {Q1 : Value → Shared → Prop} (h : Q1 (.ref s.heap.objs.size) { s with heap := s.heap.push (newSet w) }) :
    codeAny (model prog w) A (.call (.builtin "set.__new__") ⟨[.type "set", a], []⟩) (wants Q1 E) s := by
  refine codeAny_of_tree ?_
  show wpAny _ A.in1 (do checkBuiltinCall "set.__new__" ⟨[.type "set", a], []⟩; again (.builtin "set.__new__" ⟨[.type "set", a], []⟩)) _ _ s
  refine wpAny_bind (wpAny_of_eq (F.newCall_set_1 a) (wpAny_pure ⟨plainId_quiet F.plain_set_new _, codeAny_builtin F.entry_set_new ?_⟩))
  rw [Around.under_plainId F.plain_set_new _]
  unfold Builtin.«set.__new__» Builtin.Frozenset.newClass
  have hsub := sub_set_self
  obtain ⟨hp, g, d, tk, os⟩ := s
  dsimp only
  wp_walk
  refine wpAny_askSetting (wpAny_pure ?_)
  dsimp only
  simp only [newObj]
  refine wpAny_bind (wpAny_alloc (wpAny_pure ?_))
  exact wpAny_pure h
theorem sub_str_set : isSubtype (.type "str") (.type "set") = pure false := by
  rw [isSubtype_type]; kernel_rfl
theorem sub_str_frozenset : isSubtype (.type "str") (.type "frozenset") = pure false := by
  rw [isSubtype_type]; kernel_rfl
/-- set(x): the new set, then the iterable's items (hinit: what set.__init__ does) -/
theorem call_set1 {v : Value} {ys : List Str} {Q : Value → Shared → Prop}
    (hinit : ∀ (R : Result → Shared → Prop), (∀ h' tk, SetT w h' s.heap.objs.size ys → (∀ b o, b < s.heap.objs.size → s.heap.get? b = some o → h'.get? b = some o) → R (.ok (.ret .none)) { s with heap := h', toks := tk }) →
      wpAny (model prog w) A.in1.in1 (Builtin.«set.__init__» ⟨[.ref s.heap.objs.size, v], []⟩) (fun fin s' => match fin with | .done f => R (.ok f) s' | .again c => c.quiet = true ∧ codeAny (model prog w) A.in1 c R s')
        (fun e s' => R (.error e) s') { s with heap := s.heap.push (newSet w) })
    (h : ∀ (h' : Heap) (tk : Nat), SetT w h' s.heap.objs.size ys → (∀ b o, b < s.heap.objs.size → s.heap.get? b = some o → h'.get? b = some o) → Q (.ref s.heap.objs.size) { s with heap := h', toks := tk }) :
    wpAny (model prog w) A (call (.type "set") [v]) Q E s := by
  obtain ⟨c, tl, hmro⟩ := PySem.F.called_set.mro
  have z1 := PySem.F.called_set.made
  have z2 := PySem.F.called_set.sub
  refine wpAny_call (codeAny_of_tree ?_)
  show wpAny _ _ (callAny (.type "set") _) _ _ _
  refine wpAny_pure ⟨Code.quiet_builtin _ (by decide +kernel), codeAny_builtin PySem.F.entry_type_call ?_⟩
  rw [Around.under_plain (weight_type_call_type "set" [v] []) rfl]
  have z3 := PySem.F.called_set.notType
  have z4 := PySem.F.called_set.canCreate
  have z5 := F.typeCall_set_1 v
  repeat (any_goals (first | assumption | wp_step))
  refine codeAny_mono (code_setNew v (E := E) (Q1 := fun obj s₁ => obj = .ref s.heap.objs.size ∧ s₁ = { s with heap := s.heap.push (newSet w) }) ⟨rfl, rfl⟩) fun r s₁ hr => ?_
  cases r with
  | error e => exact hr
  | ok fl =>
    cases fl with
    | ret obj =>
      obtain ⟨rfl, rfl⟩ := hr
      have hS : (s.heap.push (newSet w)).get? s.heap.objs.size = some (newSet w) := Heap.get?_push_size _ rfl
      have hT : Shared.TypeIs { s with heap := s.heap.push (newSet w) } (.ref s.heap.objs.size) "set" := ⟨_, hS, rfl⟩
      have z6 := PySem.F.called_set.init.lookup
      have z7 := PySem.F.called_set.init.bind (.ref s.heap.objs.size)
      repeat (any_goals (first | assumption | wp_step))
      refine codeAny_mono (codeAny_call_builtin (R := wants (fun r s₂ => r = .none ∧ ∃ h' tk, s₂ = { s with heap := h', toks := tk } ∧ SetT w h' s.heap.objs.size ys ∧ (∀ b o, b < s.heap.objs.size → s.heap.get? b = some o → h'.get? b = some o)) E)
        PySem.F.called_set.init.plain PySem.F.entry_set_init (check_set_init_1 hT ?_)) fun r₂ s₂ hr₂ => ?_
      · refine hinit (wants (fun r s₂ => r = .none ∧ ∃ h' tk, s₂ = { s with heap := h', toks := tk } ∧ SetT w h' s.heap.objs.size ys ∧ (∀ b o, b < s.heap.objs.size → s.heap.get? b = some o → h'.get? b = some o)) E) ?_
        exact fun h' tk a1 a2 => ⟨rfl, h', tk, rfl, a1, a2⟩
      · cases r₂ with
        | error e => exact hr₂
        | ok fl₂ =>
          cases fl₂ with
          | ret r =>
            obtain ⟨rfl, h', tk, rfl, b1, b2⟩ := hr₂
            repeat (any_goals (first | assumption | wp_step))
            exact h _ _ b1 b2
          | _ => exact hr₂.elim
    | _ => exact hr.elim
end
end L2
namespace L2
open PySem PySem.Spec PyProof.Rows PySem.GX
section
variable {prog : Program} {w : World} {A : Around} {E : Value → Shared → Prop} {s : Shared}
theorem init_str {x : Str} {t : Tok} (hh : A.handled = none) (hz : x.length + 1 < scanBound) (R : Result → Shared → Prop)
    (hR : ∀ h' tk, SetT w h' s.heap.objs.size (setFold (x.cps.toList.map fun c => ⟨#[c]⟩)) → (∀ b o, b < s.heap.objs.size → s.heap.get? b = some o → h'.get? b = some o) → R (.ok (.ret .none)) { s with heap := h', toks := tk }) :
    wpAny (model prog w) A.in1.in1 (Builtin.«set.__init__» ⟨[.ref s.heap.objs.size, .str x t], []⟩) (fun fin s' => match fin with | .done f => R (.ok f) s' | .again c => c.quiet = true ∧ codeAny (model prog w) A.in1 c R s')
      (fun e s' => R (.error e) s') { s with heap := s.heap.push (newSet w) } := by
  have hS : (s.heap.push (newSet w)).get? s.heap.objs.size = some (newSet w) := Heap.get?_push_size _ rfl
  have y1 := sub_str_set
  have y2 := sub_str_frozenset
  have y3 : (Value.type "str" == Value.type "dict") = false := by decide
  have hT0 : Shared.TypeIs { s with heap := s.heap.push (newSet w) } (.str x t) "str" := typeIs_str _ _ _
  unfold Builtin.«set.__init__» noKeywords Builtin.Frozenset.updateFrom
  generalize hPI : pyIter = PI
  wp_walk
  subst hPI
  refine wpAny_pyIter_str (s := { s with heap := s.heap.push (newSet w) }) (fun o St W hst => ?_)
  refine wpAny_bind (wpAny_runValue ?_)
  have z1 : (s.heap.push (newSet w)).objs.size = s.heap.objs.size + 1 := Heap.size_push _ _
  have hSf : s.heap.objs.size ∉ [(s.heap.push (newSet w)).objs.size] := by
    rw [z1]
    simp only [List.mem_singleton]
    omega
  have hsz : (x.cps.toList.map fun c => (⟨#[c]⟩ : Str)).length = x.cps.size := by
    rw [List.length_map, Array.length_toList]
  refine loopT ((W A.in1.in1.in1 (by simp [hh])).toS) s.heap.objs.size hSf (x.cps.toList.map fun c => ⟨#[c]⟩) hsz hz (fun i v hv => ?_) (x.cps.size - 0) 0 _ (by omega) (Nat.zero_le _) hst ?_ ?_
  · obtain ⟨c, u, hc, rfl⟩ := hv
    exact ⟨_, u, by rw [List.getElem?_map, Array.getElem?_toList, hc]; rfl, rfl⟩
  · exact (setT_fresh w).at fun u e => Heap.get?_push_of_some _ e
  · intro s' hm hS'
    obtain ⟨h', g', d', tk', os'⟩ := s'
    have eg : g' = s.gens := hm.gens
    have ed : d' = s.drawn := hm.drawn
    have eo : os' = s.os := hm.os
    subst eg; subst ed; subst eo
    show wpAny _ _ _ _ _ _
    refine wpAny_pure ?_
    show wpAny _ _ (ret Value.none) _ _ _
    refine wpAny_pure (hR h' tk' hS' fun b u hb e => ?_)
    refine hm.heap b u (fun hmem => ?_) (Heap.get?_push_of_some _ (Heap.get?_push_of_some _ e))
    rcases List.mem_cons.mp hmem with q | q
    · exact absurd (q ▸ hb) (Nat.lt_irrefl _)
    · have q2 := List.mem_singleton.mp q
      rw [z1] at q2
      exact absurd (Nat.lt_succ_of_lt (q2 ▸ hb)) (Nat.lt_irrefl _)
theorem init_list {l : Addr} {items : Array Value} {xs : List Str} (hh : A.handled = none) (hl : s.heap.IsList l items) (hi : PyProof.Rows.StrsAre items.toList xs) (hz : xs.length + 1 < scanBound) (R : Result → Shared → Prop)
    (hR : ∀ h' tk, SetT w h' s.heap.objs.size (setFold xs) → (∀ b o, b < s.heap.objs.size → s.heap.get? b = some o → h'.get? b = some o) → R (.ok (.ret .none)) { s with heap := h', toks := tk }) :
    wpAny (model prog w) A.in1.in1 (Builtin.«set.__init__» ⟨[.ref s.heap.objs.size, .ref l], []⟩) (fun fin s' => match fin with | .done f => R (.ok f) s' | .again c => c.quiet = true ∧ codeAny (model prog w) A.in1 c R s')
      (fun e s' => R (.error e) s') { s with heap := s.heap.push (newSet w) } := by
  have hS : (s.heap.push (newSet w)).get? s.heap.objs.size = some (newSet w) := Heap.get?_push_size _ rfl
  obtain ⟨ol, hol, hcl, nl, hdl⟩ := hl
  obtain ⟨ocls, odict, odata, oslots⟩ := ol
  simp only at hcl hdl
  subst hcl; subst hdl
  have hol1 : (s.heap.push (newSet w)).get? l = some { cls := .type "list", dict := odict, data := .seq items nl, slots := oslots } := Heap.get?_push_of_some _ hol
  have y1 := F.sub_list_set
  have y2 := F.sub_list_frozenset
  have y3 : (Value.type "list" == Value.type "dict") = false := by decide
  have hl1 : (s.heap.push (newSet w)).IsList l items := ⟨_, hol1, rfl, nl, rfl⟩
  unfold Builtin.«set.__init__» noKeywords Builtin.Frozenset.updateFrom
  generalize hPI : pyIter = PI
  wp_walk
  subst hPI
  refine wpAny_pyIter_list hl1 ?_
  refine wpAny_bind (wpAny_runValue ?_)
  have z1 : (s.heap.push (newSet w)).objs.size = s.heap.objs.size + 1 := Heap.size_push _ _
  have hlS : l < s.heap.objs.size := Heap.lt_size hol
  have hneI : l ≠ (s.heap.push (newSet w)).objs.size := by
    rw [z1]; exact Nat.ne_of_lt (Nat.lt_succ_of_lt hlS)
  have hSf : s.heap.objs.size ∉ [(s.heap.push (newSet w)).objs.size, l] := by
    rw [z1]
    simp only [List.mem_cons, List.mem_singleton, List.not_mem_nil, or_false, not_or]
    exact ⟨Nat.ne_of_lt (Nat.lt_succ_self _), Nat.ne_of_gt hlS⟩
  have hsz : xs.length = items.size := by
    rw [← StrsAre.len_eq hi, Array.length_toList]
  have hval : ∀ (i : Nat) (v : Value), items[i]? = some v → ∃ x t, xs[i]? = some x ∧ v = .str x t := fun i v hv => by
    have hlt : i < items.size := (Array.getElem?_eq_some_iff.mp hv).1
    obtain ⟨t, e⟩ := SS.strs_at hi i v (by rw [Array.getElem?_toList]; exact hv)
    have hx : xs[i]? = some (xs.getD i Str.empty) := by
      rw [List.getD_eq_getElem?_getD, List.getElem?_eq_getElem (by omega)]
      rfl
    exact ⟨_, t, hx, e⟩
  refine loopT ((Walks.list (A := A.in1.in1.in1) (by simp [hh]) _ l hneI items).toS) s.heap.objs.size hSf xs hsz (by omega) hval (items.size - 0) 0 _ (by omega) (Nat.zero_le _) ⟨⟨_, Heap.get?_push_size _ rfl, rfl, rfl⟩, (hl1.push _)⟩ ?_ ?_
  · exact (setT_fresh w).at fun u e => Heap.get?_push_of_some _ e
  · intro s' hm hS'
    obtain ⟨h', g', d', tk', os'⟩ := s'
    have eg : g' = s.gens := hm.gens
    have ed : d' = s.drawn := hm.drawn
    have eo : os' = s.os := hm.os
    subst eg; subst ed; subst eo
    show wpAny _ _ _ _ _ _
    refine wpAny_pure ?_
    show wpAny _ _ (ret Value.none) _ _ _
    refine wpAny_pure (hR h' tk' hS' fun b u hb e => ?_)
    refine hm.heap b u (fun hmem => ?_) (Heap.get?_push_of_some _ (Heap.get?_push_of_some _ e))
    rcases List.mem_cons.mp hmem with q | q
    · exact absurd (q ▸ hb) (Nat.lt_irrefl _)
    · have q2 := List.mem_singleton.mp q
      rw [z1] at q2
      exact absurd (Nat.lt_succ_of_lt (q2 ▸ hb)) (Nat.lt_irrefl _)
end
end L2
namespace L2
open PySem PySem.Spec PyProof.Rows PySem.GX
/-- the signs of a text, each as a text -/
def signsOf (x : Str) : List Str := x.cps.toList.map fun c => ⟨#[c]⟩
/-- the set of texts at a, its members ys -/
def SetTx (w : World) (a : Addr) (ys : List Str) : HO := .ext fun h => SetT w h a ys
theorem setTx_new {w : World} {P : Program} {H : Hp} {h : Heap} {a : Addr} {ys : List Str} (R : SetT w h a ys) : ObjOk P w H h a (SetTx w a ys) := by
  have ⟨o, _, _, _, ho, _⟩ := R
  exact ⟨R, ⟨o, ho⟩, fun h1 h2 p k => p.at k⟩
theorem strs_list : ∀ {l : List Value}, (∀ v ∈ l, ∃ k tk, v = Value.str k tk) → ∃ ss, StrsAre l ss ∧ ss = l.map (fun v => keyS (0, v))
  | [], _ => ⟨[], .nil, rfl⟩
  | v :: l, h => by
    obtain ⟨k, tk, rfl⟩ := h v List.mem_cons_self
    obtain ⟨ss, a, b⟩ := strs_list (l := l) fun u hu => h u (List.mem_cons_of_mem _ hu)
    exact ⟨k :: ss, .cons k tk a, by rw [b]; rfl⟩
section
variable {P : Program} {w : World} {A : Around} {E : Value → Shared → Prop} {s : Shared} {a : Addr} {ys : List Str}
theorem sorted_setT {Q : Value → Shared → Prop} (R : SetT w s.heap a ys) (hh : A.handled = none)
    (hQ : ∀ s' p (out : Array Value) (c : Nat) (zs : List Str), (∀ b o, s.heap.get? b = some o → s'.heap.get? b = some o) → s'.gens = s.gens → s'.os = s.os → s.heap.objs.size ≤ p →
      s'.heap.get? p = some (seqObj "list" out c) → StrsAre out.toList zs → zs.Perm ys → sortedS zs = true → Q (.ref p) s') :
    wpAny (model P w) A (call (.builtin "sorted") [.ref a]) Q E s := by
  obtain ⟨o, es, ep, t, ho, hex, hd, g, pm0, nd, hb, hf, hr, hl⟩ := R
  refine Calls.call_function_entry kind_sorted plain_sorted entry_sorted (args_sorted1 _) ?_
  unfold Builtin.«sorted»
  refine wpAny_bind (m := checkCount "sorted" 1 1 _) (wpAny_pure ?_)
  refine wpAny_bind (collect_set (A := A.in1) hh ⟨o, ho, hex.1, hd⟩ hf hb hr hl fun s1 vs k1 hz g1 o1 pm => ?_)
  have hvl : vs.length = es.size := by
    rw [pm.length_eq, List.length_map, Array.length_toList]
  obtain ⟨ss, hS, hss⟩ := strs_list (l := vs) fun v hv => by
    obtain ⟨e, he, q⟩ := List.mem_map.mp (pm.mem_iff.mp hv)
    obtain ⟨k, tk, h1, _⟩ := g e he
    exact ⟨k, tk, by rw [← q]; exact h1⟩
  have ps : ss.Perm ys := by
    have q := pm.map (fun v => keyS (0, v))
    rw [List.map_map, ← hss] at q
    exact q.trans pm0
  have small : vs.length ≤ sizeLine := by
    rw [hvl]
    exact fits_of_scanBound hb
  refine wpAny_bind (wpAny_newList ?_ small)
  have hoL : (s1.heap.push (seqObj "list" vs.toArray 0)).get? s1.heap.objs.size = some (seqObj "list" vs.toArray 0) := Heap.get?_push_size _ rfl
  refine wpAny_bind (wpAny_holding (wpAny_call_entry slot_list_sort ⟨_, hoL, rfl⟩ entry_list_sort
    (list_sort_treeKAny PyProof.Rows.strKind_oneLt hoL hS.keysOf (fun v₁ v₂ rest e => keyKind_strs (by rw [← e]; exact hS)) small fun st' a1 a2 => ⟨_, rfl, ?_⟩) (args_list_sort _)))
  obtain ⟨zs, h1, h2, h3⟩ := sorted_out_str hS a1 a2
  obtain ⟨c, hc⟩ := sortedHeap_at (vs := vs) (out := (arrOf st').map (·.2)) hoL
  refine wpAny_pure ⟨_, rfl, hQ _ s1.heap.objs.size _ c zs (fun b u e => ?_) g1 o1 hz hc h1 (h2.trans ps) h3⟩
  have q := k1 b u e
  have hlt := Heap.lt_size q
  show (sortedHeap (s1.heap.push (seqObj "list" vs.toArray 0)) s1.heap.objs.size vs _).get? b = some u
  rw [sortedHeap_old (Nat.ne_of_lt hlt) (by rw [size_push']; exact Nat.lt_succ_of_lt hlt)]
  exact Heap.get?_push_of_some _ q
end
section
variable {X : Cx}
/-- set(text) -/
def rSetS (w : World) : List V → Hp → VK → Prop := fun xs H Q => ∃ x : Str, xs = [.str x] ∧ x.length < 4000 ∧ ∀ p, H p = none → Q (.ref p) (upd H p (SetTx w p (setFold (signsOf x))))
theorem cr_setS (hc : X.calm = true) : CallR X (.type "set") (rSetS X.w) := by
  intro pins s σ H xs us Q I r h
  obtain ⟨x, rfl, hz, q⟩ := h
  obtain ⟨u, rfl, t, rfl⟩ := vals1 r
  refine call_set1 (ys := setFold (signsOf x)) (fun R hR => init_str (I.ok.hd hc) (by unfold scanBound; omega) R hR) fun h' tk hS k => ?_
  exact ⟨.ref _, upd H s.heap.objs.size (SetTx X.w s.heap.objs.size (setFold (signsOf x))), I.laid (t' := tk) (fun b u e => k b u (Heap.lt_size e) e) (Nat.le_refl _) (setTx_new hS), rfl, q _ (I.hok.fresh (Nat.le_refl _))⟩
/-- set(list of texts) -/
def rSetTxL (K : PySem.W.Frag) (w : World) : List V → Hp → VK → Prop := fun vs H Q => ∃ (l : Addr) (xs : List Str), vs = [.ref l] ∧ SqL K H l (xs.map V.str) ∧ xs.length < 4000 ∧ ∀ p, H p = none → Q (.ref p) (upd H p (SetTx w p (setFold xs)))
theorem cr_setL (hc : X.calm = true) : CallR X (.type "set") (rSetTxL X.K X.w) := by
  intro pins s σ H vs us Q I r h
  obtain ⟨l, xs, rfl, hq, hz, q⟩ := h
  obtain ⟨its, rv, pl, _⟩ := I.list hq
  rw [Vals.ref1 r]
  refine call_set1 (ys := setFold xs) (fun R hR => init_list (I.ok.hd hc) pl.isList (by simpa using strsAre_of rv) (by unfold scanBound; omega) R hR) fun h' tk hS k => ?_
  exact ⟨.ref _, upd H s.heap.objs.size (SetTx X.w s.heap.objs.size (setFold xs)), I.laid (t' := tk) (fun b u e => k b u (Heap.lt_size e) e) (Nat.le_refl _) (setTx_new hS), rfl, q _ (I.hok.fresh (Nat.le_refl _))⟩
/-- len(set of texts) -/
def rLenSet (w : World) : List V → Hp → VK → Prop := fun vs H Q => ∃ (a : Addr) (ys : List Str), vs = [.ref a] ∧ H a = some (SetTx w a ys) ∧ Q (.int ys.length) H
theorem cr_lenSet : CallR X (.builtin "len") (rLenSet X.w) := by
  intro pins s σ H vs us Q I r h
  obtain ⟨a, ys, rfl, ha, q⟩ := h
  rw [Vals.ref1 r]
  obtain ⟨o, es, ep, t, ho, hex, hd, g, pm0, nd, hb, hf, hr, hl⟩ := (I.hok a _ ha).1
  have hn : es.size = ys.length := by
    rw [← pm0.length_eq, List.length_map, Array.length_toList]
  refine call_len_set ho hex hd hf (by unfold scanBound at hb; omega) ⟨.int ys.length, H, I.tok _, ⟨_, by rw [hn]⟩, q⟩
/-- sorted(set of texts) -/
def rSortedTx (w : World) : List V → Hp → VK → Prop := fun vs H Q => ∃ (a : Addr) (ys : List Str), vs = [.ref a] ∧ H a = some (SetTx w a ys) ∧
  ∀ (zs : List Str) (p : Addr), zs.Perm ys → sortedS zs = true → H p = none → Q (.ref p) (upd H p (.lst (zs.map V.str)))
theorem cr_sortedTx (hc : X.calm = true) : CallR X (.builtin "sorted") (rSortedTx X.w) := by
  intro pins s σ H vs us Q I r h
  obtain ⟨a, ys, rfl, ha, q⟩ := h
  rw [Vals.ref1 r]
  have R : SetT X.w s.heap a ys := (I.hok a _ ha).1
  have small : ys.length ≤ sizeLine := by
    obtain ⟨o, es, ep, t, ho, hex, hd, g, pm0, nd, hb, _⟩ := R
    rw [← pm0.length_eq, List.length_map, Array.length_toList]
    exact fits_of_scanBound hb
  refine sorted_setT R (I.ok.hd hc) fun s' p out c zs k g1 o1 hp he hS pm so => ?_
  obtain ⟨h', g', d', tk', os'⟩ := s'
  have hlen : (zs.map V.str).length ≤ sizeLine := by
    rw [List.length_map, pm.length_eq]; exact small
  have J : Inv X pins σ (upd H p (.lst (zs.map V.str))) ⟨h', g', d', tk', os'⟩ := by
    have hn := I.hok.fresh hp
    have u : Un (frs X.stack) [] H (upd H p (.lst (zs.map V.str))) s.heap h' := Un.laid k hp hn
    refine I.call' (ch := []) o1 u ?_ ?_ (fun b z => absurd z (by simp))
    · exact I.hok.laid k hp ⟨hlen, out.toList, c, vals_of_strs hS, he⟩
    · have e : g' = s.gens := g1
      rw [e]; exact I.bare
  exact ⟨.ref p, _, J, rfl, q zs p pm so (I.hok.fresh hp)⟩
end
end L2
namespace L2
open PySem PySem.Spec PyProof.Rows PySem.GX
/-! a dict comprehension whose keys are tuples of ints and texts -/
section
variable {X : Cx} {pl : List (Addr × Obj)} {σ : St} {H : Hp} {s : Shared} {D t : Addr} {kvs : List (List Key × V)} {k : List Key} {v : V}
/-- the store of one turn -/
theorem dictSet_tup {Er : Value → Shared → Prop} {kv vv : Value} {Q : Unit → Shared → Prop} (room : X.A.units < cLine) (I : Inv X pl σ H s) (eD : H D = some (.dT kvs)) (et : H t = some (.tup (k.map kV))) (few : kvs.length < sizeLine)
    (rk : RelV (.ref t) kv) (rv : RelV v vv) (go : ∀ s', Inv X pl σ (upd H D (.dT (putK kvs k v))) s' → Q () s') : wpAny (model X.prog X.w) X.A (dictSet D kv vv) Q Er s := by
  have ekv : kv = Value.ref t := rk
  subst ekv
  obtain ⟨len0, nosys, xs, rel, dict⟩ := dt_of I.hok eD
  have len1 : xs.length ≤ sizeLine := by
    rw [← Paired.length rel]
    exact len0
  have len2 : (putK kvs k v).length ≤ sizeLine := by
    have grows := length_putK kvs k v
    omega
  have hroom : (tupleKind (mixKind X.prog X.w)).room X.A := room
  refine wpAny_dictSet_heap (hsz := len1) hroom (key_of I.hok et) dict fun h' dict' same => go _ ?_
  obtain ⟨o, es, ep, ho, c1, c2, c3, _, c4⟩ := dict'
  refine d_write I (by rw [eD]; trivial) same ⟨o, ho⟩ ⟨len2, nosys, _, (rel.put k et rv).keeps fun c ys ec => ?_, o, es, ep, ho, c1, c2, c3, c4⟩
  rw [upd_ne (ne_of ec eD (fun z => nomatch z))]
  exact ec
end
/-- {(..): v for target in iter if ..}: D is the new dict -/
def tDcT (wi : TI) (g : TG) (tt : TT) (tk tv : TE) (vs : List Nat) : TE := fun σ H Q => wi σ H fun J H1 => ∀ D, H1 D = none → ∃ W : Nat → Nat → Hp → Prop, (∃ m, W 0 m (upd H1 D (.dT []))) ∧ ∀ i m H, W i m H →
  (J.stop i H ∧ Q (.ref D) H) ∨ (J.go i H ∧ ∃ On : Hp → Prop, (∀ H', On H' → ∃ m', m' < m ∧ W (i + 1) m' H') ∧ ∀ x H', J.yld i H x H' → g x (wipe σ vs) H' fun σ2 H2 => wipe σ2 vs = wipe σ vs ∧ tt σ2 H2 fun b H3 =>
    if b = true then tk σ2 H3 fun y H4 => tv σ2 H4 fun z H5 => ∃ kvs k t, y = .ref t ∧ H5 t = some (.tup (k.map kV)) ∧ H5 D = some (.dT kvs) ∧ kvs.length < sizeLine ∧ On (upd H5 D (.dT (putK kvs k z))) else On H3)
section
variable {X : Cx} {kx vx tg iter : Expr} {ifs : List Expr} {scope : Scope} {own : List (Str × Nat)} {pos : Pos} {wi : TI} {g : TG} {tt : TT} {tk tv : TE}
theorem pe_dcT (hr : X.A.units + 64 < cLine) (calm : X.calm = true) (hN : X.N.Nodup) (hi : PI X tg iter wi) (ok : BlkOk X.N X.env.scope scope own)
    (hg : ∀ (s : Shared) (H : Hp) (C : Addr) (cl : List (Str × Addr)) (fp : List Addr), PG (X.blk s H scope (compEnvC scope cl C X.env) fp) tg g)
    (ht : ∀ (s : Shared) (H : Hp) (C : Addr) (cl : List (Str × Addr)) (fp : List Addr), PTs (X.blk s H scope (compEnvC scope cl C X.env) fp) ifs tt)
    (hk : ∀ (s : Shared) (H : Hp) (C : Addr) (cl : List (Str × Addr)) (fp : List Addr), PE (X.blk s H scope (compEnvC scope cl C X.env) fp) kx tk)
    (hv : ∀ (s : Shared) (H : Hp) (C : Addr) (cl : List (Str × Addr)) (fp : List Addr), PE (X.blk s H scope (compEnvC scope cl C X.env) fp) vx tv)
    (hs : ∀ x, foldedSetIterable iter X.env x = pure x := by intro _; rfl) :
    PE X (.DictComp kx vx [⟨tg, iter, ifs, 0⟩] scope pos) (tDcT wi g tt tk tv (own.map (·.2))) := by
  refine ⟨fun pl s σ H Q I h => ?_⟩
  rw [arm_eval_DictComp]
  have frees : ∀ y ∈ scope.names, y.2 = .free → ∃ c, X.env.cells.lookup y.1 = some c := fun y hy e => by
    rcases ok.free y hy e with k | k
    · exact I.ok.has _ (.inl k)
    · exact I.ok.has _ (.inr k)
  refine wpAny_comprehension_free rfl hs (closure_ok frees) ok.kind (fun y hy e => by rw [ok.uniq y hy, e]) (thn (hi.run pl s σ H _ I h) fun _ sa ha => thn ha fun _ sb hb => ?_)
  obtain ⟨it, fp, tn, J, Hb, rfl, Ib, T, tb, okb, want⟩ := hb
  refine wpAny_newObj_type (newEnv_comp ?_)
  -- the new dict
  generalize eD : sb.heap.objs.size = D
  have freeD : Hb D = none := Ib.hok.fresh (Nat.le_of_eq eD)
  obtain ⟨W, ⟨m0, begins⟩, turn⟩ := want D freeD
  generalize esc : ({ sb with heap := sb.heap.push { cls := .type "dict", data := .dict #[] } } : Shared) = sc
  have hsc : sc.heap = sb.heap.push { cls := .type "dict", data := .dict #[] } := by rw [← esc]
  have Ic : Inv X pl σ (upd Hb D (.dT [])) sc := by
    rw [← esc]
    refine Ib.laid (t' := sb.toks) (fun b o e => Heap.get?_push_of_some _ e) (Nat.le_of_eq eD) ?_
    rw [← eD]
    exact dt_empty sb.heap Ib.big
  have old : ∀ b ∈ fp, b < sb.heap.objs.size := fun b hb => by
    obtain ⟨o, e, _⟩ := T.obj _ _ tb b hb
    exact Heap.lt_size e
  have okc : ∀ b ∈ fp, FpOk X pl (upd Hb D (.dT [])) b ∧ b < sc.heap.objs.size := fun b hb => by
    have lt := old b hb
    refine ⟨⟨?_, (okb b hb).2⟩, ?_⟩
    · rw [upd_ne (by rw [← eD]; exact Nat.ne_of_lt lt)]
      exact (okb b hb).1
    · rw [hsc, Heap.size_push]
      exact Nat.lt_succ_of_lt lt
  have tc : tn 0 sc.heap := T.keep _ _ _ tb fun b _ o e => by
    rw [hsc]
    exact Heap.get?_push_of_some _ e
  -- the block
  have Id := block_start Ic ok hN okc
  have g1 := hg sc (upd Hb D (.dT [])) sc.heap.objs.size (cellsFrom (sc.heap.objs.size + 1) scope.names (cloFrom X.env.cells scope.names [])) fp
  have g2 := ht sc (upd Hb D (.dT [])) sc.heap.objs.size (cellsFrom (sc.heap.objs.size + 1) scope.names (cloFrom X.env.cells scope.names [])) fp
  have g3 := hk sc (upd Hb D (.dT [])) sc.heap.objs.size (cellsFrom (sc.heap.objs.size + 1) scope.names (cloFrom X.env.cells scope.names [])) fp
  have g4 := hv sc (upd Hb D (.dT [])) sc.heap.objs.size (cellsFrom (sc.heap.objs.size + 1) scope.names (cloFrom X.env.cells scope.names [])) fp
  show codeAny _ _ (.compStart (.DictComp kx vx [⟨tg, iter, ifs, 0⟩] scope pos) 0 (.ref it) (.ref D) (compEnvC scope (cellsFrom (sc.heap.objs.size + 1) scope.names (cloFrom X.env.cells scope.names [])) sc.heap.objs.size X.env)) _
    { sc with heap := pushCells (sc.heap.push { cls := .type "dict", data := .dict #[] }) scope.names }
  have hid : ∀ b ∈ fp, (upd Hb D (.dT [])) b = none := fun b hb => (okc b hb).1.1
  generalize eenv : compEnvC scope (cellsFrom (sc.heap.objs.size + 1) scope.names (cloFrom X.env.cells scope.names [])) sc.heap.objs.size X.env = env at Id g1 g2 g3 g4 ⊢
  have eloc : env.locals = sc.heap.objs.size := by subst eenv; rfl
  generalize eHc : upd Hb D (.dT []) = Hc at Ic Id g1 g2 g3 g4 begins hid okc
  generalize esd : ({ sc with heap := pushCells (sc.heap.push { cls := .type "dict", data := .dict #[] }) scope.names } : Shared) = sd at Id ⊢
  have td : tn 0 sd.heap := T.keep _ _ _ tc fun b _ o e => by
    rw [← esd]
    exact pushCells_keeps _ _ _ _ (Heap.get?_push_of_some _ e)
  have fpOk : ∀ {σ' : St} {H' : Hp} {s' : Shared}, Inv (X.blk sc Hc scope env fp) [] σ' H' s' → (∀ b ∈ fp, H' b = none) → ∀ b ∈ fp, FpOk (X.blk sc Hc scope env fp) [] H' b := fun {σ' H' s'} I' free b hb => by
    refine ⟨free b hb, (I'.ok.exf b hb).1, I'.ok.exfs b hb, .inl hb, fun x c e => (I'.ok.exf b hb).2 x c e, fun p hp => ?_⟩
    exact absurd (show p ∈ ([] : List (Addr × Obj)) ++ [] from hp) (by simp)
  refine codeAny_compStart_dict ?lp (T.self X.A 0 _ _ _ td ?lp)
  refine compLoop_anyD (fun n s' => ∃ i H', Inv (X.blk sc Hc scope env fp) [] (wipe σ (own.map (·.2))) H' s' ∧ tn i s'.heap ∧ (∀ b ∈ fp, H' b = none) ∧ W i n H') ?_ m0 ⟨0, Hc, Id, td, hid, begins⟩
  rintro n se ⟨i, He, Ie, te, free, at_⟩
  rcases turn i n He at_ with ⟨stop, wish⟩ | ⟨goes, On, next, step⟩
  · refine thnF (T.done (X.blk sc Hc scope env fp) rfl rfl rfl calm i [] se _ He (fun _ _ => False) Ie (fpOk Ie free) te stop) fun r sf ⟨hr, If⟩ => ?_
    subst hr
    have back : Inv X pl σ He sf := Ic.call' (ch := fp) If.os If.base If.hok If.bare fun b hb => ⟨(okc b hb).1.2.2.2.1, (okc b hb).1.2.1, (okc b hb).1.2.2.2.2.1, (okc b hb).1.2.2.2.2.2⟩
    have noC : He sc.heap.objs.size = none := by
      have z : He env.locals = none := If.free
      rw [eloc] at z
      exact z
    obtain ⟨m, hn, _⟩ := If.loc
    have hn' : sf.heap.Ns env.locals m := hn
    rw [eloc] at hn'
    obtain ⟨f0, f1, f2, f3, f4, f5⟩ := Ic.fpOk (Nat.le_refl _) noC
    exact ⟨m, hn', fun h'' sb' => ⟨.ref D, He, back.turned (t' := sf.toks) (fun b o hb e => (sb'.2 b hb).trans e) f0 f1 f3 f4 f5, rfl, wish⟩⟩
  · refine thnF (T.item (X.blk sc Hc scope env fp) rfl rfl rfl calm i [] se _ He (fun _ _ => False) Ie (fpOk Ie free) te goes) fun r sf ⟨u, hr, hf⟩ => ?_
    subst hr
    refine thnF hf fun _ sg ⟨x, Hg, Ig, rg, yg, tg', freeg⟩ => ?_
    have pinned := Ig.pinned (fpOk Ig freeg) (T.obj _ _ tg')
    refine thnF (g1.run _ sg _ Hg x u _ pinned rg (step x Hg yg)) fun _ sh ⟨σh, Hh, Ih, wh, qh⟩ => ?_
    refine thnF (g2.run _ sh σh Hh _ Ih qh) fun b si ⟨Hi, Ii, qi⟩ => ?_
    have ends : ∀ {s' : Shared} {H' : Hp}, Inv (X.blk sc Hc scope env fp) ([] ++ pinsAt fp sg.heap) σh H' s' → On H' →
        ∃ m, m < n ∧ ∃ i H', Inv (X.blk sc Hc scope env fp) [] (wipe σ (own.map (·.2))) H' s' ∧ tn i s'.heap ∧ (∀ b ∈ fp, H' b = none) ∧ W i m H' := fun {s' H'} I' on => by
      obtain ⟨m', lt, at'⟩ := next H' on
      have kept : ∀ b ∈ fp, ∀ o, sg.heap.get? b = some o → s'.heap.get? b = some o ∧ H' b = none := fun b hb o e => by
        have z := I'.pin (b, o) (List.mem_append_right _ (List.mem_append_right _ (mem_pinsAt hb e)))
        exact ⟨z.1, z.2.1⟩
      have len : (wipe σ (own.map (·.2))).length = σh.length := by
        rw [← wh, wipe_length]
      refine ⟨m', lt, i + 1, H', (I'.unpinned (pins := [])).weak len (fun j y e => ?_), T.keep _ _ _ tg' fun b hb o e => (kept b hb o e).1, fun b hb => ?_, at'⟩
      · rw [← wh] at e
        exact (wipe_some e).1
      · obtain ⟨o, e, _⟩ := T.obj _ _ tg' b hb
        exact (kept b hb o e).2
    cases b with
    | false =>
      simp only [Bool.false_eq_true, if_false] at qi ⊢
      exact ends Ii qi
    | true =>
      simp only [if_true] at qi ⊢
      refine thnF (g3.run _ si σh Hi _ Ii qi) fun _ sj ⟨yk, Hj, Ij, rj, qj⟩ => ?_
      refine thnF (g4.run _ sj σh Hj _ Ij qj) fun _ sk ⟨yv, Hk, Ik, rk, kvs, k, t, ek, et, eDk, few, on⟩ => ?_
      subst ek
      exact dictSet_tup (X := X.blk sc Hc scope env fp) (by show X.A.units < cLine; omega) Ik eDk et few rj rk fun _ Il => ends Il on
end
end L2
namespace L2
open PySem PySem.Spec PyProof.Rows PySem.GX
theorem same_new {H : Hp} {p : Addr} {o : HO} (h : H p = none) : Same H (upd H p o) := fun b u e => by
  rw [upd_ne (ne_of_none e h)]
  exact e
theorem keep1 {H : Hp} {q t : Addr} {o u : HO} (e : H t = some u) (h : H q = none) : upd H q o t = some u := by
  rw [upd_ne (ne_of_none e h)]
  exact e
section
variable {J : It} {n : Nat} {G : Hp → Prop} {Y : Nat → Hp → V → Hp → Prop} {g : TG} {tt : TT} {te : TE} {vs : List Nat} {σ : St} {H1 : Hp} {D : Addr} {Qd : Hp → Prop}
theorem same_del {H H' : Hp} {p : Addr} (s : Same H H') : Same (del H p) (del H' p) := fun b o e => by
  by_cases hb : b = p
  · rw [hb, del_same] at e; cases e
  · rw [del_ne hb] at e ⊢
    exact s b o e
theorem del_upd (H : Hp) (p : Addr) (o : HO) : del (upd H p o) p = del H p := by
  funext b
  by_cases hb : b = p
  · rw [hb, del_same, del_same]
  · rw [del_ne hb, del_ne hb, upd_ne hb]
theorem del_none {H : Hp} {p : Addr} (h : H p = none) : del H p = H := by
  funext b
  by_cases hb : b = p
  · rw [hb, del_same, h]
  · rw [del_ne hb]
/-- what the turn asks of the new list -/
def lcK (I : List V → Hp → Prop) (H1 : Hp) (D : Addr) (Nx : Hp → Prop) (ys : List V) : Option V → Hp → Prop
  | some y, H4 => ∃ acc, H4 D = some (.lst acc) ∧ acc.length < sizeLine ∧ Nx (upd H4 D (.lst (acc ++ [y])))
  | none, H4 => Nx H4
/-- [e for x in .. if t]: I says of the items so far and of the other objects what stays true -/
theorem lcR (w : Walk J n G Y) (I : Nat → List V → Hp → Prop) (st : ∀ i ys H H', Same H H' → I i ys H → I i ys H') (i0 : I 0 [] H1) (hz : n ≤ 16000000) (hD : H1 D = none) (hY : ∀ i H x H', Y i H x H' → Same H H') (hG : ∀ H', Same H1 H' → G H')
    (turn : ∀ (i : Nat) (x : V) (ys : List V) (H' H'' : Hp) (k : Option V → Hp → Prop), i < n → Same H1 H' → H' D = some (.lst ys) → I i ys (del H' D) → Y i H' x H'' → (∀ y H4, Same H'' H4 → I (i + 1) (ys ++ [y]) (del H4 D) → k (some y) H4) →
      (∀ H4, Same H'' H4 → I (i + 1) ys (del H4 D) → k none H4) → g x (wipe σ vs) H'' fun σ2 H2 => wipe σ2 vs = wipe σ vs ∧ tt σ2 H2 fun b H3 => if b = true then te σ2 H3 fun y H4 => k (some y) H4 else k none H3)
    (hd : ∀ ys H', ys.length ≤ n → Same H1 H' → H' D = some (.lst ys) → I n ys (del H' D) → Qd H') :
    ∃ W : Nat → Nat → Hp → Prop, (∃ m, W 0 m (upd H1 D (.lst []))) ∧ ∀ i m H, W i m H →
      (J.stop i H ∧ Qd H) ∨ (J.go i H ∧ ∃ Nx : Hp → Prop, (∀ H', Nx H' → ∃ m', m' < m ∧ W (i + 1) m' H') ∧ ∀ x H', J.yld i H x H' → g x (wipe σ vs) H' fun σ2 H2 => wipe σ2 vs = wipe σ vs ∧ tt σ2 H2 fun b H3 =>
        if b = true then te σ2 H3 fun y H4 => ∃ acc, H4 D = some (.lst acc) ∧ acc.length < sizeLine ∧ Nx (upd H4 D (.lst (acc ++ [y]))) else Nx H3) := by
  refine lc_it w (fun i H' => ∃ ys : List V, ys.length ≤ i ∧ Same H1 H' ∧ H' D = some (.lst ys) ∧ I i ys (del H' D)) ⟨[], Nat.le_refl _, same_new hD, upd_same, by rw [del_upd, del_none hD]; exact i0⟩ (fun i H' _ ⟨_, _, s, _⟩ => hG H' s) (fun i x H' H'' hi h hy => ?_) (fun H' ⟨ys, l, s, e, h⟩ => hd ys H' l s e h)
  obtain ⟨ys, l, s, e, h⟩ := h
  have sy := hY _ _ _ _ hy
  refine turn i x ys H' H'' (lcK (I i) H1 D _ ys) hi s e h hy (fun y H4 s4 h4 => ?_) (fun H4 s4 h4 => ?_)
  · have e4 := s4 _ _ (sy _ _ e)
    refine ⟨_, e4, by rw [sizeLine_eq]; omega, _, ?_, fun b o z => ?_, upd_same, by rw [del_upd]; exact h4⟩
    · rw [List.length_append]; simp; omega
    · rw [upd_ne (ne_of_none z hD)]
      exact s4 _ _ (sy _ _ (s b o z))
  · exact ⟨ys, by omega, (s.trans sy).trans s4, s4 _ _ (sy _ _ e), h4⟩
/-- [e for x in .. if t]: the i-th item is taken (as f i says) or not; what was tracked stays -/
theorem lcS (w : Walk J n G Y) (f : Nat → Option V) (hz : n ≤ 16000000) (hD : H1 D = none) (hY : ∀ i H x H', Y i H x H' → Same H H') (hG : ∀ H', Same H1 H' → G H')
    (turn : ∀ (i : Nat) (x : V) (H' H'' : Hp) (k : Option V → Hp → Prop), i < n → Same H1 H' → Y i H' x H'' → (∀ H4, Same H'' H4 → k (f i) H4) →
      g x (wipe σ vs) H'' fun σ2 H2 => wipe σ2 vs = wipe σ vs ∧ tt σ2 H2 fun b H3 => if b = true then te σ2 H3 fun y H4 => k (some y) H4 else k none H3)
    (hd : ∀ H', Same H1 H' → H' D = some (.lst ((List.range n).filterMap f)) → Qd H') :
    ∃ W : Nat → Nat → Hp → Prop, (∃ m, W 0 m (upd H1 D (.lst []))) ∧ ∀ i m H, W i m H →
      (J.stop i H ∧ Qd H) ∨ (J.go i H ∧ ∃ Nx : Hp → Prop, (∀ H', Nx H' → ∃ m', m' < m ∧ W (i + 1) m' H') ∧ ∀ x H', J.yld i H x H' → g x (wipe σ vs) H' fun σ2 H2 => wipe σ2 vs = wipe σ vs ∧ tt σ2 H2 fun b H3 =>
        if b = true then te σ2 H3 fun y H4 => ∃ acc, H4 D = some (.lst acc) ∧ acc.length < sizeLine ∧ Nx (upd H4 D (.lst (acc ++ [y]))) else Nx H3) := by
  refine lcR w (fun i ys _ => ys = (List.range i).filterMap f) (fun _ _ _ _ _ h => h) rfl hz hD hY hG (fun i x ys H' H'' k hi s e h hy k1 k2 => ?_) (fun ys H' _ s e h => hd H' s (by rw [e, h]))
  refine turn i x H' H'' k hi s hy fun H4 s4 => ?_
  cases ef : f i with
  | some y =>
    refine k1 y H4 s4 ?_
    rw [h, List.range_succ, List.filterMap_append]
    simp [ef]
  | none =>
    refine k2 H4 s4 ?_
    rw [h, List.range_succ, List.filterMap_append]
    simp [ef]
end
section
variable {X : Cx} {o : Expr} {to : TE} {f : Str} {pos : Pos}
/-- the target o.f of an own instance -/
def gFld (K : PySem.W.Frag) (to : TE) (f : Str) : TG := fun v σ H Q => to σ H fun x H1 => ∃ (p C dx : Addr) (fs : List (Str × V)), x = .ref p ∧ H1 p = some (.ins C dx fs) ∧ Cls K C ∧ NoAttr K C f ∧ fs.length < 1000 ∧ Q σ (upd H1 p (.ins C dx (putF f v fs)))
theorem pg_fld (ho : PE X o to) : PG X (.Attribute o f pos) (gFld X.K to f) := by
  refine ⟨fun pl s σ H v u Q I r h => ?_⟩
  rw [arm_assign_Attribute]
  refine wpAny_bind (wpAny_holding (thn (ho.run pl s σ H _ I h) fun ov s1 ⟨x, H1, I1, r1, p, C, dx, fs, ex, ep, c, n, l, q⟩ => ?_))
  subst ex
  obtain rfl : ov = Value.ref p := r1
  refine wpAny_bind (wpAny_standAt (wpAny_bind (wpAny_holding (setattr_ok I1 ep c n l r fun s3 I3 => ?_))))
  exact wpAny_release ⟨σ, _, I3, q⟩
end
end L2
namespace L2
open PySem PySem.Spec PyProof.Rows PySem.GX
theorem range_fm {α β : Type} (g : α → Option β) : ∀ xs : List α, (List.range xs.length).filterMap (fun i => xs[i]?.bind g) = xs.filterMap g := by
  intro xs
  have e : (List.range xs.length).filterMap (fun i => xs[i]?) = xs := by
    induction xs with
    | nil => rfl
    | cons a t ih =>
      rw [List.length_cons, List.range_succ_eq_map, List.filterMap_cons, List.filterMap_map]
      simp only [List.getElem?_cons_zero]
      congr 1
  conv => rhs; rw [← e, List.filterMap_filterMap]
section
variable {α : Type} {J : It} {G : Hp → Prop} {Y : Nat → Hp → V → Hp → Prop} {g : TG} {tt : TT} {te tk tv : TE} {vs : List Nat} {σ : St} {H1 : Hp} {D : Addr} {Qd : Hp → Prop}
/-- [e for x in .. if t] over things that stand for the items of xs -/
theorem lcG (xs : List α) (f : α → Option V) (w : Walk J xs.length G Y) (hz : xs.length ≤ 16000000) (hD : H1 D = none) (hY : ∀ i H x H', Y i H x H' → Same H H') (hG : ∀ H', Same H1 H' → G H')
    (turn : ∀ (i : Nat) (a : α) (x : V) (H' H'' : Hp) (k : Option V → Hp → Prop), xs[i]? = some a → Same H1 H' → Y i H' x H'' → (∀ H4, Same H'' H4 → k (f a) H4) →
      g x (wipe σ vs) H'' fun σ2 H2 => wipe σ2 vs = wipe σ vs ∧ tt σ2 H2 fun b H3 => if b = true then te σ2 H3 fun y H4 => k (some y) H4 else k none H3)
    (hd : ∀ H', Same H1 H' → H' D = some (.lst (xs.filterMap f)) → Qd H') :
    ∃ W : Nat → Nat → Hp → Prop, (∃ m, W 0 m (upd H1 D (.lst []))) ∧ ∀ i m H, W i m H →
      (J.stop i H ∧ Qd H) ∨ (J.go i H ∧ ∃ Nx : Hp → Prop, (∀ H', Nx H' → ∃ m', m' < m ∧ W (i + 1) m' H') ∧ ∀ x H', J.yld i H x H' → g x (wipe σ vs) H' fun σ2 H2 => wipe σ2 vs = wipe σ vs ∧ tt σ2 H2 fun b H3 =>
        if b = true then te σ2 H3 fun y H4 => ∃ acc, H4 D = some (.lst acc) ∧ acc.length < sizeLine ∧ Nx (upd H4 D (.lst (acc ++ [y]))) else Nx H3) := by
  refine lcS w (fun i => xs[i]?.bind f) hz hD hY hG (fun i x H' H'' k hi s hy k1 => ?_) (fun H' s e => hd H' s (by rw [e, range_fm]))
  have ei : xs[i]? = some xs[i] := List.getElem?_eq_getElem hi
  refine turn i xs[i] x H' H'' k ei s hy fun H4 s4 => ?_
  have := k1 H4 s4
  rw [ei] at this
  exact this
/-- the generic walk of a dict comprehension, of either sort -/
theorem dc_it {n : Nat} (w : Walk J n G Y) {nx : Nat → Hp → Prop} {body : Nat → V → Hp → (Hp → Prop) → Prop} (h0 : nx 0 H1) (hG : ∀ i H, i ≤ n → nx i H → G H)
    (hs : ∀ i x H H', i < n → nx i H → Y i H x H' → body i x H' (nx (i + 1))) (hd : ∀ H, nx n H → Qd H) :
    ∃ W : Nat → Nat → Hp → Prop, (∃ m, W 0 m H1) ∧ ∀ i m H, W i m H →
      (J.stop i H ∧ Qd H) ∨ (J.go i H ∧ ∃ Nx : Hp → Prop, (∀ H', Nx H' → ∃ m', m' < m ∧ W (i + 1) m' H') ∧ ∀ x H', J.yld i H x H' → body i x H' Nx) := by
  refine ⟨fun i m H => m = n - i ∧ i ≤ n ∧ nx i H, ⟨n, by simp, Nat.zero_le _, h0⟩, ?_⟩
  rintro i m H ⟨rfl, hi, p⟩
  have q := hG i H hi p
  by_cases hlt : i < n
  · exact .inr ⟨w.goes i H hlt q, nx (i + 1), fun H' p' => ⟨n - (i + 1), by omega, rfl, hlt, p'⟩, fun x H' y => hs i x H H' hlt p (w.yields i H x H' hlt q y)⟩
  · have e : i = n := by omega
    subst e
    exact .inl ⟨w.stops H q, hd H p⟩
end
section
variable {α κ : Type} [DecidableEq κ]
/-- the entries of {key a: val a for a in xs} -/
def dOf (key : α → κ) (val : α → V) (xs : List α) : List (κ × V) := xs.foldl (fun kvs a => putK kvs (key a) (val a)) []
theorem dOf_snoc (key : α → κ) (val : α → V) (xs : List α) (a : α) : dOf key val (xs ++ [a]) = putK (dOf key val xs) (key a) (val a) := by
  unfold dOf
  rw [List.foldl_append]
  rfl
theorem dOf_take {key : α → κ} {val : α → V} {xs : List α} {i : Nat} {a : α} (h : xs[i]? = some a) : dOf key val (xs.take (i + 1)) = putK (dOf key val (xs.take i)) (key a) (val a) := by
  rw [List.take_add_one, h]
  exact dOf_snoc _ _ _ _
theorem dOf_len (key : α → κ) (val : α → V) (xs : List α) : (dOf key val xs).length ≤ xs.length := by
  suffices h : ∀ (ys : List α) (kvs : List (κ × V)), (ys.foldl (fun kvs a => putK kvs (key a) (val a)) kvs).length ≤ kvs.length + ys.length by
    have := h xs []
    simpa [dOf] using this
  intro ys
  induction ys with
  | nil => intro kvs; simp
  | cons a t ih =>
    intro kvs
    have h1 := ih (putK kvs (key a) (val a))
    have h2 := length_putK kvs (key a) (val a)
    rw [List.foldl_cons, List.length_cons]
    omega
theorem dOf_val (key : α → κ) (val : α → V) : ∀ (xs : List α) (k : κ), (valV (dOf key val xs) k).isSome = decide (k ∈ xs.map key) := by
  suffices h : ∀ (n : Nat) (xs : List α) (k : κ), xs.length = n → (valV (dOf key val xs) k).isSome = decide (k ∈ xs.map key) from fun xs k => h _ xs k rfl
  intro n
  induction n with
  | zero =>
    intro xs k h
    have : xs = [] := List.eq_nil_of_length_eq_zero h
    subst this
    rfl
  | succ n ih =>
    intro xs k h
    have hne : xs ≠ [] := by intro z; subst z; cases h
    obtain ⟨ys, a, rfl⟩ : ∃ ys a, xs = ys ++ [a] := ⟨xs.dropLast, xs.getLast hne, (List.dropLast_concat_getLast hne).symm⟩
    have hl : ys.length = n := by rw [List.length_append] at h; simpa using h
    rw [dOf_snoc, valV_put]
    by_cases e : k = key a
    · rw [if_pos e, e]; simp
    · rw [if_neg e, ih ys k hl, List.map_append]
      simp [e]
/-- keys that differ: the entries stand as they come -/
theorem dOf_nodup (key : α → κ) (val : α → V) : ∀ (xs : List α), (xs.map key).Nodup → dOf key val xs = xs.map fun a => (key a, val a) := by
  suffices h : ∀ (n : Nat) (xs : List α), xs.length = n → (xs.map key).Nodup → dOf key val xs = xs.map fun a => (key a, val a) from fun xs => h _ xs rfl
  intro n
  induction n with
  | zero =>
    intro xs h _
    have : xs = [] := List.eq_nil_of_length_eq_zero h
    subst this
    rfl
  | succ n ih =>
    intro xs h nd
    have hne : xs ≠ [] := by intro z; subst z; cases h
    obtain ⟨ys, a, rfl⟩ : ∃ ys a, xs = ys ++ [a] := ⟨xs.dropLast, xs.getLast hne, (List.dropLast_concat_getLast hne).symm⟩
    have hl : ys.length = n := by rw [List.length_append] at h; simpa using h
    rw [List.map_append, List.nodup_append] at nd
    have hn : valV (dOf key val ys) (key a) = none := by
      have := dOf_val key val ys (key a)
      rw [decide_eq_false (fun z => nd.2.2 _ z (key a) (by simp) rfl)] at this
      exact Option.isNone_iff_eq_none.mp (by simpa using this)
    rw [dOf_snoc, putK_new _ hn, ih ys hl nd.1, List.map_append]
    rfl
end
section
variable {α : Type} {J : It} {G : Hp → Prop} {Y : Nat → Hp → V → Hp → Prop} {g : TG} {tt : TT} {tk tv : TE} {vs : List Nat} {σ : St} {H1 : Hp} {D : Addr} {Qd : Hp → Prop}
/-- {k: v for x in ..}, keys ints or texts -/
theorem dcG (xs : List α) (key : α → Key) (val : α → V) (w : Walk J xs.length G Y) (hz : xs.length ≤ 16000000) (hD : H1 D = none) (hY : ∀ i H x H', Y i H x H' → Same H H') (hG : ∀ H', Same H1 H' → G H')
    (turn : ∀ (i : Nat) (a : α) (x : V) (H' H'' : Hp) (k : V → V → Hp → Prop) (k0 : Hp → Prop), xs[i]? = some a → Same H1 H' → Y i H' x H'' → (∀ H4, Same H'' H4 → k (kV (key a)) (val a) H4) →
      g x (wipe σ vs) H'' fun σ2 H2 => wipe σ2 vs = wipe σ vs ∧ tt σ2 H2 fun b H3 => if b = true then tk σ2 H3 fun y H4 => tv σ2 H4 fun z H5 => k y z H5 else k0 H3)
    (hd : ∀ H', Same H1 H' → H' D = some (.dK (dOf key val xs)) → Qd H') :
    ∃ W : Nat → Nat → Hp → Prop, (∃ m, W 0 m (upd H1 D (.dK []))) ∧ ∀ i m H, W i m H →
      (J.stop i H ∧ Qd H) ∨ (J.go i H ∧ ∃ Nx : Hp → Prop, (∀ H', Nx H' → ∃ m', m' < m ∧ W (i + 1) m' H') ∧ ∀ x H', J.yld i H x H' → g x (wipe σ vs) H' fun σ2 H2 => wipe σ2 vs = wipe σ vs ∧ tt σ2 H2 fun b H3 =>
        if b = true then tk σ2 H3 fun y H4 => tv σ2 H4 fun z H5 => ∃ kvs k, y = kV k ∧ H5 D = some (.dK kvs) ∧ kvs.length < sizeLine ∧ Nx (upd H5 D (.dK (putK kvs k z))) else Nx H3) := by
  refine dc_it w (nx := fun i H' => Same H1 H' ∧ H' D = some (.dK (dOf key val (xs.take i)))) (body := fun i x H' Nx => g x (wipe σ vs) H' fun σ2 H2 => wipe σ2 vs = wipe σ vs ∧ tt σ2 H2 fun b H3 =>
        if b = true then tk σ2 H3 fun y H4 => tv σ2 H4 fun z H5 => ∃ kvs k, y = kV k ∧ H5 D = some (.dK kvs) ∧ kvs.length < sizeLine ∧ Nx (upd H5 D (.dK (putK kvs k z))) else Nx H3)
    ⟨same_new hD, upd_same⟩ (fun i H _ h => hG H h.1) (fun i x H H' hi h hy => ?_) (fun H h => hd H h.1 (by rw [h.2, List.take_length]))
  have ei : xs[i]? = some xs[i] := List.getElem?_eq_getElem hi
  have sy := hY _ _ _ _ hy
  refine turn i xs[i] x H H' (fun y z H5 => ∃ kvs k, y = kV k ∧ H5 D = some (.dK kvs) ∧ kvs.length < sizeLine ∧ _) _ ei h.1 hy fun H4 s4 => ⟨_, _, rfl, s4 _ _ (sy _ _ h.2), ?_, fun b o z => ?_, ?_⟩
  · have := dOf_len key val (xs.take i)
    rw [List.length_take] at this
    rw [sizeLine_eq]
    omega
  · rw [upd_ne (ne_of_none z hD)]
    exact s4 _ _ (sy _ _ (h.1 b o z))
  · rw [upd_same, dOf_take ei]
/-- {(..): v for x in ..}, keys tuples -/
theorem dcGT (xs : List α) (key : α → List Key) (val : α → V) (w : Walk J xs.length G Y) (hz : xs.length ≤ 16000000) (hD : H1 D = none) (hY : ∀ i H x H', Y i H x H' → Same H H') (hG : ∀ H', Same H1 H' → G H')
    (turn : ∀ (i : Nat) (a : α) (x : V) (H' H'' : Hp) (k : V → V → Hp → Prop) (k0 : Hp → Prop), xs[i]? = some a → Same H1 H' → Y i H' x H'' → (∀ t H4, Same H'' H4 → H4 t = some (.tup ((key a).map kV)) → k (.ref t) (val a) H4) →
      g x (wipe σ vs) H'' fun σ2 H2 => wipe σ2 vs = wipe σ vs ∧ tt σ2 H2 fun b H3 => if b = true then tk σ2 H3 fun y H4 => tv σ2 H4 fun z H5 => k y z H5 else k0 H3)
    (hd : ∀ H', Same H1 H' → H' D = some (.dT (dOf key val xs)) → Qd H') :
    ∃ W : Nat → Nat → Hp → Prop, (∃ m, W 0 m (upd H1 D (.dT []))) ∧ ∀ i m H, W i m H →
      (J.stop i H ∧ Qd H) ∨ (J.go i H ∧ ∃ Nx : Hp → Prop, (∀ H', Nx H' → ∃ m', m' < m ∧ W (i + 1) m' H') ∧ ∀ x H', J.yld i H x H' → g x (wipe σ vs) H' fun σ2 H2 => wipe σ2 vs = wipe σ vs ∧ tt σ2 H2 fun b H3 =>
        if b = true then tk σ2 H3 fun y H4 => tv σ2 H4 fun z H5 => ∃ kvs k t, y = .ref t ∧ H5 t = some (.tup (k.map kV)) ∧ H5 D = some (.dT kvs) ∧ kvs.length < sizeLine ∧ Nx (upd H5 D (.dT (putK kvs k z))) else Nx H3) := by
  refine dc_it w (nx := fun i H' => Same H1 H' ∧ H' D = some (.dT (dOf key val (xs.take i)))) (body := fun i x H' Nx => g x (wipe σ vs) H' fun σ2 H2 => wipe σ2 vs = wipe σ vs ∧ tt σ2 H2 fun b H3 =>
        if b = true then tk σ2 H3 fun y H4 => tv σ2 H4 fun z H5 => ∃ kvs k t, y = .ref t ∧ H5 t = some (.tup (k.map kV)) ∧ H5 D = some (.dT kvs) ∧ kvs.length < sizeLine ∧ Nx (upd H5 D (.dT (putK kvs k z))) else Nx H3)
    ⟨same_new hD, upd_same⟩ (fun i H _ h => hG H h.1) (fun i x H H' hi h hy => ?_) (fun H h => hd H h.1 (by rw [h.2, List.take_length]))
  have ei : xs[i]? = some xs[i] := List.getElem?_eq_getElem hi
  have sy := hY _ _ _ _ hy
  refine turn i xs[i] x H H' (fun y z H5 => ∃ (kvs : List (List Key × V)) (k : List Key) (t : Addr), y = .ref t ∧ H5 t = some (.tup (k.map kV)) ∧ H5 D = some (.dT kvs) ∧ kvs.length < sizeLine ∧ _) _ ei h.1 hy fun t H4 s4 et => ⟨_, _, t, rfl, et, s4 _ _ (sy _ _ h.2), ?_, fun b o z => ?_, ?_⟩
  · have := dOf_len key val (xs.take i)
    rw [List.length_take] at this
    rw [sizeLine_eq]
    omega
  · rw [upd_ne (ne_of_none z hD)]
    exact s4 _ _ (sy _ _ (h.1 b o z))
  · rw [upd_same, dOf_take ei]
end
/-! lists of texts, lists of lists of texts, as data -/
abbrev dTx (ws : List Str) : PyData := .list (ws.map .str)
abbrev dTab (rs : List (List Str)) : PyData := .list (rs.map dTx)
theorem eqv_strs : ∀ a b : List Str, PyData.eqvAll (a.map .str) (b.map .str) = decide (a = b)
  | [], [] => rfl
  | [], _ :: _ => rfl
  | _ :: _, [] => rfl
  | x :: xs, y :: ys => by
    show (PyData.eqv (.str x) (.str y) && PyData.eqvAll (xs.map .str) (ys.map .str)) = _
    rw [eqv_strs xs ys]
    show ((x == y) && _) = _
    by_cases h : x = y
    · subst h; simp
    · simp [h]
theorem eqv_dTx (a b : List Str) : PyData.eqv (dTx a) (dTx b) = decide (a = b) := eqv_strs a b
theorem eqv_tabs : ∀ a b : List (List Str), PyData.eqvAll (a.map dTx) (b.map dTx) = decide (a = b)
  | [], [] => rfl
  | [], _ :: _ => rfl
  | _ :: _, [] => rfl
  | x :: xs, y :: ys => by
    show (PyData.eqv (dTx x) (dTx y) && PyData.eqvAll (xs.map dTx) (ys.map dTx)) = _
    rw [eqv_tabs xs ys, eqv_dTx]
    by_cases h : x = y
    · subst h; simp
    · simp [h]
theorem eqv_dTab (a b : List (List Str)) : PyData.eqv (dTab a) (dTab b) = decide (a = b) := eqv_tabs a b
theorem lay_strs : ∀ {a : List Str}, (∀ x ∈ a, PyData.strOk x = true) → PyData.canLayAll0 (a.map .str) = true ∧ PyData.depthAll (a.map .str) = 0
  | [], _ => ⟨rfl, rfl⟩
  | x :: xs, h => by
    have ih := lay_strs (a := xs) fun y hy => h y (List.mem_cons_of_mem _ hy)
    refine ⟨?_, ?_⟩
    · show (PyData.strOk x && PyData.canLayAll0 (xs.map .str)) = true
      rw [h x (List.mem_cons_self ..), ih.1]
      rfl
    · show max 0 (PyData.depthAll (xs.map .str)) = 0
      rw [ih.2]
      rfl
theorem shaped_dTx {a : List Str} (h : ∀ x ∈ a, PyData.strOk x = true) : SeqAt.shaped (dTx a) = true := by
  have l := lay_strs h
  have d1 : (dTx a).canLay0 = true := l.1
  have d2 : (dTx a).depth = 1 := by
    show PyData.depthAll _ + 1 = 1
    rw [l.2]
  unfold SeqAt.shaped
  rw [d1, d2]
  rfl
theorem lay_tabs : ∀ {a : List (List Str)}, (∀ r ∈ a, ∀ x ∈ r, PyData.strOk x = true) → PyData.canLayAll0 (a.map dTx) = true ∧ PyData.depthAll (a.map dTx) ≤ 1
  | [], _ => ⟨rfl, Nat.zero_le _⟩
  | r :: rs, h => by
    have ih := lay_tabs (a := rs) fun y hy => h y (List.mem_cons_of_mem _ hy)
    have l := lay_strs (h r (List.mem_cons_self ..))
    refine ⟨?_, ?_⟩
    · show (PyData.canLayAll0 (r.map .str) && PyData.canLayAll0 (rs.map dTx)) = true
      rw [l.1, ih.1]
      rfl
    · show max (PyData.depthAll (r.map .str) + 1) (PyData.depthAll (rs.map dTx)) ≤ 1
      rw [l.2]
      have := ih.2
      omega
theorem shaped_dTab {a : List (List Str)} (h : ∀ r ∈ a, ∀ x ∈ r, PyData.strOk x = true) : SeqAt.shaped (dTab a) = true := by
  have l := lay_tabs h
  have d1 : (dTab a).canLay0 = true := l.1
  have d2 : (dTab a).depth ≤ 2 := by
    show PyData.depthAll _ + 1 ≤ 2
    have := l.2
    omega
  unfold SeqAt.shaped
  rw [d1]
  simp
  omega
theorem dpStrs {K : PySem.W.Frag} {H : Hp} : ∀ ws : List Str, DpAll K H (ws.map V.str) (ws.map PyData.str)
  | [] => .nil
  | x :: xs => .cons (.str x) (dpStrs xs)
theorem dp_dTx {K : PySem.W.Frag} {H : Hp} {p : Addr} {ws : List Str} (h : H p = some (.lst (ws.map V.str))) : Dp K H (.ref p) (dTx ws) := .lst (SqL.of h) (dpStrs ws)
/-- the lists at as hold the rows -/
inductive Rw (H : Hp) : List Addr → List (List Str) → Prop
  | nil : Rw H [] []
  | cons {a : Addr} {r : List Str} {as : List Addr} {rs : List (List Str)} : H a = some (.lst (r.map V.str)) → Rw H as rs → Rw H (a :: as) (r :: rs)
theorem Rw.same {H H' : Hp} (s : Same H H') : ∀ {as : List Addr} {rs : List (List Str)}, Rw H as rs → Rw H' as rs
  | _, _, .nil => .nil
  | _, _, .cons e t => .cons (s _ _ e) (Rw.same s t)
theorem Rw.len {H : Hp} : ∀ {as : List Addr} {rs : List (List Str)}, Rw H as rs → as.length = rs.length
  | _, _, .nil => rfl
  | _, _, .cons _ t => by simp [Rw.len t]
theorem Rw.snoc {H : Hp} {a : Addr} {r : List Str} (e : H a = some (.lst (r.map V.str))) : ∀ {as : List Addr} {rs : List (List Str)}, Rw H as rs → Rw H (as ++ [a]) (rs ++ [r])
  | _, _, .nil => .cons e .nil
  | _, _, .cons e1 t => .cons e1 (Rw.snoc e t)
theorem Rw.get {H : Hp} : ∀ {as : List Addr} {rs : List (List Str)} {i : Nat} {a : Addr} {r : List Str}, Rw H as rs → as[i]? = some a → rs[i]? = some r → H a = some (.lst (r.map V.str))
  | _, _, _, _, _, .nil, e, _ => by simp at e
  | _, _, 0, _, _, .cons e _, e1, e2 => by simp at e1 e2; subst e1; subst e2; exact e
  | _, _, i + 1, a, r, .cons _ t, e1, e2 => Rw.get (i := i) t (by simpa using e1) (by simpa using e2)
theorem Rw.drop {H : Hp} : ∀ {as : List Addr} {rs : List (List Str)} (n : Nat), Rw H as rs → Rw H (as.drop n) (rs.drop n)
  | _, _, 0, t => t
  | _, _, _ + 1, .nil => .nil
  | _, _, n + 1, .cons _ t => Rw.drop n t
theorem Rw.take {H : Hp} : ∀ {as : List Addr} {rs : List (List Str)} (n : Nat), Rw H as rs → Rw H (as.take n) (rs.take n)
  | _, _, 0, _ => .nil
  | _, _, _ + 1, .nil => .nil
  | _, _, n + 1, .cons e t => .cons e (Rw.take n t)
theorem dpTabs {K : PySem.W.Frag} {H : Hp} : ∀ {as : List Addr} {rs : List (List Str)}, Rw H as rs → DpAll K H (as.map V.ref) (rs.map dTx)
  | _, _, .nil => .nil
  | _, _, .cons e t => .cons (dp_dTx e) (dpTabs t)
theorem dp_dTab {K : PySem.W.Frag} {H : Hp} {p : Addr} {as : List Addr} {rs : List (List Str)} (h : H p = some (.lst (as.map V.ref))) (t : Rw H as rs) : Dp K H (.ref p) (dTab rs) := .lst (SqL.of h) (dpTabs t)
end L2
namespace My
open PySem PySem.Spec PyProof.Rows L2
def top (i : Nat) : Stmt := PySem.Challenge.pw_shortlooks_k05_sample_rules.main.body.getD i (.Pass ⟨0, 0, 0, 0⟩)
abbrev cInvalidText : Stmt := top 3
abbrev cInvalidRow : Stmt := top 4
abbrev sMade : Stmt := top 12
abbrev sRowOf : Stmt := top 13
abbrev sWord : Stmt := top 14
abbrev sSigns : Stmt := top 15
abbrev sMoods : Stmt := top 16
abbrev sGood : Stmt := top 17
abbrev sGoals : Stmt := top 18
abbrev sRead : Stmt := top 19
abbrev sRule : Stmt := top 21
abbrev sEndsR : Stmt := top 27
abbrev sEvenR : Stmt := top 28
abbrev sFreeR : Stmt := top 29
abbrev sHasR : Stmt := top 30
abbrev sWell : Stmt := top 32
abbrev sDip : Stmt := top 33
abbrev sPick : Stmt := top 34
abbrev sLine : Stmt := top 35
abbrev sRight : Stmt := top 36
abbrev sLaw : Stmt := top 37
end My
namespace My
open PySem PySem.Spec PyProof.Rows L2
/-- the def x is there, and keeps the promise -/
structure Hv (P : Program) (w : World) (K : PySem.W.Frag) (mg : Str → Option Value) (base : Heap) (k : Nat) (x : Str) (ps : List Str) (sp : Sp) : Prop where
  ex : ∃ (f : Addr) (fd : FuncData), FnOk P w K mg base CX0 k f fd ps sp ∧ Binds K fd ps [] ∧ mg x = some (.ref f) ∧ PySem.W.keepIn K (.ref f) = true
theorem pe_cl {X : Cx} {k : Nat} {x : Str} {ps : List Str} {sp : Sp} {p pos : Pos} {e : Expr} {es : List Expr} {t : TA} {E : XK} (h : Hv X.prog X.w X.K X.mg X.base k x ps sp) (hr : Room k X.A) (hg : Gl X x) (hx : Passes CX0 X E) (ha : PA X (e :: es) t)
    (hdb : (x == ("__debug__" : Str)) = false := by decide) (he : starEach (e :: es) X.env = (false, eval e X.env) :: starEach es X.env := by rfl) (hpl : (backTo pos (starEach es X.env)).any (·.1) = false := by rfl) :
    PE X (.Call (.Name x p) (e :: es) [] pos) (tCall sp [] E t) := by
  obtain ⟨f, fd, F, b, g, kp⟩ := h.ex
  exact pe_call F hr hg g kp b .nil hx ha hdb he hpl
/-! what the program says of texts, as plain functions -/
abbrev abc : Str := "abcdefghijklmnopqrstuvwxyz"
def madeL (x y : Str) : Bool := (x.cps.toList.map fun c => decide (c ∈ y.cps.toList)).all id

def isWordL (x : Str) : Bool := decide (1 ≤ x.length) && decide (x.length ≤ 8) && madeL x abc
def spMade : Sp := fun vs H Q _ => ∃ x y : Str, vs = [.str x, .str y] ∧ x.length ≤ 16000000 ∧ ∀ H', Same H H' → Q (.bl (madeL x y)) H'
def spWord : Sp := fun vs H Q _ => ∃ x : Str, vs = [.str x] ∧ x.length ≤ 16000000 ∧ ∀ H', Same H H' → Q (.bl (isWordL x)) H'
section
variable {P : Program} {w : World} {K : PySem.W.Frag} {mg : Str → Option Value} {base : Heap}
theorem scMade : FnScope ["text", "letters", "letter"] ["text", "letters"] (defScope sMade) := ⟨rfl, rfl, rfl, by decide +kernel, rfl, by decide +kernel, by decide +kernel⟩
theorem ok_made {f : Addr} {fd : FuncData} (F : Fun K "made_of" "made_of" sMade f fd) (hA : mg "all" = none) : FnOk P w K mg base CX0 1 f fd ["text", "letters"] spMade := by
  refine F.ok scMade (fun vs H Q E h => ?_) (fun cdv A outer s H vs Q E hr h => ?_)
  · obtain ⟨x, y, rfl, _⟩ := h
    rfl
  · obtain ⟨x, y, rfl, hx, k⟩ := h
    refine ⟨_, pss_one (ps_ret (pe_callB (cr_all rfl) (by rfl) hA (by decide +kernel) (pa_cons (pe_lc (own := [("letter", 2)]) (g := gName 2) (tt := tYes) rfl scMade.nd (pi_str (pv 0))
      (blkOk_by (N := ["text", "letters", "letter"]) (sc := defScope sMade) (by decide +kernel)) (fun _ _ _ _ _ => pg_name (i := 2) scMade.nd rfl (Or.inl rfl)) (fun _ _ _ _ _ => pts_nil) (fun _ _ _ _ _ => pe_cmpR op_in_sign (pv 2) (pv 1) (by rfl))) pa_nil))), ?_⟩
    refine ⟨_, rfl, x, rfl, fun D hD => ?_⟩
    refine lcG (x.cps.toList) (fun c => some (.bl (decide (c ∈ y.cps.toList)))) (by rw [Array.length_toList]; exact walk_str) (by rw [Array.length_toList]; exact hx) hD (fun i H x H' h => by rw [h.1]; exact Same.refl _) (fun _ _ => trivial) (fun i c z H' H'' k1 hc _ hy k2 => ?_) (fun H' s' e => ?_)
    · obtain ⟨rfl, c', hc', rfl⟩ := hy
      rw [← Array.getElem?_toList, hc] at hc'
      cases hc'
      exact ⟨rfl, _, rfl, _, rfl, c, _, rfl, rfl, k2 _ (Same.refl _)⟩
    · refine ⟨D, x.cps.toList.map fun c => decide (c ∈ y.cps.toList), rfl, SqL.of ?_, k _ s'⟩
      rw [e, List.filterMap_eq_map', List.map_map]
      rfl
theorem scWord : FnScope ["text"] ["text"] (defScope sWord) := ⟨rfl, rfl, rfl, by decide +kernel, rfl, by decide +kernel, by decide +kernel⟩
theorem ok_word {f : Addr} {fd : FuncData} {tA tB : Tok} (F : Fun K "is_word" "is_word" sWord f fd) (hO : Hv P w K mg base 1 "made_of" ["text", "letters"] spMade) (hL : mg "len" = none) (gL : mg "LONGEST_WORD" = some (.int 8 tA)) (gA : mg "LETTERS" = some (.str abc tB)) : FnOk P w K mg base CX0 2 f fd ["text"] spWord := by
  refine F.ok scWord (fun vs H Q E h => ?_) (fun cdv A outer s H vs Q E hr h => ?_)
  · obtain ⟨x, rfl, _⟩ := h
    rfl
  · obtain ⟨x, rfl, hx, k⟩ := h
    refine ⟨_, pss_one (ps_ret (pe_and (pe_chain op_le op_le pe_int (pe_callB call_len_str (by rfl) hL PySem.boot_len (pa_cons (pv 0) pa_nil)) (pe_glob (v := .int 8) rfl gL ⟨_, rfl⟩)) (pe_one (pe_cl hO hr rfl pass0 (pa_cons (pv 0) (pa_cons (pe_glob (v := .str abc) rfl gA ⟨_, rfl⟩) pa_nil)))))), ?_⟩
    refine ⟨_, rfl, x, rfl, (by rw [sizeLine_eq]; omega), _, _, rfl, rfl, _, rfl, ?_⟩
    refine ite2 (fun c1 => ?_) (fun c1 => ?_)
    · refine ⟨_, _, rfl, rfl, _, rfl, ite2 (fun c2 => ⟨_, rfl, x, abc, rfl, hx, fun H' s => ?_⟩) (fun c2 => ?_)⟩
      · have e : isWordL x = madeL x abc := by
          have h1 := of_decide_eq_true c1
          have h2 := of_decide_eq_true c2
          unfold isWordL
          rw [decide_eq_true (by omega), decide_eq_true (by omega)]
          simp
        rw [← e]
        exact k _ s
      · have e : isWordL x = false := by
          have h2 := of_decide_eq_false (Bool.eq_false_iff.mpr c2)
          unfold isWordL
          rw [decide_eq_false (by omega : ¬ x.length ≤ 8)]
          simp
        rw [e] at k
        exact k _ (Same.refl _)
    · have e : isWordL x = false := by
        have h2 := of_decide_eq_false (Bool.eq_false_iff.mpr c1)
        unfold isWordL
        rw [decide_eq_false (by omega : ¬ 1 ≤ x.length)]
        simp
      rw [e] at k
      exact ⟨_, rfl, iteF (k _ (Same.refl _))⟩
end
end My
namespace My
open PySem PySem.Spec PyProof.Rows L2 PySem.GX
theorem mem_ins {ys : List Str} {k z : Str} : z ∈ ins ys k ↔ z = k ∨ z ∈ ys := by
  unfold ins
  by_cases h : k ∈ ys
  · rw [if_pos h]
    constructor
    · intro m; exact .inr m
    · rintro (rfl | m)
      · exact h
      · exact m
  · rw [if_neg h, List.mem_cons]
theorem setFold_all : ∀ (n : Nat) (xs : List Str), xs.length = n → (setFold xs).Nodup ∧ (∀ z, z ∈ setFold xs ↔ z ∈ xs) ∧ (xs.Nodup → (setFold xs).Perm xs) ∧ (¬ xs.Nodup → (setFold xs).length < xs.length) := by
  intro n
  induction n with
  | zero =>
    intro xs h
    have : xs = [] := List.eq_nil_of_length_eq_zero h
    subst this
    exact ⟨List.nodup_nil, fun _ => Iff.rfl, fun _ => List.Perm.refl _, fun h => absurd List.nodup_nil h⟩
  | succ n ih =>
    intro xs h
    have hne : xs ≠ [] := by intro z; subst z; cases h
    obtain ⟨ys, a, rfl⟩ : ∃ ys a, xs = ys ++ [a] := ⟨xs.dropLast, xs.getLast hne, (List.dropLast_concat_getLast hne).symm⟩
    have hl : ys.length = n := by rw [List.length_append] at h; simpa using h
    obtain ⟨i1, i2, i3, i4⟩ := ih ys hl
    have len := setFold_len n ys hl
    rw [setFold_snoc]
    refine ⟨ins_nodup i1, fun z => ?_, fun nd => ?_, fun nd => ?_⟩
    · rw [mem_ins, i2, List.mem_append]
      simp
      constructor
      · rintro (h | h) <;> simp [h]
      · rintro (h | h) <;> simp [h]
    · rw [List.nodup_append] at nd
      have ha : a ∉ setFold ys := fun z => nd.2.2 a ((i2 a).mp z) a (by simp) rfl
      unfold ins
      rw [if_neg ha]
      exact ((i3 nd.1).cons a).trans (List.perm_append_singleton a ys).symm
    · unfold ins
      by_cases ha : a ∈ setFold ys
      · rw [if_pos ha, List.length_append]
        simp; omega
      · rw [if_neg ha, List.length_append]
        have : ¬ ys.Nodup := fun z => nd (by
          rw [List.nodup_append]
          refine ⟨z, by simp, fun b hb c hc e => ?_⟩
          simp at hc
          subst hc; subst e
          exact ha ((i2 b).mpr hb))
        have := i4 this
        simp; omega
theorem setFold_eqlen (xs : List Str) : decide ((setFold xs).length = xs.length) = decide xs.Nodup := by
  obtain ⟨_, _, i3, i4⟩ := setFold_all _ xs rfl
  by_cases h : xs.Nodup
  · rw [decide_eq_true h, decide_eq_true (i3 h).length_eq]
  · rw [decide_eq_false h, decide_eq_false (Nat.ne_of_lt (i4 h))]
/-- the sign c as a text -/
abbrev sg (c : Nat) : Str := ⟨#[c]⟩
theorem sg_inj {a b : Nat} (h : sg a = sg b) : a = b := by
  have := congrArg (fun s : Str => s.cps.toList) h
  simpa using this
theorem str_ext {x y : Str} (h : x.cps.toList = y.cps.toList) : x = y := by
  cases x; cases y
  simp at h
  rw [h]
theorem asc_eq : ∀ {a b : List Nat}, a.Pairwise (· < ·) → b.Pairwise (· < ·) → (∀ z, z ∈ a ↔ z ∈ b) → a = b
  | [], [], _, _, _ => rfl
  | [], y :: _, _, _, h => by have := (h y).mpr (by simp); simp at this
  | x :: _, [], _, _, h => by have := (h x).mp (by simp); simp at this
  | x :: xs, y :: ys, h1, h2, h => by
    rw [List.pairwise_cons] at h1 h2
    have e : x = y := by
      have m1 := (h x).mp (by simp)
      have m2 := (h y).mpr (by simp)
      simp at m1 m2
      rcases m1 with m1 | m1
      · exact m1
      · rcases m2 with m2 | m2
        · exact m2.symm
        · have a1 := h1.1 _ m2
          have a2 := h2.1 _ m1
          omega
    subst e
    congr 1
    refine asc_eq h1.2 h2.2 fun z => ?_
    constructor
    · intro m
      have := (h z).mp (by simp [m])
      simp at this
      rcases this with rfl | t
      · exact absurd (h1.1 _ m) (Nat.lt_irrefl _)
      · exact t
    · intro m
      have := (h z).mpr (by simp [m])
      simp at this
      rcases this with rfl | t
      · exact absurd (h2.1 _ m) (Nat.lt_irrefl _)
      · exact t
theorem rising_asc : ∀ (cs : List Nat) (p : Nat), risingS (sg p) (cs.map sg) = true → (p :: cs).Nodup → (p :: cs).Pairwise (· < ·)
  | [], p, _, _ => by simp
  | c :: cs, p, h, nd => by
    unfold risingS at h
    rw [List.map_cons] at h
    simp only [Bool.and_eq_true] at h
    have nd' := (List.nodup_cons.mp nd)
    have ih := rising_asc cs c h.2 nd'.2
    have h1 : ¬ c < p := by
      have := h.1
      simp [ltCps] at this
      omega
    have h2 : p ≠ c := fun z => nd'.1 (by simp [z])
    rw [List.pairwise_cons] at ih ⊢
    refine ⟨fun z hz => ?_, List.pairwise_cons.mpr ih⟩
    simp at hz
    rcases hz with rfl | hz
    · omega
    · have := ih.1 z hz
      omega
theorem join_signs : ∀ cs : List Nat, (Str.join Str.empty (cs.map sg)).cps.toList = cs
  | [] => rfl
  | [c] => rfl
  | c :: d :: cs => by
    have ih := join_signs (d :: cs)
    show ((sg c ++ Str.empty ++ Str.join Str.empty ((d :: cs).map sg)).cps).toList = _
    show (((#[c] ++ #[]) ++ (Str.join Str.empty ((d :: cs).map sg)).cps)).toList = _
    rw [Array.toList_append, ih]
    rfl
/-- the text is its own signs in their order, each once -/
theorem asc_join {x : Str} {zs : List Str} (hp : zs.Perm (setFold (signsOf x))) (hs : sortedS zs = true) : decide (V.str x = V.str (Txt.join Str.empty zs)) = decide (x.cps.toList.Pairwise (· < ·)) := by
  obtain ⟨i1, i2, i3, i4⟩ := setFold_all _ (signsOf x) rfl
  have nd : zs.Nodup := hp.nodup_iff.mpr i1
  have hm : ∀ z, z ∈ zs ↔ z ∈ signsOf x := fun z => (hp.mem_iff).trans (i2 z)
  obtain ⟨cs, rfl⟩ : ∃ cs : List Nat, zs = cs.map sg := by
    have all : ∀ z ∈ zs, ∃ c, z = sg c := fun z hz => by
      have := (hm z).mp hz
      unfold signsOf at this
      obtain ⟨c, _, rfl⟩ := List.mem_map.mp this
      exact ⟨c, rfl⟩
    clear hp hs nd hm i1 i2 i3 i4
    induction zs with
    | nil => exact ⟨[], rfl⟩
    | cons z t ih =>
      obtain ⟨c, rfl⟩ := all z (by simp)
      obtain ⟨cs, e⟩ := ih fun y hy => all y (by simp [hy])
      exact ⟨c :: cs, by rw [e]; rfl⟩
  have ndc : cs.Nodup := by
    unfold List.Nodup at nd
    rw [List.pairwise_map] at nd
    exact nd.imp fun h z => h (congrArg sg z)
  have asc : cs.Pairwise (· < ·) := by
    cases cs with
    | nil => simp
    | cons c t => exact rising_asc t c hs ndc
  have mem : ∀ c, c ∈ cs ↔ c ∈ x.cps.toList := fun c => by
    have := hm (sg c)
    unfold signsOf at this
    constructor
    · intro h
      obtain ⟨d, hd, e⟩ := List.mem_map.mp (this.mp (List.mem_map.mpr ⟨c, h, rfl⟩))
      rw [← sg_inj e]; exact hd
    · intro h
      obtain ⟨d, hd, e⟩ := List.mem_map.mp (this.mpr (List.mem_map.mpr ⟨c, h, rfl⟩))
      rw [← sg_inj e]; exact hd
  have ej : (Txt.join Str.empty (cs.map sg)).cps.toList = cs := by rw [TL.join_eq, join_signs]
  by_cases h : x.cps.toList.Pairwise (· < ·)
  · rw [decide_eq_true h, decide_eq_true]
    congr 1
    exact str_ext (by rw [ej]; exact asc_eq h asc fun z => (mem z).symm)
  · rw [decide_eq_false h, decide_eq_false]
    intro e
    have e' : x = _ := V.str.inj e
    apply h
    rw [e', ej]
    exact asc
def areSignsL : List Str → Bool
  | [x] => decide (1 ≤ x.length) && decide (x.length ≤ 3) && madeL x abc && decide (x.cps.toList.Pairwise (· < ·))
  | _ => false
def areMoodsL (ws : List Str) : Bool := decide (1 ≤ ws.length) && decide (ws.length ≤ 300) && ws.all isWordL && decide ws.Nodup
def areGoodL (ws ms : List Str) : Bool := decide (ws = ms.filter fun m => decide (m ∈ ws))
end My
namespace My
open PySem PySem.Spec PyProof.Rows L2 PySem.GX
theorem areS1 (x : Str) : areSignsL [x] = (decide (1 ≤ x.length) && decide (x.length ≤ 3) && madeL x abc && decide (x.cps.toList.Pairwise (· < ·))) := rfl
def spSigns (K : PySem.W.Frag) : Sp := fun vs H Q _ => ∃ (l : Addr) (ws : List Str), vs = [.ref l] ∧ H l = some (.lst (ws.map V.str)) ∧ (∀ x ∈ ws, x.length ≤ 16000000) ∧ ∀ H', Same H H' → Q (.bl (areSignsL ws)) H'
def spMoods (K : PySem.W.Frag) : Sp := fun vs H Q _ => ∃ (l : Addr) (ws : List Str), vs = [.ref l] ∧ H l = some (.lst (ws.map V.str)) ∧ (∀ x ∈ ws, x.length ≤ 16000000) ∧ ∀ H', Same H H' → Q (.bl (areMoodsL ws)) H'
section
variable {P : Program} {w : World} {K : PySem.W.Frag} {mg : Str → Option Value} {base : Heap}
theorem scSigns : FnScope ["words"] ["words"] (defScope sSigns) := ⟨rfl, rfl, rfl, by decide +kernel, rfl, by decide +kernel, by decide +kernel⟩
theorem ok_signs {f : Addr} {fd : FuncData} {tA tB : Tok} (F : Fun K "are_signs" "are_signs" sSigns f fd) (hO : Hv P w K mg base 1 "made_of" ["text", "letters"] spMade) (gA : mg "LETTERS" = some (.str abc tB)) (hL : mg "len" = none) (hS : mg "set" = none) (hT : mg "sorted" = none) (gM : mg "MOST_SIGNS" = some (.int 3 tA)) :
    FnOk P w K mg base CX0 2 f fd ["words"] (spSigns K) := by
  refine F.ok scSigns (fun vs H Q E h => ?_) (fun cdv A outer s H vs Q E hr h => ?_)
  · obtain ⟨l, ws, rfl, _⟩ := h
    rfl
  · obtain ⟨l, ws, rfl, hl, hx, k⟩ := h
    refine ⟨_, pss_cons (ps_if (PW.pt (pw_or (pt_cmpR op_ne (pe_callB call_len_seq (by rfl) hL PySem.boot_len (pa_cons (pv 0) pa_nil)) pe_int (nomark _))
        (pw_or1 (pt_not (pt_chain op_le op_le pe_int (pe_callB call_len_str (by rfl) hL PySem.boot_len (pa_cons (pe_ix ix_list (pv 0) pe_int (fun _ _ => rfl)) pa_nil)) (pe_glob (v := .int 3) rfl gM ⟨_, rfl⟩))))))
        (pss_one (ps_ret pe_bl)) pss_nil)
      (pss_one (ps_ret (pe_and (pe_cl hO hr rfl pass0 (pa_cons (pe_ix ix_list (pv 0) pe_int (fun _ _ => rfl)) (pa_cons (pe_glob (v := .str abc) rfl gA ⟨_, rfl⟩) pa_nil)))
        (pe_one (pe_cmpR op_eq (pe_ix ix_list (pv 0) pe_int (fun _ _ => rfl)) (pe_join pe_str (pe_callB (cr_sortedTx rfl) (by rfl) hT (by decide +kernel) (pa_cons (pe_callTy (cr_setS rfl) (by rfl) hS (by decide +kernel) (pa_cons (pe_ix ix_list (pv 0) pe_int (fun _ _ => rfl)) pa_nil)) pa_nil))) (nomark _)))))), ?_⟩
    refine ⟨_, rfl, l, _, rfl, .inl (SqL.of hl), rfl, _, rfl, ?_⟩
    rw [List.length_map]
    match ws, hl, hx, k with
    | [], hl, hx, k => exact iteT (iteT (k _ (Same.refl _)))
    | _ :: _ :: _, hl, hx, k =>
      refine ite2 (fun c => iteT (k _ (Same.refl _))) (fun c => ?_)
      exfalso
      apply c
      simp
      omega
    | [x], hl, hx, k =>
      refine iteF ?_
      have hz := hx x (by simp)
      refine ⟨_, rfl, l, _, _, _, rfl, rfl, SqL.of hl, atI_nat (j := 0) rfl, x, rfl, (by rw [sizeLine_eq]; omega), _, _, rfl, rfl, _, rfl, ?_⟩
      refine ite2 (fun c1 => ?_) (fun c1 => ?_)
      · refine ⟨_, _, rfl, rfl, _, rfl, ?_⟩
        have h1 := of_decide_eq_true c1
        refine ite2 (fun c2 => ?_) (fun c2 => ?_)
        · have e : areSignsL [x] = false := by
            have h2 : (3 : Int) < (x.length : Int) := by simpa using c2
            rw [areS1]
            rw [decide_eq_false (by omega : ¬ x.length ≤ 3)]
            simp
          rw [e] at k
          exact k _ (Same.refl _)
        · have h2 : (x.length : Int) ≤ 3 := by simpa using c2
          have e : areSignsL [x] = (madeL x abc && decide (x.cps.toList.Pairwise (· < ·))) := by
            rw [areS1, decide_eq_true (show 1 ≤ x.length by omega), decide_eq_true (show x.length ≤ 3 by omega)]
            simp
          rw [e] at k
          refine ⟨_, rfl, l, _, _, _, rfl, rfl, SqL.of hl, atI_nat (j := 0) rfl, x, abc, rfl, hz, fun H1 s1 => ⟨_, rfl, ite2 (fun c3 => ?_) (fun c3 => ?_)⟩⟩
          · have hl1 := s1 _ _ hl
            refine ⟨_, rfl, l, _, _, _, rfl, rfl, SqL.of hl1, atI_nat (j := 0) rfl, ⟨_, rfl⟩, _, rfl, l, _, _, _, rfl, rfl, SqL.of hl1, atI_nat (j := 0) rfl, x, rfl, (by omega), fun p hp => ⟨p, _, rfl, upd_same, fun zs q pz sz hq => ?_⟩⟩
            have hlen : zs.length ≤ 3 := by
              rw [pz.length_eq]
              have := setFold_len _ (signsOf x) rfl
              have e2 : (signsOf x).length = x.length := by unfold signsOf; rw [List.length_map, Array.length_toList]; rfl
              omega
            have hone : ∀ z ∈ zs, z.length = 1 := fun z hz => by
              have := (setFold_all _ (signsOf x) rfl).2.1 z |>.mp (pz.mem_iff.mp hz)
              unfold signsOf at this
              obtain ⟨c, _, rfl⟩ := List.mem_map.mp this
              rfl
            refine ⟨_, q, zs, rfl, rfl, .inl (SqL.of upd_same), ?_, rfl, ?_⟩
            · have : (zs.map (·.length)).sum = zs.length := by
                clear pz sz hq hlen
                induction zs with
                | nil => rfl
                | cons z t ih => 
                  rw [List.map_cons, List.sum_cons, ih (fun y hy => hone y (by simp [hy])), hone z (by simp), List.length_cons]
                  omega
              rw [this]
              have e0 : (Str.ofString "").length = 0 := rfl
              rw [e0]
              omega
            · have := asc_join pz sz
              rw [c3, Bool.true_and] at k
              rw [← this] at k
              exact k _ ((s1.trans (same_new hp)).trans (same_new hq))
          · rw [Bool.eq_false_iff.mpr c3] at k
            exact k _ s1
      · refine ⟨_, rfl, iteT ?_⟩
        have e : areSignsL [x] = false := by
          have h2 := of_decide_eq_false (Bool.eq_false_iff.mpr c1)
          rw [areS1]
          rw [decide_eq_false (by omega : ¬ 1 ≤ x.length)]
          simp
        rw [e] at k
        exact k _ (Same.refl _)
end
end My
namespace My
open PySem PySem.Spec PyProof.Rows L2 PySem.GX
theorem yat_same (xs : List V) : ∀ i H x H', YAt xs i H x H' → Same H H' := fun i H x H' h => by rw [h.1]; exact Same.refl _
theorem map_get {α : Type} {xs : List α} {f : α → V} {i : Nat} {a : α} {x : V} (ha : xs[i]? = some a) (h : (xs.map f)[i]? = some x) : x = f a := by
  rw [List.getElem?_map, ha] at h
  exact (Option.some.inj h).symm
section
variable {P : Program} {w : World} {K : PySem.W.Frag} {mg : Str → Option Value} {base : Heap}
theorem scMoods : FnScope ["words", "word"] ["words"] (defScope sMoods) := ⟨rfl, rfl, rfl, by decide +kernel, rfl, by decide +kernel, by decide +kernel⟩
theorem ok_moods {f : Addr} {fd : FuncData} {tA : Tok} (F : Fun K "are_moods" "are_moods" sMoods f fd) (hW : Hv P w K mg base 2 "is_word" ["text"] spWord) (hL : mg "len" = none) (hS : mg "set" = none) (hA : mg "all" = none) (gM : mg "MOST_MOODS" = some (.int 300 tA)) :
    FnOk P w K mg base CX0 3 f fd ["words"] (spMoods K) := by
  refine F.ok scMoods (fun vs H Q E h => ?_) (fun cdv A outer s H vs Q E hr h => ?_)
  · obtain ⟨l, ws, rfl, _⟩ := h
    rfl
  · obtain ⟨l, ws, rfl, hl, hx, k⟩ := h
    refine ⟨_, pss_cons (ps_if (pt_not (pt_chain op_le op_le pe_int (pe_callB call_len_seq (by rfl) hL PySem.boot_len (pa_cons (pv 0) pa_nil)) (pe_glob (v := .int 300) rfl gM ⟨_, rfl⟩)))
        (pss_one (ps_ret pe_bl)) pss_nil)
      (pss_one (ps_ret (pe_and (pe_callB (cr_all rfl) (by rfl) hA (by decide +kernel) (pa_cons (pe_lc (own := [("word", 1)]) (g := gName 1) (tt := tYes) rfl scMoods.nd (pi_list (pv 0))
          (blkOk_by (N := ["words", "word"]) (sc := defScope sMoods) (by decide +kernel)) (fun _ _ _ _ _ => pg_name (i := 1) scMoods.nd rfl (Or.inl rfl)) (fun _ _ _ _ _ => pts_nil) (fun _ _ _ _ _ => pe_cl hW hr rfl pass0 (pa_cons (pv 1) pa_nil))) pa_nil))
        (pe_one (pe_cmpR op_eq (pe_callB cr_lenSet (by rfl) hL PySem.boot_len (pa_cons (pe_callTy (cr_setL rfl) (by rfl) hS (by decide +kernel) (pa_cons (pv 0) pa_nil)) pa_nil)) (pe_callB call_len_seq (by rfl) hL PySem.boot_len (pa_cons (pv 0) pa_nil)) (nomark _)))))), ?_⟩
    refine ⟨_, rfl, l, _, rfl, .inl (SqL.of hl), _, _, rfl, rfl, _, rfl, ?_⟩
    rw [List.length_map]
    refine ite2 (fun c1 => ?_) (fun c1 => ?_)
    · refine ⟨_, _, rfl, rfl, _, rfl, ?_⟩
      have h1 := of_decide_eq_true c1
      refine ite2 (fun c2 => ?_) (fun c2 => ?_)
      · have e : areMoodsL ws = false := by
          have h2 : (300 : Int) < (ws.length : Int) := by simpa using c2
          unfold areMoodsL
          rw [decide_eq_false (by omega : ¬ ws.length ≤ 300)]
          simp
        rw [e] at k
        exact k _ (Same.refl _)
      · have h2 : (ws.length : Int) ≤ 300 := by simpa using c2
        have e : areMoodsL ws = (ws.all isWordL && decide ws.Nodup) := by
          unfold areMoodsL
          rw [decide_eq_true (show 1 ≤ ws.length by omega), decide_eq_true (show ws.length ≤ 300 by omega)]
          simp
        rw [e] at k
        refine ⟨_, rfl, l, rfl, ⟨_, SqL.of hl⟩, fun D hD => ?_⟩
        refine lcG ws (fun x => some (.bl (isWordL x))) (by have := walk_list (K := K) (a := l) (xs := ws.map V.str); rw [List.length_map] at this; exact this) (by omega) hD (yat_same _) (fun H' s => SqL.of (s _ _ hl)) (fun i x y H' H'' k1 hx' s1 hy k2 => ?_) (fun H1 s1 e1 => ?_)
        · obtain ⟨rfl, hy⟩ := hy
          obtain rfl := map_get hx' hy
          refine ⟨rfl, _, rfl, x, rfl, hx x (List.mem_of_getElem? hx'), fun H4 s4 => k2 _ s4⟩
        · refine ⟨D, ws.map isWordL, rfl, SqL.of ?_, _, rfl, ?_⟩
          · rw [e1, List.filterMap_eq_map', List.map_map]
            rfl
          · have ea : (ws.map isWordL).all id = ws.all isWordL := by rw [List.all_map]; rfl
            rw [ea]
            refine ite2 (fun c3 => ?_) (fun c3 => ?_)
            · have hl1 := s1 _ _ hl
              refine ⟨_, rfl, l, ws, rfl, SqL.of hl1, (by omega), fun p hp => ⟨p, _, rfl, upd_same, _, rfl, l, _, rfl, .inl (SqL.of (keep1 hl1 hp)), rfl, ?_⟩⟩
              rw [c3, Bool.true_and, ← setFold_eqlen] at k
              rw [List.length_map]
              have ed : decide (V.int ((setFold ws).length : Nat) = V.int (ws.length : Nat)) = decide ((setFold ws).length = ws.length) := by
                rw [dec_int]
                by_cases hc : (setFold ws).length = ws.length
                · rw [hc]; simp
                · rw [decide_eq_false hc]
                  simp
                  omega
              rw [ed]
              exact k _ (s1.trans (same_new hp))
            · rw [Bool.eq_false_iff.mpr c3] at k
              exact k _ s1
    · have e : areMoodsL ws = false := by
        have h2 := of_decide_eq_false (Bool.eq_false_iff.mpr c1)
        unfold areMoodsL
        rw [decide_eq_false (by omega : ¬ 1 ≤ ws.length)]
        simp
      rw [e] at k
      exact ⟨_, rfl, iteT (k _ (Same.refl _))⟩
end
end My
namespace My
open PySem PySem.Spec PyProof.Rows L2 PySem.GX
def spGood (K : PySem.W.Frag) : Sp := fun vs H Q _ => ∃ (l m : Addr) (ws ms : List Str), vs = [.ref l, .ref m] ∧ H l = some (.lst (ws.map V.str)) ∧ H m = some (.lst (ms.map V.str)) ∧ ws.length ≤ 16000000 ∧ ms.length ≤ 16000000 ∧
  (∀ x ∈ ws, PyData.strOk x = true) ∧ (∀ x ∈ ms, PyData.strOk x = true) ∧ ∀ H', Same H H' → Q (.bl (areGoodL ws ms)) H'
/-- the dict {x: True for x in ws} -/
abbrev dTrue (ws : List Str) : List (Key × V) := dOf (fun x => (Sum.inr x : Key)) (fun _ => V.bl true) ws
theorem dTrue_val (ws : List Str) (m : Str) : (valV (dTrue ws) (Sum.inr m)).isSome = decide (m ∈ ws) := by
  rw [dOf_val]
  congr 1
  simp
theorem fm_filter (p : Str → Bool) : ∀ ms : List Str, (ms.filterMap fun m => if p m = true then some (V.str m) else none) = (ms.filter p).map V.str
  | [] => rfl
  | m :: t => by
    rw [List.filterMap_cons, List.filter_cons]
    cases h : p m with
    | true => simp [fm_filter p t]
    | false => simp [fm_filter p t]
section
variable {P : Program} {w : World} {K : PySem.W.Frag} {mg : Str → Option Value} {base : Heap}
theorem scGood : FnScope ["words", "moods", "chosen", "word", "mood"] ["words", "moods"] (defScope sGood) := ⟨rfl, rfl, rfl, by decide +kernel, rfl, by decide +kernel, by decide +kernel⟩
theorem ok_good {f : Addr} {fd : FuncData} (F : Fun K "are_good" "are_good" sGood f fd) : FnOk P w K mg base CX0 1 f fd ["words", "moods"] (spGood K) := by
  refine F.ok scGood (fun vs H Q E h => ?_) (fun cdv A outer s H vs Q E hr h => ?_)
  · obtain ⟨l, m, ws, ms, rfl, _⟩ := h
    rfl
  · obtain ⟨l, m, ws, ms, rfl, hl, hm, z1, z2, o1, o2, k⟩ := h
    refine ⟨_, pss_cons (ps_set (i := 2) scGood.nd rfl (Or.inr rfl) (pe_dc (own := [("word", 3)]) (g := gName 3) (tt := tYes) rfl scGood.nd (pi_list (pv 0))
          (blkOk_by (N := ["words", "moods", "chosen", "word", "mood"]) (sc := defScope sGood) (by decide +kernel)) (fun _ _ _ _ _ => pg_name (i := 3) scGood.nd rfl (Or.inl rfl)) (fun _ _ _ _ _ => pts_nil) (fun _ _ _ _ _ => pv 3) (fun _ _ _ _ _ => pe_bl)))
      (pss_one (ps_ret (pe_cmpR (op_eqD hr.units) (pv 0) (pe_lc (own := [("mood", 4)]) (g := gName 4) rfl scGood.nd (pi_list (pv 1))
          (blkOk_by (N := ["words", "moods", "chosen", "word", "mood"]) (sc := defScope sGood) (by decide +kernel)) (fun _ _ _ _ _ => pg_name (i := 4) scGood.nd rfl (Or.inl rfl)) (fun _ _ _ _ _ => pts_one (pt_cmp (pc_din (hu_of hr) (pv 4) (pv 2)))) (fun _ _ _ _ _ => pv 4)) (nomark _)))), ?_⟩
    refine ⟨_, rfl, l, rfl, ⟨_, SqL.of hl⟩, fun D hD => ?_⟩
    refine dcG ws (fun x => (Sum.inr x : Key)) (fun _ => V.bl true) (by have := walk_list (K := K) (a := l) (xs := ws.map V.str); rw [List.length_map] at this; exact this) z1 hD (yat_same _) (fun H' s => SqL.of (s _ _ hl)) (fun i x y H' H'' k1 k0 hx s1 hy k2 => ?_) (fun H1 s1 e1 => ?_)
    · obtain ⟨rfl, hy⟩ := hy
      obtain rfl := map_get hx hy
      exact ⟨rfl, _, rfl, k2 _ (Same.refl _)⟩
    · have hl1 := s1 _ _ hl
      have hm1 := s1 _ _ hm
      refine ⟨_, rfl, _, rfl, m, rfl, ⟨_, SqL.of hm1⟩, fun E' hE => ?_⟩
      refine lcG ms (fun x => if decide (x ∈ ws) = true then some (V.str x) else none) (by have := walk_list (K := K) (a := m) (xs := ms.map V.str); rw [List.length_map] at this; exact this) z2 hE (yat_same _) (fun H' s => SqL.of (s _ _ hm1)) (fun i x y H' H'' k1 hx s2 hy k2 => ?_) (fun H2 s2 e2 => ?_)
      · obtain ⟨rfl, hy⟩ := hy
        obtain rfl := map_get hx hy
        have kk := k2 _ (Same.refl _)
        refine ⟨rfl, _, rfl, _, rfl, D, _, rfl, DGet.k (k := Sum.inr x) (s2 _ _ e1), _, rfl, ?_⟩
        rw [dTrue_val]
        refine ite2 (fun c => ?_) (fun c => ?_)
        · rw [if_pos c] at kk
          exact ⟨_, rfl, kk⟩
        · rw [if_neg c] at kk
          exact kk
      · rw [fm_filter] at e2
        refine ⟨dTx ws, dTx (ms.filter fun x => decide (x ∈ ws)), dp_dTx (s2 _ _ hl1), dp_dTx e2, shaped_dTx o1, shaped_dTx fun x hx => o2 x ((List.mem_filter.mp hx).1), ?_⟩
        rw [eqv_dTx]
        exact k _ (s1.trans s2)
end
end My
namespace L2
open PySem PySem.Spec PyProof.Rows PySem.GX
theorem del_same_of (H : Hp) (p : Addr) : Same (del H p) H := fun b o e => by
  by_cases hb : b = p
  · rw [hb, del_same] at e; cases e
  · rw [del_ne hb] at e
    exact e
/-- the new list D holds new lists with these rows; all that was in H1 stands -/
structure Pr (H1 : Hp) (D : Addr) (H' : Hp) (rs : List (List Str)) : Prop where
  ex : ∃ as : List Addr, Same H1 H' ∧ H' D = some (.lst (as.map V.ref)) ∧ Rw (del H' D) as rs
section
variable {H1 H' H'' : Hp} {D p : Addr} {rs : List (List Str)} {r : List Str}
theorem Pr.zero (hD : H1 D = none) : Pr H1 D (upd H1 D (.lst [])) [] := ⟨[], same_new hD, upd_same, .nil⟩
theorem Pr.keeps (h : Pr H1 D H' rs) : Same H1 H' := let ⟨_, s, _, _⟩ := h.ex; s
theorem Pr.same (h : Pr H1 D H' rs) (s : Same H' H'') : Pr H1 D H'' rs := by
  obtain ⟨as, s1, e, t⟩ := h.ex
  exact ⟨as, s1.trans s, s _ _ e, t.same (same_del s)⟩
theorem Pr.push (h : Pr H1 D H' rs) (hD : H1 D = none) (hp : H' p = none) (hl : rs.length < 16000000) :
    ∃ acc, (upd H' p (.lst (r.map V.str))) D = some (.lst acc) ∧ acc.length < sizeLine ∧ Pr H1 D (upd (upd H' p (.lst (r.map V.str))) D (.lst (acc ++ [.ref p]))) (rs ++ [r]) := by
  obtain ⟨as, s1, e, t⟩ := h.ex
  have ne : D ≠ p := ne_of_none e hp
  refine ⟨as.map V.ref, by rw [upd_ne ne]; exact e, ?_, ⟨as ++ [p], fun b o z => ?_, ?_, ?_⟩⟩
  · rw [List.length_map, t.len, sizeLine_eq]
    omega
  · rw [upd_ne (ne_of_none z hD), upd_ne (ne_of_none (s1 _ _ z) hp)]
    exact s1 _ _ z
  · rw [upd_same, List.map_append]
    rfl
  · rw [del_upd]
    refine Rw.snoc ?_ (t.same (same_del (same_new hp)))
    rw [del_ne ne.symm, upd_same]
theorem Pr.rw_ (h : Pr H1 D H' rs) : ∃ as : List Addr, Same H1 H' ∧ H' D = some (.lst (as.map V.ref)) ∧ Rw H' as rs := by
  obtain ⟨as, s1, e, t⟩ := h.ex
  exact ⟨as, s1, e, t.same (del_same_of _ _)⟩
end
theorem cut_to (ws : List Str) (n : Nat) (hn : n < 2 ^ 62) : cutV (ws.map V.str) none (some (n : Int)) = (ws.take n).map V.str := by
  unfold cutV
  have e0 : HT.sIx (ws.map V.str).length 0 none = 0 := rfl
  have e1 : HT.sIx (ws.map V.str).length (ws.map V.str).length (some (n : Int)) = min n (ws.map V.str).length := by
    unfold HT.sIx
    simp
    omega
  rw [e0, e1, List.drop_zero, Nat.sub_zero, List.map_take]
  apply List.ext_getElem?
  intro i
  simp only [List.getElem?_take]
  by_cases h : i < n
  · by_cases h2 : i < (ws.map V.str).length
    · rw [if_pos h, if_pos (by omega)]
    · rw [if_pos h, if_neg (by omega), List.getElem?_eq_none (by omega)]
  · rw [if_neg h, if_neg (by omega)]
theorem cut_fromV (xs : List V) (n : Nat) (hn : n < 2 ^ 62) : cutV xs (some (n : Int)) none = xs.drop n := by
  unfold cutV
  have e1 : HT.sIx xs.length xs.length none = xs.length := rfl
  have e0 : HT.sIx xs.length 0 (some (n : Int)) = min n xs.length := by
    unfold HT.sIx
    simp
    omega
  rw [e0, e1]
  apply List.ext_getElem?
  intro i
  simp only [List.getElem?_take, List.getElem?_drop]
  by_cases h : i < xs.length - min n xs.length
  · rw [if_pos h]
    congr 1
    omega
  · rw [if_neg h, List.getElem?_eq_none (by omega)]
theorem cut_toV (xs : List V) (n : Nat) (hn : n < 2 ^ 62) : cutV xs none (some (n : Int)) = xs.take n := by
  unfold cutV
  have e0 : HT.sIx xs.length 0 none = 0 := rfl
  have e1 : HT.sIx xs.length xs.length (some (n : Int)) = min n xs.length := by
    unfold HT.sIx
    simp
    omega
  rw [e0, e1, List.drop_zero, Nat.sub_zero]
  apply List.ext_getElem?
  intro i
  simp only [List.getElem?_take]
  by_cases h : i < n
  · by_cases h2 : i < xs.length
    · rw [if_pos h, if_pos (by omega)]
    · rw [if_pos h, if_neg (by omega), List.getElem?_eq_none (by omega)]
  · rw [if_neg h, if_neg (by omega)]
end L2
namespace My
open PySem PySem.Spec PyProof.Rows L2 PySem.GX
/-- the beginnings of the rows of goals, in their order -/
def pairsL (x : Str) (ms : List Str) : List (List Str) := ms.flatMap fun m => x.cps.toList.map fun c => [m, sg c]
def rowOkL (ms : List Str) (r : List Str) : Bool := decide (r.length = 3) && decide (r.getD 2 Str.empty ∈ ms)
def goalsOkL (x : Str) (ms : List Str) (rs : List (List Str)) : Bool := decide (rs.map (List.take 2) = pairsL x ms) && rs.all (rowOkL ms)
/-- the dict that the rows write -/
def goalsD (rs : List (List Str)) : List (List Key × V) := dOf (fun r => [Sum.inr (r.getD 0 Str.empty), Sum.inr (r.getD 1 Str.empty)]) (fun r => V.str (r.getD 2 Str.empty)) rs
def spGoals : Sp := fun vs H Q _ => ∃ (x : Str) (m l : Addr) (ms : List Str) (as : List Addr) (rs : List (List Str)), vs = [.str x, .ref m, .ref l] ∧ H m = some (.lst (ms.map V.str)) ∧ H l = some (.lst (as.map V.ref)) ∧ Rw H as rs ∧
  x.length ≤ 3 ∧ ms.length ≤ 300 ∧ rs.length ≤ 16000000 ∧ PyData.strOk x = true ∧ (∀ y ∈ ms, PyData.strOk y = true) ∧ (∀ r ∈ rs, ∀ y ∈ r, PyData.strOk y = true) ∧
  (goalsOkL x ms rs = false → ∀ H', Same H H' → Q .non H') ∧ (goalsOkL x ms rs = true → ∀ D H', H D = none → Same H H' → H' D = some (.dT (goalsD rs)) → Q (.ref D) H')
theorem pairs_take {x : Str} {ms : List Str} {i : Nat} {m : Str} (h : ms[i]? = some m) : pairsL x (ms.take (i + 1)) = pairsL x (ms.take i) ++ x.cps.toList.map fun c => [m, sg c] := by
  unfold pairsL
  rw [List.take_add_one, h, List.flatMap_append]
  simp
theorem pairs_len (x : Str) (ms : List Str) : (pairsL x ms).length = ms.length * x.length := by
  unfold pairsL
  induction ms with
  | nil => simp
  | cons m t ih =>
    rw [List.flatMap_cons, List.length_append, ih, List.length_map, Array.length_toList, List.length_cons, Nat.succ_mul]
    show x.length + _ = _
    omega
theorem pairs_ok {x : Str} {ms : List Str} (hx : PyData.strOk x = true) (hm : ∀ y ∈ ms, PyData.strOk y = true) : ∀ r ∈ pairsL x ms, ∀ y ∈ r, PyData.strOk y = true := by
  intro r hr y hy
  unfold pairsL at hr
  obtain ⟨m, h1, h2⟩ := List.mem_flatMap.mp hr
  obtain ⟨c, h3, rfl⟩ := List.mem_map.mp h2
  simp at hy
  rcases hy with rfl | rfl
  · exact hm _ h1
  · unfold PyData.strOk at hx ⊢
    rw [Array.all_eq_true_iff_forall_mem] at hx
    have := hx c (by simpa using h3)
    simpa using this
def rLenK (K : PySem.W.Frag) : List V → Hp → VK → Prop := fun xs H Q => ∃ p ys, xs = [.ref p] ∧ (SqL K H p ys ∨ SqT K H p ys) ∧ Q (.int ys.length) H
section
variable {P : Program} {w : World} {K : PySem.W.Frag} {mg : Str → Option Value} {base : Heap}
abbrev nGoals : List Str := ["signs", "moods", "rows", "known", "mood", "row", "sign", "goal"]
theorem scGoals : FnScope nGoals ["signs", "moods", "rows"] (defScope sGoals) := ⟨rfl, rfl, rfl, by decide +kernel, rfl, by decide +kernel, by decide +kernel⟩
theorem walk_listL {K : PySem.W.Frag} {a : Addr} {α : Type} (xs : List α) (f : α → V) : Walk (Itl K a) xs.length (fun H => SqL K H a (xs.map f)) (YAt (xs.map f)) := by
  have := walk_list (K := K) (a := a) (xs := xs.map f)
  rw [List.length_map] at this
  exact this
theorem ok_goals {f : Addr} {fd : FuncData} (F : Fun K "read_goals" "read_goals" sGoals f fd) (hL : mg "len" = none) (hA : mg "all" = none) : FnOk P w K mg base CX0 1 f fd ["signs", "moods", "rows"] spGoals := by
  refine F.ok scGoals (fun vs H Q E h => ?_) (fun cdv A outer s H vs Q E hr h => ?_)
  · obtain ⟨x, m, l, ms, as, rs, rfl, _⟩ := h
    rfl
  · obtain ⟨x, m, l, ms, as, rs, rfl, hm, hl, hR, z1, z2, z3, o1, o2, o3, kN, kY⟩ := h
    refine ⟨_, pss_cons (ps_set (i := 3) scGoals.nd rfl (Or.inr rfl) (pe_dc (own := [("mood", 4)]) (g := gName 4) (tt := tYes) rfl scGoals.nd (pi_list (pv 1))
          (blkOk_by (N := nGoals) (sc := defScope sGoals) (by decide +kernel)) (fun _ _ _ _ _ => pg_name (i := 4) scGoals.nd rfl (Or.inl rfl)) (fun _ _ _ _ _ => pts_nil) (fun _ _ _ _ _ => pv 4) (fun _ _ _ _ _ => pe_bl)))
      (pss_cons (ps_if (pt_cmpR (op_neD hr.units) (pe_lc (own := [("row", 5)]) (g := gName 5) (tt := tYes) rfl scGoals.nd (pi_list (pv 2))
            (blkOk_by (N := nGoals) (sc := defScope sGoals) (by decide +kernel)) (fun _ _ _ _ _ => pg_name (i := 5) scGoals.nd rfl (Or.inl rfl)) (fun _ _ _ _ _ => pts_nil) (te := tSl (rSlL K) (tVar 5) tNoPart (tPart (tC (.int 2)))) (fun _ _ _ _ _ => pe_slice sl_list (pv 5) po_none (po_some pe_int)))
          (pe_lc2 (own := [("mood", 4), ("sign", 6)]) (vs1 := [6]) (g := gName 4) (tt := tYes) (g1 := gName 6) (tt1 := tYes) rfl scGoals.nd (pi_list (pv 1)) (blkOk_by (N := nGoals) (sc := defScope sGoals) (by decide +kernel)) (by decide)
            (fun _ _ _ _ _ => pg_name (i := 4) scGoals.nd rfl (Or.inl rfl)) (fun _ _ _ _ _ => pts_nil) (fun _ _ _ _ _ => pi_str (pv 0)) (fun _ _ _ _ _ => pg_name (i := 6) scGoals.nd rfl (Or.inl rfl)) (fun _ _ _ _ _ => pts_nil) (fun _ _ _ _ _ => pe_lst (pa_cons (pv 4) (pa_cons (pv 6) pa_nil)))) (nomark _))
        (pss_one (ps_ret pe_non)) pss_nil)
      (pss_cons (ps_if (pt_not (pt_val (pe_callB (cr_all rfl) (by rfl) hA (by decide +kernel) (pa_cons (pe_lc (own := [("row", 5)]) (g := gName 5) (tt := tYes) rfl scGoals.nd (pi_list (pv 2))
            (blkOk_by (N := nGoals) (sc := defScope sGoals) (by decide +kernel)) (fun _ _ _ _ _ => pg_name (i := 5) scGoals.nd rfl (Or.inl rfl)) (fun _ _ _ _ _ => pts_nil)
            (te := tAndV (tOp rEq (tCB (rLenK K) (tCons (tVar 5) tNil)) (tC (.int 3))) (tDIn (tOp (rIxL K) (tVar 5) (tC (.int 2))) (tVar 3))) (fun _ _ _ _ _ => pe_and (pe_cmpR op_eq (pe_callB call_len_seq (by rfl) hL PySem.boot_len (pa_cons (pv 5) pa_nil)) pe_int (nomark _)) (pe_one (pe_cmp (pc_din (hu_of hr) (pe_ix ix_list (pv 5) pe_int (fun _ _ => rfl)) (pv 3)) rfl)))) pa_nil))))
        (pss_one (ps_ret pe_non)) pss_nil)
      (pss_one (ps_ret (pe_dcT (own := [("mood", 4), ("sign", 6), ("goal", 7)]) (g := gUnl K 3 (gCons (gName 4) (gCons (gName 6) (gCons (gName 7) gNil)))) (tt := tYes) hr.units rfl scGoals.nd (pi_list (pv 2)) (blkOk_by (N := nGoals) (sc := defScope sGoals) (by decide +kernel))
            (fun _ _ _ _ _ => pg_unl (n := 3) rfl (pgs_cons (pg_name (i := 4) scGoals.nd rfl (Or.inl rfl)) (pgs_cons (pg_name (i := 6) scGoals.nd rfl (Or.inl rfl)) (pgs_cons (pg_name (i := 7) scGoals.nd rfl (Or.inl rfl)) pgs_nil))))
            (fun _ _ _ _ _ => pts_nil) (fun _ _ _ _ _ => pe_tup (pa_cons (pv 4) (pa_cons (pv 6) pa_nil))) (fun _ _ _ _ _ => pv 7)))))), ?_⟩
    refine ⟨_, rfl, m, rfl, ⟨_, SqL.of hm⟩, fun D0 hD0 => ?_⟩
    refine dcG ms (fun x => (Sum.inr x : Key)) (fun _ => V.bl true) (walk_listL ms V.str) (by omega) hD0 (yat_same _) (fun H' s => SqL.of (s _ _ hm)) (fun i x y H' H'' k1 k0 hx s1 hy k2 => ?_) (fun H1 s1 e1 => ?_)
    · obtain ⟨rfl, hy⟩ := hy
      obtain rfl := map_get hx hy
      exact ⟨rfl, _, rfl, k2 _ (Same.refl _)⟩
    have hl1 := s1 _ _ hl
    have hR1 := hR.same s1
    -- the beginnings of the rows
    refine ⟨_, rfl, l, rfl, ⟨_, SqL.of hl1⟩, fun D1 hD1 => ?_⟩
    refine lc_it (walk_listL as V.ref) (fun i H' => Pr H1 D1 H' ((rs.map (List.take 2)).take i)) (Pr.zero hD1) (fun i H' _ h => SqL.of (h.keeps _ _ hl1)) (fun i y H' H'' hi h hy => ?_) (fun H2 h2 => ?_)
    · obtain ⟨rfl, hy⟩ := hy
      have ha : as[i]? = some as[i] := List.getElem?_eq_getElem hi
      obtain rfl := map_get ha hy
      have hi' : i < rs.length := by rw [← hR.len]; exact hi
      have hr' : rs[i]? = some rs[i] := List.getElem?_eq_getElem hi'
      have et : (rs.map (List.take 2)).take (i + 1) = (rs.map (List.take 2)).take i ++ [rs[i].take 2] := by
        rw [List.take_add_one, List.getElem?_map, hr']
        rfl
      refine ⟨rfl, _, rfl, 2, rfl, as[i], _, rfl, SqL.of (h.keeps _ _ (hR1.get ha hr')), fun p hp => ?_⟩
      rw [et, show (2 : Int) = ((2 : Nat) : Int) from rfl, cut_to _ 2 (by decide)]
      exact h.push hD1 hp (by rw [List.length_take, List.length_map]; omega)
    have s2 := h2.keeps
    have hm2 := s2 _ _ (s1 _ _ hm)
    -- what they must be
    refine ⟨_, rfl, m, rfl, ⟨_, SqL.of hm2⟩, fun D2 hD2 => ?_⟩
    refine dc_it (walk_listL ms V.str) (nx := fun i H' => Pr H2 D2 H' (pairsL x (ms.take i))) (Pr.zero hD2) (fun i H' _ h => SqL.of (h.keeps _ _ hm2)) (fun i y H' H'' hi h hy => ?_) (fun H3 h3 => ?_)
    · obtain ⟨rfl, hy⟩ := hy
      have ha : ms[i]? = some ms[i] := List.getElem?_eq_getElem hi
      obtain rfl := map_get ha hy
      refine ⟨rfl, _, rfl, x, rfl, ?_⟩
      refine dc_it walk_str (nx := fun j H' => Pr H2 D2 H' (pairsL x (ms.take i) ++ (x.cps.toList.take j).map fun c => [ms[i], sg c])) (by rw [List.take_zero, List.map_nil, List.append_nil]; exact h) (fun _ _ _ _ => trivial) (fun j y H4 H5 hj h4 hy => ?_) (fun H4 h4 => ?_)
      · obtain ⟨rfl, c, hc, rfl⟩ := hy
        have et : (x.cps.toList.take (j + 1)).map (fun c => [ms[i], sg c]) = (x.cps.toList.take j).map (fun c => [ms[i], sg c]) ++ [[ms[i], sg c]] := by
          rw [List.take_add_one, Array.getElem?_toList, hc, List.map_append]
          rfl
        refine ⟨rfl, _, rfl, _, rfl, (by show 2 ≤ sizeLine; decide), fun p hp => ?_⟩
        rw [et, ← List.append_assoc]
        refine h4.push (r := [ms[i], sg c]) hD2 hp ?_
        have a1 : (pairsL x (ms.take i)).length ≤ 900 := by
          rw [pairs_len, List.length_take]
          exact Nat.le_trans (Nat.mul_le_mul (by omega : min i ms.length ≤ 300) z1) (by decide)
        have a2 : ((x.cps.toList.take j).map fun c => [ms[i], sg c]).length ≤ j := by
          rw [List.length_map, List.length_take]
          omega
        have z5 : x.cps.size ≤ 3 := z1
        rw [List.length_append]
        omega
      · show Pr H2 D2 H4 _
        rw [pairs_take ha]
        have : x.cps.toList.take x.cps.size = x.cps.toList := by rw [← Array.length_toList, List.take_length]
        rw [this] at h4
        exact h4
    rw [List.take_length] at h3
    have h2' := h2
    rw [hR.len, ← List.length_map (f := List.take 2), List.take_length] at h2'
    obtain ⟨bs, sb, eb, rb⟩ := (h2'.same h3.keeps).rw_
    obtain ⟨cs, sc, ec, rc⟩ := h3.rw_
    have s3 := (s1.trans s2).trans h3.keeps
    refine ⟨dTab (rs.map (List.take 2)), dTab (pairsL x ms), dp_dTab eb rb, dp_dTab ec rc, shaped_dTab (fun r hr y hy => ?_), shaped_dTab (pairs_ok o1 o2), _, rfl, ?_⟩
    · obtain ⟨r', h1, rfl⟩ := List.mem_map.mp hr
      exact o3 r' h1 y (List.mem_of_mem_take hy)
    rw [eqv_dTab]
    refine ite2 (fun c => ?_) (fun c => ?_)
    · refine kN ?_ _ s3
      unfold goalsOkL
      have : decide (rs.map (List.take 2) = pairsL x ms) = false := by simpa using c
      rw [this]
      rfl
    have ep : rs.map (List.take 2) = pairsL x ms := by simpa using c
    have hl3 := s3 _ _ hl
    have hR3 := hR.same s3
    have e3 := h3.keeps _ _ (s2 _ _ e1)
    refine ⟨_, rfl, l, rfl, ⟨_, SqL.of hl3⟩, fun D3 hD3 => ?_⟩
    refine lcG (as.zip rs) (fun ar => some (.bl (rowOkL ms ar.2))) (by rw [List.length_zip, ← hR.len, Nat.min_self]; exact walk_listL as V.ref) (by rw [List.length_zip]; omega) hD3 (yat_same _) (fun H' s => SqL.of (s _ _ hl3)) (fun i ar y H' H'' k1 hz sz hy k2 => ?_) (fun H4 s4 e4 => ?_)
    · obtain ⟨rfl, hy⟩ := hy
      rw [List.getElem?_zip_eq_some] at hz
      obtain rfl := map_get hz.1 hy
      have hrow := sz _ _ (hR3.get hz.1 hz.2)
      have kk := k2 _ (Same.refl _)
      refine ⟨rfl, _, rfl, ar.1, _, rfl, .inl (SqL.of hrow), rfl, _, rfl, ?_⟩
      rw [List.length_map, dec_int]
      have ed : ((ar.2.length : Int) == 3) = decide (ar.2.length = 3) := by
        by_cases hc : ar.2.length = 3
        · rw [hc]; rfl
        · rw [decide_eq_false hc]
          simp
          omega
      rw [ed]
      unfold rowOkL at kk
      refine ite2 (fun c3 => ?_) (fun c3 => ?_)
      · have h3' := of_decide_eq_true c3
        have hg : ar.2[2]? = some (ar.2.getD 2 Str.empty) := by
          rw [List.getD_eq_getElem?_getD, List.getElem?_eq_getElem (by omega)]
          rfl
        refine ⟨_, rfl, ar.1, _, _, V.str (ar.2.getD 2 Str.empty), rfl, rfl, SqL.of hrow, atI_nat (j := 2) (by rw [List.getElem?_map, hg]; rfl), _, rfl, D0, _, rfl, DGet.k (k := Sum.inr (ar.2.getD 2 Str.empty)) (sz _ _ e3), ?_⟩
        rw [dTrue_val]
        rw [c3, Bool.true_and] at kk
        exact kk
      · rw [Bool.eq_false_iff.mpr c3, Bool.false_and] at kk
        exact kk
    have ez : (as.zip rs).filterMap (fun ar => some (V.bl (rowOkL ms ar.2))) = (rs.map (rowOkL ms)).map V.bl := by
      rw [List.filterMap_eq_map', List.map_map]
      have : (as.zip rs).map Prod.snd = rs := List.map_snd_zip (by rw [hR.len]; exact Nat.le_refl _)
      conv => rhs; rw [← this, List.map_map]
      rfl
    rw [ez] at e4
    refine ⟨D3, _, rfl, SqL.of e4, _, rfl, ?_⟩
    have ea : (rs.map (rowOkL ms)).all id = rs.all (rowOkL ms) := by rw [List.all_map]; rfl
    rw [ea]
    have eg : goalsOkL x ms rs = rs.all (rowOkL ms) := by
      unfold goalsOkL
      rw [decide_eq_true ep, Bool.true_and]
    refine ite2 (fun c4 => ?_) (fun c4 => ?_)
    · refine kN ?_ _ (s3.trans s4)
      rw [eg]
      simpa using c4
    have c5 : rs.all (rowOkL ms) = true := by simpa using c4
    have hl4 := s4 _ _ hl3
    have hR4 := hR3.same s4
    refine ⟨_, rfl, l, rfl, ⟨_, SqL.of hl4⟩, fun D4 hD4 => ?_⟩
    refine dcGT (as.zip rs) (fun ar => [Sum.inr (ar.2.getD 0 Str.empty), Sum.inr (ar.2.getD 1 Str.empty)]) (fun ar => V.str (ar.2.getD 2 Str.empty)) (by rw [List.length_zip, ← hR.len, Nat.min_self]; exact walk_listL as V.ref) (by rw [List.length_zip]; omega) hD4 (yat_same _) (fun H' s => SqL.of (s _ _ hl4)) (fun i ar y H' H'' k1 k0 hz sz hy k2 => ?_) (fun H5 s5 e5 => ?_)
    · obtain ⟨rfl, hy⟩ := hy
      rw [List.getElem?_zip_eq_some] at hz
      obtain rfl := map_get hz.1 hy
      have hrow := sz _ _ (hR4.get hz.1 hz.2)
      have ok := List.all_eq_true.mp c5 ar.2 (List.mem_of_getElem? hz.2)
      unfold rowOkL at ok
      have h3' : ar.2.length = 3 := by simpa using (Bool.and_eq_true_iff.mp ok).1
      obtain ⟨u, v, z, huv⟩ : ∃ u v z, ar.2 = [u, v, z] := by
        match ar.2, h3' with
        | [u, v, z], _ => exact ⟨u, v, z, rfl⟩
      rw [huv] at hrow k2
      refine ⟨ar.1, _, rfl, SqL.of hrow, rfl, _, _, rfl, _, _, rfl, _, _, rfl, rfl, rfl, _, rfl, _, rfl, (by show 2 ≤ sizeLine; decide), fun t ht => ⟨_, rfl, k2 t _ (same_new ht) upd_same⟩⟩
    · refine kY (by rw [eg]; exact c5) D4 H5 ((s3.trans s4).free hD4) ((s3.trans s4).trans s5) ?_
      rw [e5]
      congr 2
      unfold goalsD dOf
      have : (as.zip rs).map Prod.snd = rs := List.map_snd_zip (by rw [hR.len]; exact Nat.le_refl _)
      conv => rhs; rw [← this, List.foldl_map]
end
end My
namespace My
open PySem PySem.Spec PyProof.Rows L2 PySem.GX
theorem cps_app (a b : Str) : (a ++ b).cps.toList = a.cps.toList ++ b.cps.toList := by
  show (a.cps ++ b.cps).toList = _
  exact Array.toList_append
theorem join_mem (y : Str) : ∀ (parts : List Str) (p : Str), p ∈ parts → ∀ c ∈ p.cps.toList, c ∈ (Str.join y parts).cps.toList
  | [], _, h, _, _ => by simp at h
  | [x], p, h, c, hc => by
    simp at h; subst h
    exact hc
  | x :: z :: r, p, h, c, hc => by
    show c ∈ (x ++ y ++ Str.join y (z :: r)).cps.toList
    rw [cps_app, cps_app]
    simp only [List.mem_append]
    rcases List.mem_cons.mp h with rfl | h
    · exact .inl (.inl hc)
    · exact .inr (join_mem y (z :: r) p h c hc)
theorem ok_of_mem {x p : Str} (h : ∀ c ∈ p.cps.toList, c ∈ x.cps.toList) (ho : PyData.strOk x = true) : PyData.strOk p = true := by
  unfold PyData.strOk at ho ⊢
  rw [Array.all_eq_true_iff_forall_mem] at ho ⊢
  intro c hc
  exact ho c (by simpa using h c (by simpa using hc))
theorem split_ok {x y p : Str} (h : p ∈ Txt.split x y) (ho : PyData.strOk x = true) : PyData.strOk p = true := by
  refine ok_of_mem (fun c hc => ?_) ho
  have := join_mem y _ p h c hc
  rw [StrLaws.join_split] at this
  exact this
theorem mem_le_sum : ∀ {l : List Nat} {a : Nat}, a ∈ l → a ≤ l.sum
  | b :: t, a, h => by
    rw [List.sum_cons]
    rcases List.mem_cons.mp h with rfl | h
    · omega
    · have := mem_le_sum h
      omega
theorem split_small {x p : Str} {c : Nat} (h : p ∈ Txt.split x (sg c)) : p.length ≤ x.length := by
  have := split_weight x (sg c) (Nat.le_refl 1)
  have h1 := mem_le_sum (List.mem_map.mpr ⟨p, h, rfl⟩ : p.length ∈ (Txt.split x (sg c)).map (·.length))
  have h2 : 0 < (Txt.split x (sg c)).length := List.length_pos_of_mem h
  omega
theorem split_few (x : Str) (c : Nat) : (Txt.split x (sg c)).length ≤ x.length + 1 := by
  have := split_weight x (sg c) (Nat.le_refl 1)
  omega
theorem split_ne (x : Str) (c : Nat) : Txt.split x (sg c) ≠ [] := fun e => by
  have := split_len x c
  rw [e] at this
  simp at this
  have h : ∀ l : List Nat, 0 ≤ cnt c l := by
    intro l
    induction l with
    | nil => exact Int.le_refl 0
    | cons n t ih =>
      rw [cnt_cons]
      split <;> omega
  have := h x.cps.toList
  omega
end My
namespace My
open PySem PySem.Spec PyProof.Rows L2 PySem.GX
abbrev nl : Str := sg 10
abbrev sp : Str := sg 32
def rowsL (t : Str) : List (List Str) := (Txt.split t nl).map fun y => Txt.split y sp
abbrev titles : List Str := ["signs", "moods", "good"]
structure Parts where
  sg : Str
  ms : List Str
  gs : List Str
  rs : List (List Str)
/-- what a text writes, from its rows of words -/
def partsL : List (List Str) → Option Parts
  | (t0 :: s0) :: (t1 :: m0) :: (t2 :: g0) :: rs =>
    if [t0, t1, t2] = titles ∧ areSignsL s0 = true ∧ areMoodsL m0 = true ∧ areGoodL g0 m0 = true ∧ goalsOkL (s0.getD 0 Str.empty) m0 rs = true then some ⟨s0.getD 0 Str.empty, m0, g0, rs⟩ else none
  | _ => none
def parseL (t : Str) : Option Parts := partsL (rowsL t)
/-- the parts stand as the tuple T -/
def PartsAt (H : Hp) (T : Addr) (p : Parts) : Prop := ∃ M G D, H T = some (.tup [.str p.sg, .ref M, .ref G, .ref D]) ∧ H M = some (.tup (p.ms.map V.str)) ∧ H G = some (.tup (p.gs.map V.str)) ∧ H D = some (.dT (goalsD p.rs))
def spRead : Sp := fun vs H Q _ => ∃ t : Str, vs = [.str t] ∧ t.length ≤ 1000000 ∧ PyData.strOk t = true ∧ (parseL t = none → ∀ H', Same H H' → Q .non H') ∧ ∀ p, parseL t = some p → ∀ T H', Same H H' → PartsAt H' T p → Q (.ref T) H'
theorem rows_ne {t : Str} : ∀ r ∈ rowsL t, r ≠ [] := fun r hr => by
  obtain ⟨y, _, rfl⟩ := List.mem_map.mp hr
  exact split_ne y 32
theorem rows_ok {t : Str} (ht : PyData.strOk t = true) : ∀ r ∈ rowsL t, ∀ y ∈ r, PyData.strOk y = true := fun r hr y hy => by
  obtain ⟨z, hz, rfl⟩ := List.mem_map.mp hr
  exact split_ok hy (split_ok hz ht)
theorem rows_small {t : Str} : ∀ r ∈ rowsL t, r.length ≤ t.length + 1 ∧ ∀ y ∈ r, y.length ≤ t.length := fun r hr => by
  obtain ⟨z, hz, rfl⟩ := List.mem_map.mp hr
  have h1 := split_small hz
  have h2 : (Txt.split z sp).length ≤ z.length + 1 := split_few z 32
  exact ⟨by omega, fun y hy => Nat.le_trans (split_small hy) h1⟩
theorem rows_few (t : Str) : (rowsL t).length ≤ t.length + 1 := by
  unfold rowsL
  rw [List.length_map]
  exact split_few t 10
theorem heads_is {rs : List (List Str)} (hne : ∀ r ∈ rs, r ≠ []) (h : (rs.take 3).map (fun r => r.headD Str.empty) = titles) : ∃ s0 m0 g0 rest, rs = (("signs" : Str) :: s0) :: (("moods" : Str) :: m0) :: (("good" : Str) :: g0) :: rest := by
  match rs, hne, h with
  | [], _, h => cases h
  | [_], _, h => simp at h
  | [_, _], _, h => simp at h
  | a :: b :: c :: rest, hne, h =>
    have na := hne a (by simp)
    have nb := hne b (by simp)
    have nc := hne c (by simp)
    obtain ⟨x, xs, rfl⟩ := List.exists_cons_of_ne_nil na
    obtain ⟨y, ys, rfl⟩ := List.exists_cons_of_ne_nil nb
    obtain ⟨z, zs, rfl⟩ := List.exists_cons_of_ne_nil nc
    have h' : [x, y, z] = titles := h
    injection h' with e1 h'
    injection h' with e2 h'
    injection h' with e3 h'
    subst e1 e2 e3
    exact ⟨xs, ys, zs, rest, rfl⟩
theorem parts_none {rs : List (List Str)} (h : ¬ (rs.take 3).map (fun r => r.headD Str.empty) = titles) : partsL rs = none := by
  unfold partsL
  split
  · rename_i t0 s0 t1 m0 t2 g0 rs'
    rw [if_neg]
    intro z
    exact h z.1
  · rfl
theorem parts_is (s0 m0 g0 : List Str) (rest : List (List Str)) : partsL ((("signs" : Str) :: s0) :: (("moods" : Str) :: m0) :: (("good" : Str) :: g0) :: rest) =
    if areSignsL s0 = true ∧ areMoodsL m0 = true ∧ areGoodL g0 m0 = true ∧ goalsOkL (s0.getD 0 Str.empty) m0 rest = true then some ⟨s0.getD 0 Str.empty, m0, g0, rest⟩ else none := by
  unfold partsL
  simp only [true_and]
theorem signs_one {s0 : List Str} (h : areSignsL s0 = true) : ∃ x, s0 = [x] ∧ x.length ≤ 3 := by
  match s0, h with
  | [x], h =>
    rw [areS1] at h
    simp only [Bool.and_eq_true] at h
    exact ⟨x, rfl, of_decide_eq_true h.1.1.2⟩
theorem moods_few {m0 : List Str} (h : areMoodsL m0 = true) : m0.length ≤ 300 := by
  unfold areMoodsL at h
  simp only [Bool.and_eq_true] at h
  exact of_decide_eq_true h.1.1.2
section
variable {P : Program} {w : World} {K : PySem.W.Frag} {mg : Str → Option Value} {base : Heap}
abbrev nRead : List Str := ["text", "rows", "signs", "moods", "good", "goals", "line", "row"]
theorem scRead : FnScope nRead ["text"] (defScope sRead) := ⟨rfl, rfl, rfl, by decide +kernel, rfl, by decide +kernel, by decide +kernel⟩
theorem ok_read {f tT : Addr} {fd : FuncData} (F : Fun K "read_rule" "read_rule" sRead f fd) (h1 : Hv P w K mg base 2 "are_signs" ["words"] (spSigns K)) (h2 : Hv P w K mg base 3 "are_moods" ["words"] (spMoods K)) (h3 : Hv P w K mg base 1 "are_good" ["words", "moods"] (spGood K))
    (h4 : Hv P w K mg base 1 "read_goals" ["signs", "moods", "rows"] spGoals) (gT : mg "TITLES" = some (.ref tT)) (kT : ∀ H, SqT K H tT (titles.map V.str)) (hLi : mg "list" = none) (hTu : mg "tuple" = none) : FnOk P w K mg base CX0 4 f fd ["text"] spRead := by
  refine F.ok scRead (fun vs H Q E h => ?_) (fun cdv A outer s H vs Q E hr h => ?_)
  · obtain ⟨t, rfl, _⟩ := h
    rfl
  · obtain ⟨t, rfl, zt, ot, kN, kY⟩ := h
    refine ⟨_, pss_cons (ps_setLc (i := 1) (own := [("line", 6)]) (g := gName 6) (tt := tYes) rfl scRead.nd rfl rfl (sw_true rfl rfl rfl (by decide +kernel)) (pi_list (pe_split (pv 0) pe_str))
          (blkOk_by (N := nRead) (sc := defScope sRead) (by decide +kernel)) (fun _ _ _ _ _ => pg_name (i := 6) scRead.nd rfl (Or.inl rfl)) (fun _ _ _ _ _ => pts_nil) (fun _ _ _ _ _ => pe_split (pv 6) pe_str))
      (pss_cons (ps_if (pt_cmpR (op_neD hr.units) (pe_lc (own := [("row", 7)]) (g := gName 7) (tt := tYes) rfl scRead.nd (pi_list (pe_slice sl_list (pv 1) po_none (po_some pe_int)))
            (blkOk_by (N := nRead) (sc := defScope sRead) (by decide +kernel)) (fun _ _ _ _ _ => pg_name (i := 7) scRead.nd rfl (Or.inl rfl)) (fun _ _ _ _ _ => pts_nil) (te := tOp (rIxL K) (tVar 7) (tC (.int 0))) (fun _ _ _ _ _ => pe_ix ix_list (pv 7) pe_int (fun _ _ => rfl)))
          (pe_callTy call_list_of (by rfl) hLi (by decide +kernel) (pa_cons (pe_glob (v := .ref tT) rfl gT rfl) pa_nil)) (nomark _))
        (pss_one (ps_ret pe_non)) pss_nil)
      (pss_cons (ps_asg (pe_lc (own := [("row", 7)]) (g := gName 7) (tt := tYes) rfl scRead.nd (pi_list (pe_slice sl_list (pv 1) po_none (po_some pe_int)))
            (blkOk_by (N := nRead) (sc := defScope sRead) (by decide +kernel)) (fun _ _ _ _ _ => pg_name (i := 7) scRead.nd rfl (Or.inl rfl)) (fun _ _ _ _ _ => pts_nil) (te := tSl (rSlL K) (tVar 7) (tPart (tC (.int 1))) tNoPart) (fun _ _ _ _ _ => pe_slice sl_list (pv 7) (po_some pe_int) po_none))
          (pg_unl (n := 3) rfl (pgs_cons (pg_name (i := 2) scRead.nd rfl (Or.inl rfl)) (pgs_cons (pg_name (i := 3) scRead.nd rfl (Or.inl rfl)) (pgs_cons (pg_name (i := 4) scRead.nd rfl (Or.inl rfl)) pgs_nil)))))
      (pss_cons (ps_if (pt_not (PW.pt (pw_and (pt_val (pe_cl h1 (hr.mono (by decide)) rfl pass0 (pa_cons (pv 2) pa_nil))) (pw_and (pt_val (pe_cl h2 hr rfl pass0 (pa_cons (pv 3) pa_nil))) (pw_and1 (pt_val (pe_cl h3 (hr.mono (by decide)) rfl pass0 (pa_cons (pv 4) (pa_cons (pv 3) pa_nil)))))))))
        (pss_one (ps_ret pe_non)) pss_nil)
      (pss_cons (ps_set (i := 5) scRead.nd rfl (Or.inl rfl) (pe_cl h4 (hr.mono (by decide)) rfl pass0 (pa_cons (pe_ix ix_list (pv 2) pe_int (fun _ _ => rfl)) (pa_cons (pv 3) (pa_cons (pe_slice sl_list (pv 1) (po_some pe_int) po_none) pa_nil)))))
      (pss_cons (ps_if (pt_cmpR op_isN (pv 5) pe_non (nomark _)) (pss_one (ps_ret pe_non)) pss_nil)
      (pss_one (ps_ret (pe_tup (pa_cons (pe_ix ix_list (pv 2) pe_int (fun _ _ => rfl)) (pa_cons (pe_callTy call_tuple_of (by rfl) hTu (by decide +kernel) (pa_cons (pv 3) pa_nil)) (pa_cons (pe_callTy call_tuple_of (by rfl) hTu (by decide +kernel) (pa_cons (pv 4) pa_nil)) (pa_cons (pv 5) pa_nil)))))))))))), ?_⟩
    have enl : (Str.ofString "\n") = nl := by decide +kernel
    have esp : (Str.ofString " ") = sp := by decide +kernel
    have z0 : t.length + 2 ≤ sizeLine := by rw [sizeLine_eq]; omega
    refine ⟨_, rfl, ⟨_, rfl⟩, t, _, rfl, rfl, rfl, z0, fun p0 hp0 => ⟨p0, rfl, ⟨_, SqL.of upd_same⟩, fun D0 hD0 => ?_⟩⟩
    rw [enl] at hD0 ⊢
    have hl0 : upd H p0 (.lst ((Txt.split t nl).map V.str)) p0 = some (.lst ((Txt.split t nl).map V.str)) := upd_same
    generalize eH0 : upd H p0 (.lst ((Txt.split t nl).map V.str)) = H0 at hD0 hl0 ⊢
    have s0 : Same H H0 := by rw [← eH0]; exact same_new hp0
    refine lc_it (walk_listL (Txt.split t nl) V.str) (fun i H' => Pr H0 D0 H' ((rowsL t).take i)) (Pr.zero hD0) (fun i H' _ h => SqL.of (h.keeps _ _ hl0)) (fun i y H' H'' hi h hy => ?_) (fun H1 g1 => ?_)
    · obtain ⟨rfl, hy⟩ := hy
      have ha : (Txt.split t nl)[i]? = some (Txt.split t nl)[i] := List.getElem?_eq_getElem hi
      obtain rfl := map_get ha hy
      have et : (rowsL t).take (i + 1) = (rowsL t).take i ++ [Txt.split (Txt.split t nl)[i] sp] := by
        unfold rowsL
        rw [List.take_add_one, List.getElem?_map, ha]
        rfl
      have zl := split_small (List.getElem_mem hi)
      refine ⟨rfl, _, rfl, ⟨_, rfl⟩, _, _, rfl, rfl, rfl, (by rw [sizeLine_eq]; omega), fun p hp => ?_⟩
      rw [et, esp]
      refine h.push hD0 hp ?_
      have := rows_few t
      rw [List.length_take]
      omega
    have g1' : Pr H0 D0 H1 (rowsL t) := by
      have : (rowsL t).take (Txt.split t nl).length = rowsL t := by
        have e : (Txt.split t nl).length = (rowsL t).length := by unfold rowsL; rw [List.length_map]
        rw [e, List.take_length]
      rw [this] at g1
      exact g1
    obtain ⟨as, s1', eD0, rw0⟩ := g1'.rw_
    have s1 := s0.trans s1'
    have nes := rows_ne (t := t)
    have oks := rows_ok (t := t) ot
    have sms := rows_small (t := t)
    have few := rows_few t
    generalize eR : rowsL t = rs at rw0 nes oks sms few
    have ep : parseL t = partsL rs := by rw [← eR]; rfl
    rw [ep] at kN kY
    clear g1 g1' ep eR
    have len := rw0.len
    -- the titles
    have ecut : cutV (as.map V.ref) none (some 3) = (as.take 3).map V.ref := by
      rw [show (3 : Int) = ((3 : Nat) : Int) from rfl, cut_toV _ 3 (by decide), List.map_take]
    refine ⟨_, rfl, 3, rfl, D0, _, rfl, SqL.of eD0, fun p3 hp3 => ⟨p3, rfl, ⟨_, SqL.of upd_same⟩, fun D1 hD1 => ?_⟩⟩
    rw [ecut] at hD1 ⊢
    have hl3 : upd H1 p3 (.lst ((as.take 3).map V.ref)) p3 = some (.lst ((as.take 3).map V.ref)) := upd_same
    generalize eH2 : upd H1 p3 (.lst ((as.take 3).map V.ref)) = H2 at hD1 hl3 ⊢
    have s2' : Same H1 H2 := by rw [← eH2]; exact same_new hp3
    have rw3 := (rw0.take 3).same s2'
    refine lcG ((as.take 3).zip (rs.take 3)) (fun ar => some (.str (ar.2.headD Str.empty))) (by rw [List.length_zip, ← rw3.len, Nat.min_self]; exact walk_listL (as.take 3) V.ref) (by rw [List.length_zip, List.length_take]; omega) hD1 (yat_same _) (fun H' s => SqL.of (s _ _ hl3)) (fun i ar y H' H'' k1 hz sz hy k2 => ?_) (fun H3 s3 e3 => ?_)
    · obtain ⟨rfl, hy⟩ := hy
      rw [List.getElem?_zip_eq_some] at hz
      obtain rfl := map_get hz.1 hy
      have hrow := sz _ _ (rw3.get hz.1 hz.2)
      have nr := nes ar.2 (List.mem_of_mem_take (List.mem_of_getElem? hz.2))
      obtain ⟨u, us, e⟩ := List.exists_cons_of_ne_nil nr
      rw [e] at hrow k2
      exact ⟨rfl, _, rfl, ar.1, _, _, _, rfl, rfl, SqL.of hrow, atI_nat (j := 0) rfl, k2 _ (Same.refl _)⟩
    have ez : ((as.take 3).zip (rs.take 3)).filterMap (fun ar => some (V.str (ar.2.headD Str.empty))) = ((rs.take 3).map (fun r => r.headD Str.empty)).map V.str := by
      rw [List.filterMap_eq_map', List.map_map]
      have : ((as.take 3).zip (rs.take 3)).map Prod.snd = rs.take 3 := List.map_snd_zip (by rw [rw3.len]; exact Nat.le_refl _)
      conv => rhs; rw [← this, List.map_map]
      rfl
    rw [ez] at e3
    refine ⟨tT, _, rfl, .inr (kT _), fun l4 hl4 => ?_⟩
    have s4 := ((s1.trans s2').trans s3).trans (same_new (o := .lst (titles.map V.str)) hl4)
    refine ⟨dTx _, dTx titles, dp_dTx (keep1 e3 hl4), dp_dTx upd_same, shaped_dTx (fun x hx => ?_), (by decide +kernel), _, rfl, ?_⟩
    · obtain ⟨r, h1, rfl⟩ := List.mem_map.mp hx
      have h2 := List.mem_of_mem_take h1
      obtain ⟨u, us, rfl⟩ := List.exists_cons_of_ne_nil (nes r h2)
      exact oks _ h2 u (by simp)
    rw [eqv_dTx]
    refine ite2 (fun c => kN (parts_none (by simpa using c)) _ s4) (fun c => ?_)
    obtain ⟨s0', m0, g0, rest, rfl⟩ := heads_is nes (by simpa using c)
    rw [parts_is] at kN kY
    generalize eH4 : upd H3 l4 (.lst (titles.map V.str)) = H4 at s4 ⊢
    have s14 : Same H1 H4 := by
      rw [← eH4]
      exact (s2'.trans s3).trans (same_new hl4)
    have eD4 := s14 _ _ eD0
    have rw4 := rw0.same s14
    clear e3 rw3 ez hl3 eH2 hD1 hp3 hl4 eH4 s3 s2' c
    -- the three lists
    refine ⟨_, rfl, 3, rfl, D0, _, rfl, SqL.of eD4, fun p5 hp5 => ⟨p5, rfl, ⟨_, SqL.of upd_same⟩, fun D2 hD2 => ?_⟩⟩
    rw [ecut] at hD2 ⊢
    have hl5 : upd H4 p5 (.lst ((as.take 3).map V.ref)) p5 = some (.lst ((as.take 3).map V.ref)) := upd_same
    generalize eH5 : upd H4 p5 (.lst ((as.take 3).map V.ref)) = H5 at hD2 hl5 ⊢
    have s5' : Same H4 H5 := by rw [← eH5]; exact same_new hp5
    have rw5 := (rw4.take 3).same s5'
    refine lc_it (walk_listL (as.take 3) V.ref) (fun i H' => Pr H5 D2 H' ([s0', m0, g0].take i)) (Pr.zero hD2) (fun i H' _ h => SqL.of (h.keeps _ _ hl5)) (fun i y H' H'' hi h hy => ?_) (fun H6 g6 => ?_)
    · obtain ⟨rfl, hy⟩ := hy
      have ha : (as.take 3)[i]? = some (as.take 3)[i] := List.getElem?_eq_getElem hi
      obtain rfl := map_get ha hy
      have hi3 : i < 3 := by rw [List.length_take] at hi; omega
      have row : ∃ u us, [(("signs" : Str) :: s0'), (("moods" : Str) :: m0), (("good" : Str) :: g0)][i]? = some (u :: us) ∧ [s0', m0, g0][i]? = some us := by
        match i, hi3 with
        | 0, _ => exact ⟨_, _, rfl, rfl⟩
        | 1, _ => exact ⟨_, _, rfl, rfl⟩
        | 2, _ => exact ⟨_, _, rfl, rfl⟩
      obtain ⟨u, us, hu, hus⟩ := row
      refine ⟨rfl, _, rfl, 1, rfl, (as.take 3)[i], _, rfl, SqL.of (h.keeps _ _ (rw5.get ha hu)), fun p hp => ?_⟩
      rw [show (1 : Int) = ((1 : Nat) : Int) from rfl, cut_fromV _ 1 (by decide)]
      have et : [s0', m0, g0].take (i + 1) = [s0', m0, g0].take i ++ [us] := by
        rw [List.take_add_one, hus]
        rfl
      rw [et]
      exact h.push (r := us) hD2 hp (by rw [List.length_take]; simp; omega)
    have g6' : Pr H5 D2 H6 [s0', m0, g0] := by
      have : [s0', m0, g0].take (as.take 3).length = [s0', m0, g0] := by
        rw [List.length_take, len]
        simp
      rw [this] at g6
      exact g6
    obtain ⟨bs, s6', eD6, rw6⟩ := g6'.rw_
    have s6 := (s4.trans s5').trans s6'
    have s16 := (s14.trans s5').trans s6'
    have eR6 := s16 _ _ eD0
    have rr6 := rw0.same s16
    clear g6 g6' rw5 hl5 eH5 hD2 s6' s5' rw4 eD4 hp5
    cases rw6 with
    | cons e1 t1 =>
    cases t1 with
    | cons e2 t2 =>
    cases t2 with
    | cons e3 t3 =>
    cases t3
    rename_i a1 a2 a3
    refine ⟨D2, _, rfl, SqL.of eD6, rfl, _, _, rfl, _, _, rfl, _, _, rfl, rfl, ?_⟩
    have m1 := sms (("signs" : Str) :: s0') (by simp)
    have m2 := sms (("moods" : Str) :: m0) (by simp)
    have m3 := sms (("good" : Str) :: g0) (by simp)
    have o1 := oks (("signs" : Str) :: s0') (by simp)
    have o2 := oks (("moods" : Str) :: m0) (by simp)
    have o3 := oks (("good" : Str) :: g0) (by simp)
    simp only [List.length_cons] at m1 m2 m3
    refine ⟨_, rfl, a1, s0', rfl, e1, fun x hx => Nat.le_trans (m1.2 x (by simp [hx])) (by omega), fun H7 s7 => ⟨_, rfl, ite2 (fun c1 => ?_) (fun c1 => ?_)⟩⟩
    rotate_left
    · exact kN (by rw [if_neg (fun z => c1 z.1)]) _ (s6.trans s7)
    refine ⟨_, rfl, a2, m0, rfl, s7 _ _ e2, fun x hx => Nat.le_trans (m2.2 x (by simp [hx])) (by omega), fun H8 s8 => ⟨_, rfl, ite2 (fun c2 => ?_) (fun c2 => ?_)⟩⟩
    rotate_left
    · exact kN (by rw [if_neg (fun z => c2 z.2.1)]) _ ((s6.trans s7).trans s8)
    have s68 := s7.trans s8
    refine ⟨_, rfl, _, rfl, a3, a2, g0, m0, rfl, s68 _ _ e3, s68 _ _ e2, (by omega), (by omega), fun x hx => o3 x (by simp [hx]), fun x hx => o2 x (by simp [hx]), fun H9 s9 => ⟨_, rfl, ite2 (fun c3 => ?_) (fun c3 => ?_)⟩⟩
    · refine kN ?_ _ ((s6.trans s68).trans s9)
      rw [if_neg]
      intro z
      rw [z.2.2.1] at c3
      cases c3
    have c3' : areGoodL g0 m0 = true := by simpa using c3
    have s69 := s68.trans s9
    obtain ⟨x, rfl, zx⟩ := signs_one c1
    have zm := moods_few c2
    have rest9 := (rr6.same s69).drop 3
    refine ⟨_, rfl, a1, _, _, _, rfl, rfl, SqL.of (s69 _ _ e1), atI_nat (j := 0) rfl, _, rfl, _, rfl, 3, rfl, D0, _, rfl, SqL.of (s69 _ _ eR6), fun p7 hp7 => ?_⟩
    rw [show (3 : Int) = ((3 : Nat) : Int) from rfl, cut_fromV _ 3 (by decide), ← List.map_drop]
    have s10 := s69.trans (same_new (o := .lst ((as.drop 3).map V.ref)) hp7)
    refine ⟨x, a2, p7, m0, as.drop 3, rest, rfl, s10 _ _ e2, upd_same, rest9.same (same_new hp7), zx, zm, ?_, o1 x (by simp), fun y hy => o2 y (by simp [hy]), fun r hr y hy => oks r (by simp [hr]) y hy, fun c4 H10 s11 => ?_, fun c4 D H10 hD s11 eD => ?_⟩
    · simp only [List.length_cons] at few
      omega
    · refine ⟨_, rfl, rfl, _, rfl, iteT (kN ?_ _ ((s6.trans s10).trans s11))⟩
      rw [if_neg]
      intro z
      have := z.2.2.2
      simp only [List.getD_cons_zero] at this
      rw [c4] at this
      cases this
    · refine ⟨_, rfl, rfl, _, rfl, iteF ?_⟩
      have q1 := (s10.trans s11) _ _ e1
      have q2 := (s10.trans s11) _ _ e2
      have q3 := (s10.trans s11) _ _ e3
      refine ⟨_, rfl, a1, _, _, _, rfl, rfl, SqL.of q1, atI_nat (j := 0) rfl, _, rfl, a2, _, rfl, .inl ⟨SqL.of q2, fun M hM => ?_⟩⟩
      refine ⟨_, rfl, a3, _, rfl, .inl ⟨SqL.of (keep1 q3 hM), fun G hG => ?_⟩⟩
      refine ⟨_, rfl, (by show 4 ≤ sizeLine; decide), fun T hT => ?_⟩
      refine kY _ (by rw [if_pos ⟨c1, c2, c3', c4⟩]) T _ (((((s6.trans s10).trans s11).trans (same_new hM)).trans (same_new hG)).trans (same_new hT)) ⟨M, G, D, upd_same, keep1 (keep1 upd_same hG) hT, keep1 upd_same hT, keep1 (keep1 (keep1 eD hM) hG) hT⟩
end
end My
namespace My
open PySem PySem.Spec PyProof.Rows L2
abbrev kT (t : Str) (c : Nat) : List Key := [Sum.inr t, Sum.inr (sg c)]
def gf (kvs : List (List Key × V)) (t : Str) (c : Nat) : Str := match valV kvs (kT t c) with
  | some (.str y) => y
  | _ => Str.empty
theorem gf_is {kvs : List (List Key × V)} {t : Str} {c : Nat} {y : Str} (h : valV kvs (kT t c) = some (.str y)) : gf kvs t c = y := by
  unfold gf
  rw [h]
theorem len_app (a b : Str) : (a ++ b).length = a.length + b.length := Str.length_append a b
end My
namespace My
open PySem PySem.Spec PyProof.Rows L2
/-- the fields of a rule -/
abbrev rFs (t : Str) (p : Parts) (M G D : Addr) : List (Str × V) := [("written", .str t), ("letters", .str p.sg), ("words", .ref M), ("chosen", .ref G), ("goals", .ref D)]
/-- a rule stands at a -/
def RuleAt (H : Hp) (C a : Addr) (t : Str) (p : Parts) : Prop := ∃ dx M G D, H a = some (.ins C dx (rFs t p M G D)) ∧ H M = some (.tup (p.ms.map V.str)) ∧ H G = some (.tup (p.gs.map V.str)) ∧ H D = some (.dT (goalsD p.rs))
theorem RuleAt.same {H H' : Hp} {C a : Addr} {t : Str} {p : Parts} (h : RuleAt H C a t p) (s : Same H H') : RuleAt H' C a t p := by
  obtain ⟨dx, M, G, D, e1, e2, e3, e4⟩ := h
  exact ⟨dx, M, G, D, s _ _ e1, s _ _ e2, s _ _ e3, s _ _ e4⟩
def spInit (C : Addr) : Sp := fun vs H Q _ => ∃ (a dx : Addr) (t : Str) (p : Parts), vs = [.ref a, .str t] ∧ H a = some (.ins C dx []) ∧ t.length ≤ 1000000 ∧ PyData.strOk t = true ∧ parseL t = some p ∧
  ∀ H', (∀ b o, b ≠ a → H b = some o → H' b = some o) → RuleAt H' C a t p → Q .non H'
/-- what is fixed of the class -/
structure RuC (K : PySem.W.Frag) (C : Addr) : Prop where
  cl : Cls K C
  f1 : NoAttr K C "written"
  f2 : NoAttr K C "letters"
  f3 : NoAttr K C "words"
  f4 : NoAttr K C "chosen"
  f5 : NoAttr K C "goals"
section
variable {P : Program} {w : World} {K : PySem.W.Frag} {mg : Str → Option Value} {base : Heap}
abbrev sInit : Stmt := inClass sRule 0
abbrev nInit : List Str := ["self", "text", "parts"]
theorem scInit : FnScope nInit ["self", "text"] (defScope sInit) := ⟨rfl, rfl, rfl, by decide +kernel, rfl, by decide +kernel, by decide +kernel⟩
theorem ok_init {f C : Addr} {fd : FuncData} (F : Fun K "__init__" "Rule.__init__" sInit f fd) (T : RuC K C) (hR : Hv P w K mg base 4 "read_rule" ["text"] spRead) (hIs : mg "isinstance" = none) (hSt : mg "str" = none) : FnOk P w K mg base CX0 5 f fd ["self", "text"] (spInit C) := by
  refine F.ok scInit (fun vs H Q E h => ?_) (fun cdv A outer s H vs Q E hr h => ?_)
  · obtain ⟨a, dx, t, p, rfl, _⟩ := h
    rfl
  · obtain ⟨a, dx, t, p, rfl, ha, zt, ot, pt, k⟩ := h
    refine ⟨_, pss_cons (ps_set (i := 2) scInit.nd rfl (Or.inl rfl) (pe_ifExp (pt_val (pe_callB call_isi (by rfl) hIs (by decide +kernel) (pa_cons (pv 1) (pa_cons (pe_bltn (v := .ty "str") (by rfl) hSt (by decide +kernel) rfl) pa_nil)))) (pe_cl hR hr rfl pass0 (pa_cons (pv 1) pa_nil)) pe_non))
      (pss_cons (ps_if (pt_cmpR op_isN (pv 2) pe_non (nomark _)) (pss_one ps_never) pss_nil)
      (pss_cons (ps_fld (pv 0) (pv 1) rfl)
      (pss_one (ps_asg (pv 2) (pg_tup (by rfl) (pgs_cons (pg_fld (pv 0)) (pgs_cons (pg_fld (pv 0)) (pgs_cons (pg_fld (pv 0)) (pgs_cons (pg_fld (pv 0)) pgs_nil))))))))), ?_⟩
    refine ⟨_, rfl, .str t, .ty "str", _, .type "str", true, rfl, .ty _, .base (.str t), kit_ty (by decide +kernel), _, rfl, iteT ?_⟩
    refine ⟨_, rfl, t, rfl, zt, ot, (fun z => by rw [pt] at z; cases z), fun p' hp' T' H1 s1 hT => ?_⟩
    rw [pt] at hp'
    cases hp'
    obtain ⟨M, G, D, e1, e2, e3, e4⟩ := hT
    have ea := s1 _ _ ha
    refine ⟨_, rfl, rfl, _, rfl, iteF ?_⟩
    refine ⟨_, rfl, _, rfl, a, C, dx, _, rfl, ea, T.cl, T.f1, by decide, ?_⟩
    have ne : ∀ {b : Addr} {xs : List V}, H1 b = some (.tup xs) → b ≠ a := fun e => ne_of e ea (by intro z; cases z)
    have nD : D ≠ a := ne_of e4 ea (by intro z; cases z)
    refine ⟨_, rfl, T', _, rfl, SqT.of (by rw [upd_ne (ne e1)]; exact e1), rfl, _, _, rfl, _, rfl, a, C, dx, _, rfl, upd_same, T.cl, T.f2, (by show 1 < 1000; decide), ?_⟩
    rw [upd_upd]
    refine ⟨_, _, rfl, _, rfl, a, C, dx, _, rfl, upd_same, T.cl, T.f3, (by show 2 < 1000; decide), ?_⟩
    rw [upd_upd]
    refine ⟨_, _, rfl, _, rfl, a, C, dx, _, rfl, upd_same, T.cl, T.f4, (by show 3 < 1000; decide), ?_⟩
    rw [upd_upd]
    refine ⟨_, _, rfl, _, rfl, a, C, dx, _, rfl, upd_same, T.cl, T.f5, (by show 4 < 1000; decide), ?_⟩
    rw [upd_upd]
    refine ⟨rfl, k _ (fun b o n e => by rw [upd_ne n]; exact s1 _ _ e) ⟨dx, M, G, D, upd_same, ?_, ?_, ?_⟩⟩
    · rw [upd_ne (ne e2)]; exact e2
    · rw [upd_ne (ne e3)]; exact e3
    · rw [upd_ne nD]; exact e4
end
end My
namespace My
open PySem PySem.Spec PyProof.Rows L2
abbrev sMood : Stmt := inClass sRule 8
abbrev sHas : Stmt := inClass sRule 9
/-- the method x of C is there, and keeps the promise -/
structure HvM (P : Program) (w : World) (K : PySem.W.Frag) (mg : Str → Option Value) (base : Heap) (k : Nat) (C : Addr) (x : Str) (ps : List Str) (sp : Sp) : Prop where
  ex : ∃ (f : Addr) (fd : FuncData), FnOk P w K mg base CX0 k f fd ps sp ∧ Binds K fd ps [] ∧ Meth K C x f
theorem pe_mt {X : Cx} {k : Nat} {C : Addr} {x : Str} {ps : List Str} {sp : Sp} {apos pos : Pos} {o e : Expr} {es : List Expr} {ta : TE} {t : TA} {E : XK} {pl : Sem Bool} (h : HvM X.prog X.w X.K X.mg X.base k C x ps sp) (ho : PE X o ta) (c : Cls X.K C) (hr : Room k X.A) (hx : Passes CX0 X E) (ha : PA X (e :: es) t)
    (hst : starEach (e :: es) X.env = (false, eval e X.env) :: starEach es X.env := by rfl) (hpl : (backTo pos (starEach es X.env)).any (·.1) = false := by rfl)
    (ht : eval (.Call (.Attribute o x apos) (e :: es) [] pos) X.env = (do
      let ov ← eval o X.env
      standAt apos.atName
      let (f, first) ← holding [ov] (getMethod ov x pl)
      callWith pos f first (backTo pos (starEach (e :: es) X.env)) (backToKw pos (keywordEach [] X.env))) := by rfl) :
    PE X (.Call (.Attribute o x apos) (e :: es) [] pos) (tMeth C x sp [] E ta t) := by
  obtain ⟨f, fd, F, b, m⟩ := h.ex
  exact pe_meth ho c m F hr b .nil hx ha hst hpl ht
theorem pe_fldK {X : Cx} {K : PySem.W.Frag} {e : Expr} {f : Str} {ta : TE} {pos : Pos} (h : X.K = K) (he : PE X e ta) (hb : attributeBase e f X.env (eval e X.env) = eval e X.env) : PE X (.Attribute e f pos) (tFld K ta f) := by subst h; exact pe_fld he hb
/-- what a text that is one writes -/
structure PartsOk (p : Parts) : Prop where
  sgs : areSignsL [p.sg] = true
  mds : areMoodsL p.ms = true
  gds : areGoodL p.gs p.ms = true
  gls : goalsOkL p.sg p.ms p.rs = true
theorem parts_ok {t : Str} {p : Parts} (h : parseL t = some p) : PartsOk p := by
  unfold parseL partsL at h
  split at h
  · rename_i t0 s0 t1 m0 t2 g0 rs heq
    split at h
    · rename_i hc
      cases h
      obtain ⟨x, e, _⟩ := signs_one hc.2.1
      subst e
      exact ⟨hc.2.1, hc.2.2.1, hc.2.2.2.1, hc.2.2.2.2⟩
    · cases h
  · cases h
theorem dOf_some {α κ : Type} [DecidableEq κ] {key : α → κ} {val : α → V} {k : κ} : ∀ (xs : List α), (∃ a ∈ xs, key a = k) → ∃ a ∈ xs, key a = k ∧ valV (dOf key val xs) k = some (val a) := by
  suffices h : ∀ (n : Nat) (xs : List α), xs.length = n → (∃ a ∈ xs, key a = k) → ∃ a ∈ xs, key a = k ∧ valV (dOf key val xs) k = some (val a) from fun xs => h _ xs rfl
  intro n
  induction n with
  | zero =>
    intro xs h ⟨a, ha, _⟩
    have : xs = [] := List.eq_nil_of_length_eq_zero h
    subst this
    cases ha
  | succ n ih =>
    intro xs h h2
    have hne : xs ≠ [] := by intro z; subst z; cases h
    obtain ⟨ys, a, rfl⟩ : ∃ ys a, xs = ys ++ [a] := ⟨xs.dropLast, xs.getLast hne, (List.dropLast_concat_getLast hne).symm⟩
    have hl : ys.length = n := by rw [List.length_append] at h; simpa using h
    rw [dOf_snoc, valV_put]
    by_cases e : k = key a
    · exact ⟨a, by simp, e.symm, by rw [if_pos e]⟩
    · rw [if_neg e]
      obtain ⟨b, hb, eb⟩ := h2
      rcases List.mem_append.mp hb with m | m
      · obtain ⟨d, hd, ed, hv⟩ := ih ys hl ⟨b, m, eb⟩
        exact ⟨d, by simp [hd], ed, hv⟩
      · have : b = a := by simpa using m
        exact absurd (this ▸ eb.symm) e
/-- where the sign c leads from the mood t -/
def ledL (p : Parts) (t : Str) (c : Nat) : Str := gf (goalsD p.rs) t c
theorem PartsOk.goal {p : Parts} (h : PartsOk p) {t : Str} (ht : t ∈ p.ms) {c : Nat} (hc : c ∈ p.sg.cps.toList) : ledL p t c ∈ p.ms ∧ valV (goalsD p.rs) (kT t c) = some (.str (ledL p t c)) := by
  have hg := h.gls
  unfold goalsOkL at hg
  rw [Bool.and_eq_true_iff] at hg
  have ep : p.rs.map (List.take 2) = pairsL p.sg p.ms := of_decide_eq_true hg.1
  have hm : [t, sg c] ∈ p.rs.map (List.take 2) := by
    rw [ep]
    unfold pairsL
    exact List.mem_flatMap.mpr ⟨t, ht, List.mem_map.mpr ⟨c, hc, rfl⟩⟩
  obtain ⟨r, hr, er⟩ := List.mem_map.mp hm
  have key : ∀ q : List Str, q.take 2 = [t, sg c] → [(Sum.inr (q.getD 0 Str.empty) : Key), Sum.inr (q.getD 1 Str.empty)] = kT t c := fun q hq => by
    match q, hq with
    | [], hq => cases hq
    | [_], hq => simp at hq
    | a :: b :: _, hq =>
      have : [a, b] = [t, sg c] := hq
      injection this with e1 this
      injection this with e2 _
      subst e1 e2
      rfl
  obtain ⟨q, hq, eq, hv⟩ := dOf_some (key := fun r : List Str => [(Sum.inr (r.getD 0 Str.empty) : Key), Sum.inr (r.getD 1 Str.empty)]) (val := fun r => V.str (r.getD 2 Str.empty)) (k := kT t c) p.rs ⟨r, hr, key r er⟩
  have ok := List.all_eq_true.mp hg.2 q hq
  unfold rowOkL at ok
  rw [Bool.and_eq_true_iff] at ok
  have e : ledL p t c = q.getD 2 Str.empty := gf_is hv
  rw [e]
  exact ⟨of_decide_eq_true ok.2, hv⟩
def isRowL (x r : Str) : Bool := decide (r.length ≤ 1000) && r.cps.toList.all fun c => decide (c ∈ x.cps.toList)
/-- a row leads from t -/
def walkL (p : Parts) (t : Str) (cs : List Nat) : Str := cs.foldl (ledL p) t
def firstL (p : Parts) : Str := p.ms.headD Str.empty
def moodL (p : Parts) (r : Str) : Str := walkL p (firstL p) r.cps.toList
theorem walk_mem {p : Parts} (h : PartsOk p) : ∀ (cs : List Nat) (t : Str), t ∈ p.ms → (∀ c ∈ cs, c ∈ p.sg.cps.toList) → walkL p t cs ∈ p.ms
  | [], _, ht, _ => ht
  | c :: cs, t, ht, hc => walk_mem h cs _ (h.goal ht (hc c (by simp))).1 fun d hd => hc d (by simp [hd])
theorem PartsOk.first {p : Parts} (h : PartsOk p) : ∃ ms, p.ms = firstL p :: ms := by
  have := h.mds
  unfold areMoodsL at this
  simp only [Bool.and_eq_true] at this
  have l1 : 1 ≤ p.ms.length := of_decide_eq_true this.1.1.1
  unfold firstL
  match hm : p.ms, l1 with
  | a :: t, _ => exact ⟨t, rfl⟩
def spRow : Sp := fun vs H Q _ => ∃ (r x : Str), vs = [.str r, .str x] ∧ r.length ≤ 16000000 ∧ ∀ H', Same H H' → Q (.bl (isRowL x r)) H'
def spMood (C : Addr) : Sp := fun vs H Q _ => ∃ (a : Addr) (r t : Str) (p : Parts), vs = [.ref a, .str r] ∧ RuleAt H C a t p ∧ PartsOk p ∧ isRowL p.sg r = true ∧ ∀ H', Same H H' → Q (.str (moodL p r)) H'
def spHas (C : Addr) : Sp := fun vs H Q _ => ∃ (a : Addr) (r t : Str) (p : Parts), vs = [.ref a, .str r] ∧ RuleAt H C a t p ∧ PartsOk p ∧ isRowL p.sg r = true ∧ ∀ H', Same H H' → Q (.bl (decide (moodL p r ∈ p.gs))) H'
theorem in_strs (x : Str) : ∀ ys : List Str, inV (.str x) (ys.map V.str) = decide (x ∈ ys)
  | [] => rfl
  | y :: t => by
    have ih := in_strs x t
    unfold inV at ih ⊢
    rw [List.map_cons, List.any_cons, ih]
    have e : eqV (.str y) (.str x) = decide (y = x) := by
      show (y == x) = _
      by_cases h : y = x
      · subst h; simp
      · simp [h]
    rw [e]
    by_cases h : y = x
    · subst h; simp
    · simp [h, Ne.symm h]
theorem flat_strs (ys : List Str) : (ys.map V.str).all flatV = true := by
  rw [List.all_map]
  exact List.all_eq_true.mpr fun _ _ => rfl
section
variable {P : Program} {w : World} {K : PySem.W.Frag} {mg : Str → Option Value} {base : Heap}
theorem scRow : FnScope ["value", "letters"] ["value", "letters"] (defScope sRowOf) := ⟨rfl, rfl, rfl, by decide +kernel, rfl, by decide +kernel, by decide +kernel⟩
theorem made_all (x r : Str) : madeL r x = r.cps.toList.all fun c => decide (c ∈ x.cps.toList) := by
  unfold madeL
  rw [List.all_map]
  rfl
theorem ok_row {f : Addr} {fd : FuncData} {tA : Tok} (F : Fun K "is_row_of" "is_row_of" sRowOf f fd) (hO : Hv P w K mg base 1 "made_of" ["text", "letters"] spMade) (hIs : mg "isinstance" = none) (hSt : mg "str" = none) (hL : mg "len" = none) (gM : mg "MOST_ROW" = some (.int 1000 tA)) : FnOk P w K mg base CX0 2 f fd ["value", "letters"] spRow := by
  refine F.ok scRow (fun vs H Q E h => ?_) (fun cdv A outer s H vs Q E hr h => ?_)
  · obtain ⟨r, x, rfl, _⟩ := h
    rfl
  · obtain ⟨r, x, rfl, zr, k⟩ := h
    refine ⟨_, pss_one (ps_ret (pe_and (pe_callB call_isi (by rfl) hIs (by decide +kernel) (pa_cons (pv 0) (pa_cons (pe_bltn (v := .ty "str") (by rfl) hSt (by decide +kernel) rfl) pa_nil)))
        (pe_and (pe_cmpR op_le (pe_callB call_len_str (by rfl) hL PySem.boot_len (pa_cons (pv 0) pa_nil)) (pe_glob (v := .int 1000) rfl gM ⟨_, rfl⟩) (nomark _)) (pe_one (pe_cl hO hr rfl pass0 (pa_cons (pv 0) (pa_cons (pv 1) pa_nil))))))), ?_⟩
    refine ⟨_, rfl, .str r, .ty "str", _, .type "str", true, rfl, .ty _, .base (.str r), kit_ty (by decide +kernel), _, rfl, iteT ?_⟩
    refine ⟨_, rfl, r, rfl, (by rw [sizeLine_eq]; omega), _, _, rfl, rfl, _, rfl, ite2 (fun c => ?_) (fun c => ?_)⟩
    · have h1 : (r.length : Int) ≤ 1000 := of_decide_eq_true c
      refine ⟨_, rfl, _, rfl, r, x, rfl, zr, fun H' s' => ?_⟩
      have e : madeL r x = isRowL x r := by
        unfold isRowL
        rw [decide_eq_true (by omega : r.length ≤ 1000), Bool.true_and, made_all]
      rw [e]
      exact k _ s'
    · have h1 : ¬ (r.length : Int) ≤ 1000 := by simpa using c
      have e : isRowL x r = false := by
        unfold isRowL
        rw [decide_eq_false (by omega : ¬ r.length ≤ 1000)]
        rfl
      rw [e] at k
      exact k _ (Same.refl _)
theorem scMood : FnScope ["self", "row", "reached", "sign"] ["self", "row"] (defScope sMood) := ⟨rfl, rfl, rfl, by decide +kernel, rfl, by decide +kernel, by decide +kernel⟩
theorem ok_mood {f C : Addr} {fd : FuncData} (F : Fun K "mood" "Rule.mood" sMood f fd) (T : RuC K C) (hR : Hv P w K mg base 2 "is_row_of" ["value", "letters"] spRow) : FnOk P w K mg base CX0 3 f fd ["self", "row"] (spMood C) := by
  refine F.ok scMood (fun vs H Q E h => ?_) (fun cdv A outer s H vs Q E hr h => ?_)
  · obtain ⟨a, r, t, p, rfl, _⟩ := h
    rfl
  · obtain ⟨a, r, t, p, rfl, hA, ok, ir, k⟩ := h
    refine ⟨_, pss_cons (ps_if (pt_not (pt_val (pe_cl hR hr rfl pass0 (pa_cons (pv 1) (pa_cons (pe_fld (pv 0) rfl) pa_nil))))) (pss_one ps_never) pss_nil)
      (pss_cons (ps_set (i := 2) scMood.nd rfl (Or.inl rfl) (pe_ix ix_tup (pe_fld (pv 0) rfl) pe_int (fun _ _ => rfl)))
      (pss_cons (ps_for PassesOwn.never rfl (pi_str (pv 1)) (pg_name (i := 3) scMood.nd rfl (Or.inl rfl)) (pss_one (ps_set (i := 2) scMood.nd rfl (Or.inl rfl) (pe_dget (hu_of hr) (pe_fld (pv 0) rfl) (pe_tup (pa_cons (pv 2) (pa_cons (pv 3) pa_nil))) (fun _ _ => rfl)))))
      (pss_one (ps_ret (pv 2))))), ?_⟩
    obtain ⟨dx, M, G, D, e1, e2, e3, e4⟩ := id hA
    have hl : r.length ≤ 1000 := by
      unfold isRowL at ir
      exact of_decide_eq_true (Bool.and_eq_true_iff.mp ir).1
    have hin : ∀ c ∈ r.cps.toList, c ∈ p.sg.cps.toList := fun c hc => by
      unfold isRowL at ir
      exact of_decide_eq_true (List.all_eq_true.mp (Bool.and_eq_true_iff.mp ir).2 c hc)
    refine ⟨_, rfl, _, rfl, a, C, dx, _, .str p.sg, rfl, e1, T.cl, T.f2, rfl, r, p.sg, rfl, by omega, fun H1 s1 => ⟨_, rfl, ?_⟩⟩
    rw [ir]
    refine iteF ?_
    obtain ⟨ms, em⟩ := ok.first
    have ef : (p.ms.map V.str)[0]? = some (.str (firstL p)) := by rw [em]; rfl
    refine ⟨_, rfl, a, C, dx, _, .ref M, rfl, s1 _ _ e1, T.cl, T.f3, rfl, M, _, _, _, rfl, rfl, SqT.of (s1 _ _ e2), atI_nat (j := 0) ef, ?_⟩
    refine ⟨_, rfl, r, rfl, ?_⟩
    refine for_it walk_str (fun i σ H' => ∃ v3, σ = [some (.ref a), some (.str r), some (.str (walkL p (firstL p) (r.cps.toList.take i))), v3] ∧ Same H1 H') ⟨none, rfl, Same.refl _⟩ (fun _ _ _ _ _ => trivial) (fun i y σ H2 H3 hi h hy => ?_) (fun σ H2 h => ?_)
    · obtain ⟨rfl, c, hc, rfl⟩ := hy
      obtain ⟨v3, rfl, s2⟩ := h
      have hc' : r.cps.toList[i]? = some c := by rw [Array.getElem?_toList]; exact hc
      have hm := walk_mem ok (r.cps.toList.take i) (firstL p) (by rw [em]; simp) fun d hd => hin d (List.mem_of_mem_take hd)
      have hg := ok.goal hm (hin c (List.mem_of_getElem? hc'))
      have s3 := s1.trans s2
      refine ⟨_, rfl, a, C, dx, _, .ref D, rfl, s3 _ _ e1, T.cl, T.f5, rfl, _, rfl, _, rfl, (by show 2 ≤ sizeLine; decide), fun t' ht => ⟨D, .str (ledL p (walkL p (firstL p) (r.cps.toList.take i)) c), rfl, ?_, ?_⟩⟩
      · have := DGet.t (k := kT (walkL p (firstL p) (r.cps.toList.take i)) c) (keep1 (s3 _ _ e4) ht) (upd_same (o := .tup ((kT (walkL p (firstL p) (r.cps.toList.take i)) c).map kV)))
        rw [hg.2] at this
        exact this
      · refine ⟨some (.str (sg c)), ?_, s2.trans (same_new ht)⟩
        rw [List.take_add_one, hc']
        show _ = [_, _, some (V.str (walkL p (firstL p) (r.cps.toList.take i ++ [c]))), _]
        unfold walkL
        rw [List.foldl_append]
        rfl
    · obtain ⟨v3, rfl, s2⟩ := h
      refine ⟨_, rfl, ?_⟩
      have : r.cps.toList.take r.cps.size = r.cps.toList := by rw [← Array.length_toList, List.take_length]
      rw [this]
      exact k _ (s1.trans s2)
theorem scHas : FnScope ["self", "row"] ["self", "row"] (defScope sHas) := ⟨rfl, rfl, rfl, by decide +kernel, rfl, by decide +kernel, by decide +kernel⟩
theorem ok_has {f C : Addr} {fd : FuncData} (F : Fun K "has" "Rule.has" sHas f fd) (T : RuC K C) (hM : HvM P w K mg base 3 C "mood" ["self", "row"] (spMood C)) : FnOk P w K mg base CX0 4 f fd ["self", "row"] (spHas C) := by
  refine F.ok scHas (fun vs H Q E h => ?_) (fun cdv A outer s H vs Q E hr h => ?_)
  · obtain ⟨a, r, t, p, rfl, _⟩ := h
    rfl
  · obtain ⟨a, r, t, p, rfl, hA, ok, ir, k⟩ := h
    refine ⟨_, pss_one (ps_ret (pe_cmpR op_in_seq (pe_mt hM (pv 0) T.cl hr pass0 (pa_cons (pv 1) pa_nil)) (pe_fld (pv 0) rfl) (by rfl))), ?_⟩
    obtain ⟨dx, M, G, D, e1, e2, e3, e4⟩ := id hA
    refine ⟨_, rfl, a, dx, _, rfl, e1, rfl, _, rfl, a, r, t, p, rfl, hA, ok, ir, fun H1 s1 => ?_⟩
    refine ⟨_, rfl, a, C, dx, _, .ref G, rfl, s1 _ _ e1, T.cl, T.f4, rfl, G, _, rfl, .inr (SqT.of (s1 _ _ e3)), rfl, flat_strs _, ?_⟩
    show Q (.bl (inV (.str (moodL p r)) (p.gs.map V.str))) H1
    rw [in_strs]
    exact k _ s1
end
end My
namespace L2
open PySem PySem.Spec PyProof.Rows
/-- str(o) of an instance whose class has a __str__ of its own -/
def rStrO (C : Addr) (sp : Sp) : List V → Hp → VK → Prop := fun xs H Q => ∃ a dx fs, xs = [.ref a] ∧ H a = some (.ins C dx fs) ∧ sp [.ref a] H (fun v H' => ∃ y, v = .str y ∧ Q v H') E0
theorem cr_strO {X : Cx} {k : Nat} {C f : Addr} {fd : FuncData} {sp : Sp} (F : FnOk X.prog X.w X.K X.mg X.base CX0 k f fd ["self"] sp) (hr : Room (k + 2) X.A) (hb : Binds X.K fd ["self"] []) (hm : Meth X.K C "__str__" f) : CallR X (.type "str") (rStrO C sp) := by
  intro pins s σ H xs us Q I r ⟨a, dx, fs, e, ea, q⟩
  subst e
  obtain ⟨u, rfl, ru⟩ := vals1 r
  obtain rfl : u = Value.ref a := ru
  obtain ⟨mA, O, rr, _, _, _⟩ := ins_get I.hok ea
  obtain ⟨od, J, _⟩ := O.look
  refine PySem.W.kso_call (by have := hr.un; show X.A.units + 1 + 1 < cLine; omega) I.kIn J hm.at_ hm.fn ?_
  refine wpAny_call (codeAny_mono (F.run X.A.in1.in1 X.stack s H ⟨[.ref a], []⟩ [.ref a] [.ref a] _ E0 hr.in1.in1 I.env0.in1.in1 (hb s [.ref a] I.kIn rfl) (.cons rfl .nil) q) fun r s' hq => ?_)
  cases r with
  | error e => exact pass0 pins σ H s e s' I hq
  | ok fl =>
    cases fl with
    | ret u =>
      obtain ⟨v, H', I', rv, y, rfl, q'⟩ := I.after hq
      obtain ⟨t, rfl⟩ := rv
      exact ⟨.str y, H', I', ⟨t, rfl⟩, q'⟩
    | next => exact False.elim hq
    | brk => exact False.elim hq
    | cont => exact False.elim hq
end L2
namespace My
open PySem PySem.Spec PyProof.Rows L2
/-- a well stands at p -/
def Wl (H : Hp) (p : Addr) : Prop := ∃ w0 w1 w2 : Int, 0 ≤ w0 ∧ 0 ≤ w1 ∧ H p = some (.lst [.int w0, .int w1, .int w2])
def spDip : Sp := fun vs H Q _ => ∃ (p : Addr) (n : Int), vs = [.ref p, .int n] ∧ Wl H p ∧ 0 < n ∧ n < 1073741824 ∧
  ∀ (d : Int) (o : HO), 0 ≤ d → d < n → Wl (upd H p o) p → Q (.int d) (upd H p o)
section
variable {P : Program} {w : World} {K : PySem.W.Frag} {mg : Str → Option Value} {base : Heap}
theorem scD : FnScope ["_law_well_here", "_law_size", "_law_digit"] ["_law_well_here", "_law_size"] (defScope sDip) :=
  ⟨rfl, rfl, rfl, by decide +kernel, rfl, by decide +kernel, by decide +kernel⟩
theorem ok_dip {f : Addr} {fd : FuncData} (F : Fun K "_law_dip" "_law_dip" sDip f fd) (hI : mg "int" = none) : FnOk P w K mg base CX0 1 f fd ["_law_well_here", "_law_size"] spDip := by
  refine F.ok scD (fun vs H Q E h => ?_) (fun cdv A outer s H vs Q E hr h => ?_)
  · obtain ⟨p, n, rfl, _⟩ := h
    rfl
  · obtain ⟨p, n, rfl, ⟨w0, w1, w2, h0, h1, hp⟩, n0, n1, k⟩ := h
    refine ⟨_, pss_cons (ps_asg (pe_op op_add (pe_ix ix_list (pv 0) pe_int (fun _ _ => rfl)) pe_int) (pg_sub (pv 0) pe_int set_list))
      (pss_cons (ps_if (pt_cmpR op_gt (pe_ix ix_list (pv 0) pe_int (fun _ _ => rfl)) pe_int (nomark _))
        (pss_cons (ps_set (i := 2) scD.nd rfl (Or.inl rfl) (pe_op op_modN (pe_callTy call_int1 (by rfl) hI (by decide +kernel) (pa_cons (pe_ix ix_list (pv 0) pe_int (fun _ _ => rfl)) pa_nil)) (pv 1)))
        (pss_cons (ps_asg (pe_op op_fdivN (pe_callTy call_int1 (by rfl) hI (by decide +kernel) (pa_cons (pe_ix ix_list (pv 0) pe_int (fun _ _ => rfl)) pa_nil)) (pv 1)) (pg_sub (pv 0) pe_int set_list))
        (pss_one (ps_ret (pv 2))))) pss_nil)
      (pss_cons (ps_asg (pe_op op_mod (pe_callTy call_int1 (by rfl) hI (by decide +kernel) (pa_cons (pe_op op_add (pe_op op_add (pe_op op_mul (pe_ix ix_list (pv 0) pe_int (fun _ _ => rfl)) pe_int)
          (pe_op op_mul pe_int (pe_ix ix_list (pv 0) pe_int (fun _ _ => rfl)))) pe_int) pa_nil)) pe_int) (pg_sub (pv 0) pe_int set_list))
      (pss_one (ps_ret (pe_op op_modN (pe_callTy call_int1 (by rfl) hI (by decide +kernel) (pa_cons (pe_op op_fdiv (pe_ix ix_list (pv 0) pe_int (fun _ _ => rfl)) pe_int) pa_nil)) (pv 1)))))), ?_⟩
    -- well[2] = well[2] + 1
    refine ⟨_, rfl, p, _, _, _, rfl, rfl, SqL.of hp, atI_nat (j := 2) rfl, _, _, rfl, rfl, _, rfl, p, _, _, 2, rfl, rfl, hp, rfl, ?_⟩
    have hp1 : ∀ o, upd H p o p = some o := fun o => upd_same
    refine ⟨_, rfl, p, _, _, _, rfl, rfl, SqL.of (hp1 _), atI_nat (j := 0) rfl, _, _, rfl, rfl, _, rfl, ?_⟩
    refine ite2 (fun c => ?_) (fun c => ?_)
    · have c' : (0 : Int) < w0 := of_decide_eq_true c
      refine ⟨_, rfl, p, _, _, _, rfl, rfl, SqL.of (hp1 _), atI_nat (j := 0) rfl, .inl ⟨_, rfl, _, rfl, _, _, rfl, rfl, (by show n ≠ 0; omega), ?_⟩⟩
      refine ⟨_, rfl, p, _, _, _, rfl, rfl, SqL.of (hp1 _), atI_nat (j := 0) rfl, .inl ⟨_, rfl, _, rfl, _, _, rfl, rfl, ⟨(by omega), (by omega)⟩, _, rfl, p, _, _, 0, rfl, rfl, hp1 _, rfl, ?_⟩⟩
      refine ⟨_, rfl, ?_⟩
      rw [upd_upd]
      refine k _ _ (Int.fmod_nonneg_of_pos _ n0) (Int.fmod_lt_of_pos _ n0) ⟨_, _, _, ?_, h1, upd_same⟩
      rw [Int.fdiv_eq_ediv_of_nonneg _ (by omega)]
      exact Int.ediv_nonneg h0 (by omega)
    · refine ⟨_, rfl, p, _, _, _, rfl, rfl, SqL.of (hp1 _), atI_nat (j := 1) rfl, _, _, rfl, rfl, .inr ⟨by decide, by decide⟩, _, rfl, p, _, _, _, rfl, rfl, SqL.of (hp1 _), atI_nat (j := 2) rfl, _, _, rfl, rfl, .inl ⟨by decide, by decide⟩,
        _, _, rfl, rfl, _, _, rfl, rfl, .inl ⟨_, rfl, _, _, rfl, rfl, (by show (0 : Int) < 2147483647; decide), _, rfl, p, _, _, 1, rfl, rfl, hp1 _, rfl, ?_⟩⟩
      rw [upd_upd]
      refine ⟨_, rfl, p, _, _, _, rfl, rfl, SqL.of (hp1 _), atI_nat (j := 1) rfl, _, _, rfl, rfl, ⟨by decide, by decide⟩, .inl ⟨_, rfl, _, rfl, _, _, rfl, rfl, (by show n ≠ 0; omega), ?_⟩⟩
      exact k _ _ (Int.fmod_nonneg_of_pos _ n0) (Int.fmod_lt_of_pos _ n0) ⟨_, _, _, h0, Int.emod_nonneg _ (by decide), upd_same⟩
end
end My
namespace My
open PySem PySem.Spec PyProof.Rows L2
def spWell (K : PySem.W.Frag) : Sp := fun vs H Q _ => ∃ (a : Addr) (ns : List Int) (t : Int), vs = [.ref a, .int t] ∧ SqL K H a (ns.map V.int) ∧ 0 ≤ t ∧ t ≤ 1000 ∧
  ∀ (p : Addr) (H' : Hp), Same H H' → H p = none → Wl H' p → Q (.ref p) H'
theorem cut_ints (ns : List Int) (lo hi : Option Int) : ∃ ms : List Int, cutV (ns.map V.int) lo hi = ms.map V.int := by
  unfold cutV
  rw [← List.map_drop, ← List.map_take]
  exact ⟨_, rfl⟩
theorem map_int_get {ns : List Int} {i : Nat} {y : V} (h : (ns.map V.int)[i]? = some y) : ∃ z, ns[i]? = some z ∧ y = V.int z := by
  rw [List.getElem?_map] at h
  cases e : ns[i]? with
  | none => rw [e] at h; cases h
  | some z => rw [e] at h; exact ⟨z, rfl, (Option.some.inj h).symm⟩
section
variable {P : Program} {w : World} {K : PySem.W.Frag} {mg : Str → Option Value} {base : Heap}
theorem scW : FnScope ["_law_script", "_law_turn", "_law_entry", "_law_stirred", "_law_each"] ["_law_script", "_law_turn"] (defScope sWell) :=
  ⟨rfl, rfl, rfl, by decide +kernel, rfl, by decide +kernel, by decide +kernel⟩
theorem ok_well {f : Addr} {fd : FuncData} (F : Fun K "_law_well" "_law_well" sWell f fd) (hI : mg "int" = none) (hL : mg "len" = none) (hA : mg "abs" = none) : FnOk P w K mg base CX0 1 f fd ["_law_script", "_law_turn"] (spWell K) := by
  refine F.ok scW (fun vs H Q E h => ?_) (fun cdv A outer s H vs Q E hr h => ?_)
  · obtain ⟨a, ns, t, rfl, _⟩ := h
    rfl
  · obtain ⟨a, ns, t, rfl, hS, t0, t1, k⟩ := h
    refine ⟨_, pss_cons (ps_set (i := 2) scW.nd rfl (Or.inl rfl) (pe_ifExp (pt_cmpR op_lt (pv 1) (pe_callB call_len_seq (by rfl) hL PySem.boot_len (pa_cons (pv 0) pa_nil)) (nomark _))
        (pe_callTy call_int1 (by rfl) hI (by decide +kernel) (pa_cons (pe_ix ix_list (pv 0) (pv 1) (fun _ _ => rfl)) pa_nil)) (pe_op op_add (pe_op op_mul pe_int (pv 1)) pe_int)))
      (pss_cons (ps_set (i := 3) scW.nd rfl (Or.inl rfl) (pe_op op_add pe_int (pe_op op_mul pe_int (pv 1))))
      (pss_cons (ps_for PassesOwn.never rfl (pi_list (pe_slice sl_list (pv 0) po_none (po_some pe_int))) (pg_name (i := 4) scW.nd rfl (Or.inl rfl))
        (pss_one (ps_set (i := 3) scW.nd rfl (Or.inl rfl) (pe_op op_mod (pe_callTy call_int1 (by rfl) hI (by decide +kernel) (pa_cons (pe_op op_add (pe_op op_add (pe_op op_mul (pv 3) pe_int)
          (pe_op op_mod (pe_callTy call_int1 (by rfl) hI (by decide +kernel) (pa_cons (pv 4) pa_nil)) pe_int)) (pv 1)) pa_nil)) pe_int))))
      (pss_cons (ps_set (i := 3) scW.nd rfl (Or.inl rfl) (pe_op op_mod (pe_callTy call_int1 (by rfl) hI (by decide +kernel) (pa_cons (pe_op op_add (pe_op op_mul (pv 3) pe_int)
          (pe_op op_mod (pe_callTy call_int1 (by rfl) hI (by decide +kernel) (pa_cons (pv 2) pa_nil)) pe_int)) pa_nil)) pe_int))
      (pss_one (ps_ret (pe_lst (pa_cons (pe_ifExp (pt_cmpR op_ge (pe_callB call_abs (by rfl) hA (by decide +kernel) (pa_cons (pv 2) pa_nil)) (pe_op op_pow pe_int pe_int) (nomark _))
          (pe_callB call_abs (by rfl) hA (by decide +kernel) (pa_cons (pv 2) pa_nil)) pe_int) (pa_cons (pv 3) (pa_cons pe_int pa_nil))))))))), ?_⟩
    refine ⟨_, rfl, _, rfl, a, _, rfl, .inl hS, _, _, rfl, rfl, _, rfl, ?_⟩
    refine ite2 (fun c => ?a1) (fun c => ?a2)
    case' a1 =>
      have c1 : t < ((ns.map V.int).length : Int) := of_decide_eq_true c
      rw [List.length_map] at c1
      obtain ⟨z, hz⟩ : ∃ z, ns[t.toNat]? = some z := ⟨_, List.getElem?_eq_getElem (by omega : t.toNat < ns.length)⟩
      have et : t = ((t.toNat : Nat) : Int) := by omega
      refine ⟨_, rfl, _, rfl, a, _, _, V.int z, rfl, rfl, hS, ?_, .inl ⟨_, rfl, ?_⟩⟩
      · rw [et]
        exact atI_nat (by rw [List.getElem?_map, hz]; rfl)
    case' a2 => refine ⟨_, rfl, _, _, rfl, rfl, .inl ⟨by decide, by decide⟩, _, _, rfl, rfl, ?_⟩
    all_goals
      refine ⟨_, rfl, _, _, rfl, rfl, .inl ⟨by decide, by decide⟩, _, _, rfl, rfl, ?_⟩
      refine ⟨_, rfl, 8, rfl, a, _, rfl, hS, fun q hq => ⟨q, rfl, ⟨_, SqL.of upd_same⟩, ?_⟩⟩
      obtain ⟨ms, hms⟩ := cut_ints ns none (some 8)
      refine for_list (K := K) (a := q) (xs := cutV (ns.map V.int) none (some 8)) (fun i σ H' => ∃ (en st : Int) (v : Option V), σ = [some (.ref a), some (.int t), some (.int en), some (.int st), v] ∧ H' = upd H q (.lst (cutV (ns.map V.int) none (some 8))))
        ⟨_, _, none, rfl, rfl⟩ (fun i σ H' _ ⟨_, _, _, _, e⟩ => by rw [e]; exact SqL.of upd_same) ?_ ?_
      · rintro i y σ H' hi ⟨en, st, v, rfl, rfl⟩
        rw [hms] at hi
        obtain ⟨z, _, rfl⟩ := map_int_get hi
        exact ⟨_, rfl, _, _, rfl, rfl, .inr ⟨by decide, by decide⟩, _, rfl, .inl ⟨_, rfl, _, _, rfl, rfl, (by show (0 : Int) < 999979; decide), _, _, rfl, rfl, _, rfl, _, _, rfl, rfl, .inl ⟨_, rfl, _, _, rfl, rfl,
          (by show (0 : Int) < 2147483647; decide), en, _, _, rfl, rfl⟩⟩⟩
      · rintro σ H' ⟨en, st, v, rfl, rfl⟩
        refine ⟨_, rfl, _, _, rfl, rfl, .inr ⟨by decide, by decide⟩, _, rfl, .inl ⟨_, rfl, _, _, rfl, rfl, (by show (0 : Int) < 999979; decide), _, _, rfl, rfl, .inl ⟨_, rfl, _, _, rfl, rfl, (by show (0 : Int) < 2147483647; decide), ?_⟩⟩⟩
        refine ⟨_, rfl, _, rfl, _, _, rfl, rfl, ⟨by decide, by decide, by decide⟩, _, _, rfl, rfl, _, rfl, ?_⟩
        refine ite2 (fun c => ⟨_, rfl, _, rfl, ?_⟩) (fun c => ?_)
        all_goals
          refine ⟨_, rfl, (by show 3 ≤ sizeLine; decide), fun r hr => ?_⟩
          refine k r _ (fun b o e => ?_) ((same_new hq).free hr) ⟨_, _, _, ?_, Int.emod_nonneg _ (by decide), upd_same⟩
          · exact same_new hr b o (same_new hq b o e)
          · first | exact Int.le_refl 0 | (split <;> omega)
end
end My
namespace My
open PySem PySem.Spec PyProof.Rows L2
/-- all but the well stays -/
def Sb (p : Addr) (H H' : Hp) : Prop := ∀ b o, b ≠ p → H b = some o → H' b = some o
theorem Sb.refl (p : Addr) (H : Hp) : Sb p H H := fun _ _ _ h => h
theorem Sb.trans {p : Addr} {H H1 H2 : Hp} (a : Sb p H H1) (b : Sb p H1 H2) : Sb p H H2 := fun c o n h => b c o n (a c o n h)
theorem Sb.of {p : Addr} {H H' : Hp} (s : Same H H') : Sb p H H' := fun b o _ h => s b o h
theorem Sb.upd_ {p : Addr} {H : Hp} {o : HO} : Sb p H (upd H p o) := fun b u n h => by rw [upd_ne n]; exact h
theorem Sb.free {p : Addr} {H H' : Hp} (s : Sb p H H') {q : Addr} (n : q ≠ p) (h : H' q = none) : H q = none := by
  cases e : H q with
  | none => rfl
  | some o => rw [s q o n e] at h; cases h
theorem Wl.same {H H' : Hp} {p : Addr} (w : Wl H p) (s : Same H H') : Wl H' p := by
  obtain ⟨w0, w1, w2, a0, a1, e⟩ := w
  exact ⟨w0, w1, w2, a0, a1, s _ _ e⟩
theorem Wl.new {H : Hp} {p q : Addr} (w : Wl H p) (h : H q = none) : q ≠ p := by
  obtain ⟨w0, w1, w2, a0, a1, e⟩ := w
  exact (ne_of_none e h).symm
theorem Wl.ne {H : Hp} {p q : Addr} {o : HO} (w : Wl H p) (h : H q = some o) (n : ∀ a b c : Int, o ≠ .lst [.int a, .int b, .int c]) : q ≠ p := by
  obtain ⟨w0, w1, w2, a0, a1, e⟩ := w
  exact ne_of h e (n _ _ _)
theorem Wl.neS {H : Hp} {p q : Addr} {ws : List Str} (w : Wl H p) (h : H q = some (.lst (ws.map V.str))) : q ≠ p := w.ne h fun a b c z => by
  cases ws with
  | nil => cases z
  | cons x t => cases z
theorem Wl.upd_ {H : Hp} {p q : Addr} {o : HO} (w : Wl H p) (n : q ≠ p) : Wl (upd H q o) p := by
  obtain ⟨w0, w1, w2, a0, a1, e⟩ := w
  exact ⟨w0, w1, w2, a0, a1, by rw [upd_ne n.symm]; exact e⟩
def spPickL : Sp := fun vs H Q _ => ∃ (p m : Addr) (xs : List V), vs = [.ref p, .ref m] ∧ Wl H p ∧ m ≠ p ∧ H m = some (.lst xs) ∧ 0 < xs.length ∧ xs.length ≤ 1000 ∧
  ∀ (i : Nat) (x : V) (o : HO), xs[i]? = some x → Wl (upd H p o) p → Q x (upd H p o)
/-- rules whose readings speak of a K that is the context's -/
theorem ix_listK {X : Cx} {K : PySem.W.Frag} (h : X.K = K) : IxR X (rIxL K) := by subst h; exact ix_list
theorem sl_listK {X : Cx} {K : PySem.W.Frag} (h : X.K = K) : SlR X (rSlL K) := by subst h; exact sl_list
section
variable {P : Program} {w : World} {K : PySem.W.Frag} {mg : Str → Option Value} {base : Heap}
theorem scPick : FnScope ["_law_well_here", "_law_menu"] ["_law_well_here", "_law_menu"] (defScope sPick) := ⟨rfl, rfl, rfl, by decide +kernel, rfl, by decide +kernel, by decide +kernel⟩
theorem ok_pickL {f : Addr} {fd : FuncData} (F : Fun K "_law_pick" "_law_pick" sPick f fd) (hD : Hv P w K mg base 1 "_law_dip" ["_law_well_here", "_law_size"] spDip) (hL : mg "len" = none) : FnOk P w K mg base CX0 2 f fd ["_law_well_here", "_law_menu"] spPickL := by
  refine F.ok scPick (fun vs H Q E h => ?_) (fun cdv A outer s H vs Q E hr h => ?_)
  · obtain ⟨p, m, xs, rfl, _⟩ := h
    rfl
  · obtain ⟨p, m, xs, rfl, hW, hn, hm, z0, z1, k⟩ := h
    refine ⟨_, pss_one (ps_ret (pe_ix ix_list (pv 1) (pe_cl hD hr rfl pass0 (pa_cons (pv 0) (pa_cons (pe_callB call_len_seq (by rfl) hL PySem.boot_len (pa_cons (pv 1) pa_nil)) pa_nil))) (fun _ _ => rfl))), ?_⟩
    refine ⟨_, rfl, _, rfl, _, rfl, m, _, rfl, .inl (SqL.of hm), p, _, rfl, hW, (by omega), (by omega), fun d o d0 d1 hW' => ?_⟩
    obtain ⟨j, rfl⟩ := Int.eq_ofNat_of_zero_le d0
    have hj : j < xs.length := by omega
    have ei : xs[j]? = some xs[j] := List.getElem?_eq_getElem hj
    exact ⟨m, xs, _, _, rfl, rfl, SqL.of (by rw [upd_ne hn]; exact hm), atI_nat ei, k j _ o ei hW'⟩
end
end My
namespace My
open PySem PySem.Spec PyProof.Rows L2 PySem.GX
def spPickS : Sp := fun vs H Q _ => ∃ (p : Addr) (x : Str), vs = [.ref p, .str x] ∧ Wl H p ∧ 0 < x.length ∧ x.length ≤ 1000 ∧ ∀ (c : Nat) (o : HO), c ∈ x.cps.toList → Wl (upd H p o) p → Q (.str (sg c)) (upd H p o)
def spLine : Sp := fun vs H Q _ => ∃ (p : Addr) (x : Str) (n : Nat), vs = [.ref p, .str x, .int (n : Int)] ∧ Wl H p ∧ 0 < x.length ∧ x.length ≤ 1000 ∧ n ≤ 1000 ∧ ∀ (r : Str) (H' : Hp), r.length ≤ n → (∀ c ∈ r.cps.toList, c ∈ x.cps.toList) → Sb p H H' → Wl H' p → Q (.str r) H'
section
variable {P : Program} {w : World} {K : PySem.W.Frag} {mg : Str → Option Value} {base : Heap}
theorem ok_pickS {f : Addr} {fd : FuncData} (F : Fun K "_law_pick" "_law_pick" sPick f fd) (hD : Hv P w K mg base 1 "_law_dip" ["_law_well_here", "_law_size"] spDip) (hL : mg "len" = none) : FnOk P w K mg base CX0 2 f fd ["_law_well_here", "_law_menu"] spPickS := by
  refine F.ok scPick (fun vs H Q E h => ?_) (fun cdv A outer s H vs Q E hr h => ?_)
  · obtain ⟨p, x, rfl, _⟩ := h
    rfl
  · obtain ⟨p, x, rfl, hW, z0, z1, k⟩ := h
    refine ⟨_, pss_one (ps_ret (pe_ix ix_str (pv 1) (pe_cl hD hr rfl pass0 (pa_cons (pv 0) (pa_cons (pe_callB call_len_str (by rfl) hL PySem.boot_len (pa_cons (pv 1) pa_nil)) pa_nil))) (fun _ _ => rfl))), ?_⟩
    have zs : x.length ≤ sizeLine := by rw [sizeLine_eq]; omega
    refine ⟨_, rfl, _, rfl, _, rfl, x, rfl, zs, p, _, rfl, hW, (by omega), (by omega), fun d o d0 d1 hW' => ?_⟩
    obtain ⟨j, rfl⟩ := Int.eq_ofNat_of_zero_le d0
    have hj : j < x.cps.toList.length := by
      rw [Array.length_toList]
      show j < x.length
      omega
    have ei : x.cps.toList[j]? = some x.cps.toList[j] := List.getElem?_eq_getElem hj
    exact ⟨x, _, x.cps.toList[j], rfl, rfl, zs, atI_nat ei, k _ o (List.getElem_mem hj) hW'⟩
abbrev nLine : List Str := ["_law_well_here", "_law_letters", "_law_size", "_law_turn"]
theorem scLine : FnScope nLine ["_law_well_here", "_law_letters", "_law_size"] (defScope sLine) := ⟨rfl, rfl, rfl, by decide +kernel, rfl, by decide +kernel, by decide +kernel⟩
/-- a list of picked signs: the comprehension's walk -/
theorem join_sgs (cs : List Nat) : Txt.join Str.empty (cs.map sg) = ⟨cs.toArray⟩ := str_ext (by rw [TL.join_eq, join_signs])
theorem ok_line {f : Addr} {fd : FuncData} (F : Fun K "_law_line" "_law_line" sLine f fd) (hD : Hv P w K mg base 1 "_law_dip" ["_law_well_here", "_law_size"] spDip) (hP : Hv P w K mg base 2 "_law_pick" ["_law_well_here", "_law_menu"] spPickS) (hR : mg "range" = none) : FnOk P w K mg base CX0 3 f fd ["_law_well_here", "_law_letters", "_law_size"] spLine := by
  refine F.ok scLine (fun vs H Q E h => ?_) (fun cdv A outer s H vs Q E hr h => ?_)
  · obtain ⟨p, x, n, rfl, _⟩ := h
    rfl
  · obtain ⟨p, x, n, rfl, hW, z0, z1, zn, k⟩ := h
    refine ⟨_, pss_one (ps_ret (pe_join pe_str (pe_lc (own := [("_law_turn", 3)]) (g := gName 3) (tt := tYes) rfl scLine.nd (pi_range1 rfl hR (pa_cons (pe_cl hD (hr.mono (by decide)) rfl pass0 (pa_cons (pv 0) (pa_cons (pe_op op_add (pv 2) pe_int) pa_nil))) pa_nil)) (blkOk_by (N := nLine) (sc := defScope sLine) (by decide +kernel))
      (fun _ _ _ _ _ => pg_name (i := 3) scLine.nd rfl (Or.inl rfl)) (fun _ _ _ _ _ => pts_nil) (fun _ _ _ _ _ => pe_cl hP hr rfl pass0 (pa_cons (pv 0) (pa_cons (pv 1) pa_nil)))))), ?_⟩
    refine ⟨⟨_, rfl⟩, _, rfl, _, rfl, _, _, rfl, rfl, p, _, rfl, hW, by omega, by omega, fun d o d0 d1 hW1 => ?_⟩
    obtain ⟨m, rfl⟩ := Int.eq_ofNat_of_zero_le d0
    have hm : m ≤ n := by omega
    have s1 : Sb p H (upd H p o) := Sb.upd_
    generalize upd H p o = H1 at hW1 s1 ⊢
    refine ⟨m, rfl, by omega, by omega, fun D hD' => ?_⟩
    have nD : D ≠ p := hW1.new hD'
    refine lc_range (lo := 0) (n := m) (fun i H' => Wl H' p ∧ (∀ b o, b ≠ p → b ≠ D → H1 b = some o → H' b = some o) ∧ ∃ cs : List Nat, cs.length = i ∧ (∀ c ∈ cs, c ∈ x.cps.toList) ∧ H' D = some (.lst ((cs.map sg).map V.str)))
      ⟨hW1.upd_ nD, fun b o n1 n2 e => by rw [upd_ne n2]; exact e, [], rfl, (fun c hc => by cases hc), upd_same⟩ (fun i H' hi h => ?_) (fun H' h => ?_)
    · obtain ⟨hW2, st, cs, lc, inc, eD⟩ := h
      refine ⟨rfl, _, rfl, _, rfl, p, x, rfl, hW2, z0, z1, fun c o hc hW3 => ?_⟩
      refine ⟨_, by rw [upd_ne nD]; exact eD, ?_, hW3.upd_ nD, fun b o' n1 n2 e => ?_, cs ++ [c], by rw [List.length_append, lc]; rfl, fun d hd => ?_, ?_⟩
      · rw [List.length_map, List.length_map, lc, sizeLine_eq]
        omega
      · rw [upd_ne n2, upd_ne n1]
        exact st b o' n1 n2 e
      · rcases List.mem_append.mp hd with m | m
        · exact inc d m
        · have : d = c := by simpa using m
          rw [this]; exact hc
      · rw [upd_same, List.map_append, List.map_append]
        rfl
    · obtain ⟨hW2, st, cs, lc, inc, eD⟩ := h
      refine ⟨_, D, cs.map sg, rfl, rfl, .inl (SqL.of eD), ?_, ?_⟩
      · have : ((cs.map sg).map (·.length)).sum = cs.length := by
          clear eD lc inc
          induction cs with
          | nil => rfl
          | cons a t ih => rw [List.map_cons, List.map_cons, List.sum_cons, ih, List.length_cons]; show 1 + _ = _; omega
        rw [this, List.length_map]
        have e0 : (Str.ofString "").length = 0 := rfl
        rw [e0]
        omega
      · have e0 : (Str.ofString "") = Str.empty := rfl
        rw [e0, join_sgs]
        refine k _ _ ?_ (fun c hc => inc c (by simpa using hc)) (fun b o' n1 e => ?_) hW2
        · show cs.toArray.size ≤ n
          simp
          omega
        · have e1 := s1 b o' n1 e
          exact st b o' n1 (ne_of_none e1 hD') e1
end
end My
namespace My
open PySem PySem.Spec PyProof.Rows L2 PySem.GX
theorem parse_is {t : Str} {p : Parts} (h : (parseL t).map (fun p => (p.sg, p.ms, p.gs, p.rs)) = some (p.sg, p.ms, p.gs, p.rs)) : parseL t = some p := by
  cases e : parseL t with
  | none => rw [e] at h; cases h
  | some q =>
    rw [e] at h
    obtain ⟨a, b, c, d⟩ := q
    obtain ⟨a', b', c', d'⟩ := p
    simp only [Option.map_some, Option.some.injEq, Prod.mk.injEq] at h
    obtain ⟨rfl, rfl, rfl, rfl⟩ := h
    rfl
abbrev tE : Str := "signs ab\nmoods out in\ngood in\nout a in\nout b out\nin a in\nin b out"
abbrev tV : Str := "signs ab\nmoods maa mab\ngood maa\nmaa a mab\nmaa b maa\nmab a maa\nmab b mab"
abbrev tF : Str := "signs ab\nmoods maa mab mac\ngood maa mab\nmaa a mab\nmaa b maa\nmab a mac\nmab b maa\nmac a mac\nmac b mac"
abbrev tH : Str := "signs ab\nmoods maa mab\ngood mab\nmaa a mab\nmaa b maa\nmab a mab\nmab b mab"
def pE : Parts := ⟨"ab", ["out", "in"], ["in"], [["out", "a", "in"], ["out", "b", "out"], ["in", "a", "in"], ["in", "b", "out"]]⟩
def pV : Parts := ⟨"ab", ["maa", "mab"], ["maa"], [["maa", "a", "mab"], ["maa", "b", "maa"], ["mab", "a", "maa"], ["mab", "b", "mab"]]⟩
def pF : Parts := ⟨"ab", ["maa", "mab", "mac"], ["maa", "mab"], [["maa", "a", "mab"], ["maa", "b", "maa"], ["mab", "a", "mac"], ["mab", "b", "maa"], ["mac", "a", "mac"], ["mac", "b", "mac"]]⟩
def pH : Parts := ⟨"ab", ["maa", "mab"], ["mab"], [["maa", "a", "mab"], ["maa", "b", "maa"], ["mab", "a", "mab"], ["mab", "b", "mab"]]⟩
theorem parE : parseL tE = some pE := parse_is (by decide +kernel)
theorem parV : parseL tV = some pV := parse_is (by decide +kernel)
theorem parF : parseL tF = some pF := parse_is (by decide +kernel)
theorem parH : parseL tH = some pH := parse_is (by decide +kernel)
/-- a rule of this text is made -/
def spSample (C : Addr) (t : Str) (p : Parts) : Sp := fun vs H Q _ => vs = [] ∧ ∀ a H', Same H H' → H a = none → RuleAt H' C a t p → Q (.ref a) H'
def spStr (C : Addr) : Sp := fun vs H Q _ => ∃ (a : Addr) (t : Str) (p : Parts), vs = [.ref a] ∧ RuleAt H C a t p ∧ Q (.str t) H
theorem pe_cl0 {X : Cx} {k : Nat} {x : Str} {sp : Sp} {p pos : Pos} {E : XK} (h : Hv X.prog X.w X.K X.mg X.base k x [] sp) (hr : Room k X.A) (hg : Gl X x) (hx : Passes CX0 X E) (hdb : (x == ("__debug__" : Str)) = false := by decide) :
    PE X (.Call (.Name x p) [] [] pos) (tCall sp [] E tNil) := by
  obtain ⟨f, fd, F, b, g, kp⟩ := h.ex
  exact pe_call0 F hr hg g kp b .nil hx hdb
theorem made_end {H : Hp} {C x dx : Addr} {t : Str} {p : Parts} {Q : VK} (k : ∀ a H', Same H H' → H a = none → RuleAt H' C a t p → Q (.ref a) H') (nx : H x = none) (ndx : H dx = none) (ne : dx ≠ x) (zt : t.length ≤ 1000000) (ot : PyData.strOk t = true) (pt : parseL t = some p) :
    spInit C [.ref x, .str t] (upd (upd H dx (.own x)) x (.ins C dx [])) (fun v H2 => v = .non ∧ Q (.ref x) H2) E0 :=
  ⟨x, dx, t, p, rfl, upd_same, zt, ot, pt, fun H' keep r => ⟨rfl, k x H' (fun b o e => keep b o (ne_of_none e nx) (by rw [upd_ne (ne_of_none e nx), upd_ne (ne_of_none e ndx)]; exact e)) nx r⟩⟩
section
variable {P : Program} {w : World} {K : PySem.W.Frag} {mg : Str → Option Value} {base : Heap}
theorem scsEndsR : FnScope [] [] (defScope sEndsR) := ⟨rfl, rfl, rfl, by decide +kernel, rfl, by decide +kernel, by decide +kernel⟩
theorem ok_ends_rule {f fI C : Addr} {fd fdI : FuncData} {tA : Tok} (F : Fun K "ends_rule" "ends_rule" sEndsR f fd) (MI : Mk K C fI) (GI : FnOk P w K mg base CX0 5 fI fdI ["self", "text"] (spInit C)) (bI : Binds K fdI ["self", "text"] []) (gI : mg "Rule" = some (.ref C)) (gT : mg "ENDS" = some (.str tE tA)) :
    FnOk P w K mg base CX0 7 f fd [] (spSample C tE pE) := by
  refine F.ok scsEndsR (fun vs H Q E h => by rw [h.1]; rfl) (fun cdv A outer s H vs Q E hr h => ?_)
  obtain ⟨rfl, k⟩ := h
  exact ⟨_, pss_one (ps_ret (pe_make MI GI hr rfl gI bI .nil pass0 (pa_cons (pe_glob (v := .str tE) rfl gT ⟨_, rfl⟩) pa_nil))), fun x dx nx ndx ne => made_end k nx ndx ne (by decide +kernel) (by decide +kernel) parE⟩
theorem scsEvenR : FnScope [] [] (defScope sEvenR) := ⟨rfl, rfl, rfl, by decide +kernel, rfl, by decide +kernel, by decide +kernel⟩
theorem ok_even_rule {f fI C : Addr} {fd fdI : FuncData} {tA : Tok} (F : Fun K "even_rule" "even_rule" sEvenR f fd) (MI : Mk K C fI) (GI : FnOk P w K mg base CX0 5 fI fdI ["self", "text"] (spInit C)) (bI : Binds K fdI ["self", "text"] []) (gI : mg "Rule" = some (.ref C)) (gT : mg "EVEN" = some (.str tV tA)) :
    FnOk P w K mg base CX0 7 f fd [] (spSample C tV pV) := by
  refine F.ok scsEvenR (fun vs H Q E h => by rw [h.1]; rfl) (fun cdv A outer s H vs Q E hr h => ?_)
  obtain ⟨rfl, k⟩ := h
  exact ⟨_, pss_one (ps_ret (pe_make MI GI hr rfl gI bI .nil pass0 (pa_cons (pe_glob (v := .str tV) rfl gT ⟨_, rfl⟩) pa_nil))), fun x dx nx ndx ne => made_end k nx ndx ne (by decide +kernel) (by decide +kernel) parV⟩
theorem scsFreeR : FnScope [] [] (defScope sFreeR) := ⟨rfl, rfl, rfl, by decide +kernel, rfl, by decide +kernel, by decide +kernel⟩
theorem ok_free_rule {f fI C : Addr} {fd fdI : FuncData} {tA : Tok} (F : Fun K "free_rule" "free_rule" sFreeR f fd) (MI : Mk K C fI) (GI : FnOk P w K mg base CX0 5 fI fdI ["self", "text"] (spInit C)) (bI : Binds K fdI ["self", "text"] []) (gI : mg "Rule" = some (.ref C)) (gT : mg "FREE" = some (.str tF tA)) :
    FnOk P w K mg base CX0 7 f fd [] (spSample C tF pF) := by
  refine F.ok scsFreeR (fun vs H Q E h => by rw [h.1]; rfl) (fun cdv A outer s H vs Q E hr h => ?_)
  obtain ⟨rfl, k⟩ := h
  exact ⟨_, pss_one (ps_ret (pe_make MI GI hr rfl gI bI .nil pass0 (pa_cons (pe_glob (v := .str tF) rfl gT ⟨_, rfl⟩) pa_nil))), fun x dx nx ndx ne => made_end k nx ndx ne (by decide +kernel) (by decide +kernel) parF⟩
theorem scsHasR : FnScope [] [] (defScope sHasR) := ⟨rfl, rfl, rfl, by decide +kernel, rfl, by decide +kernel, by decide +kernel⟩
theorem ok_has_rule {f fI C : Addr} {fd fdI : FuncData} {tA : Tok} (F : Fun K "has_rule" "has_rule" sHasR f fd) (MI : Mk K C fI) (GI : FnOk P w K mg base CX0 5 fI fdI ["self", "text"] (spInit C)) (bI : Binds K fdI ["self", "text"] []) (gI : mg "Rule" = some (.ref C)) (gT : mg "HAS" = some (.str tH tA)) :
    FnOk P w K mg base CX0 7 f fd [] (spSample C tH pH) := by
  refine F.ok scsHasR (fun vs H Q E h => by rw [h.1]; rfl) (fun cdv A outer s H vs Q E hr h => ?_)
  obtain ⟨rfl, k⟩ := h
  exact ⟨_, pss_one (ps_ret (pe_make MI GI hr rfl gI bI .nil pass0 (pa_cons (pe_glob (v := .str tH) rfl gT ⟨_, rfl⟩) pa_nil))), fun x dx nx ndx ne => made_end k nx ndx ne (by decide +kernel) (by decide +kernel) parH⟩
abbrev sStr : Stmt := inClass sRule 6
theorem scStr : FnScope ["self"] ["self"] (defScope sStr) := ⟨rfl, rfl, rfl, by decide +kernel, rfl, by decide +kernel, by decide +kernel⟩
theorem ok_str {f C : Addr} {fd : FuncData} (F : Fun K "__str__" "Rule.__str__" sStr f fd) (T : RuC K C) (hSt : mg "str" = none) : FnOk P w K mg base CX0 1 f fd ["self"] (spStr C) := by
  refine F.ok scStr (fun vs H Q E h => ?_) (fun cdv A outer s H vs Q E hr h => ?_)
  · obtain ⟨a, t, p, rfl, _⟩ := h
    rfl
  · obtain ⟨a, t, p, rfl, hA, k⟩ := h
    obtain ⟨dx, M, G, D, e1, e2, e3, e4⟩ := id hA
    exact ⟨_, pss_one (ps_ret (pe_callTy SkE.call_str_str (by rfl) hSt (by decide +kernel) (pa_cons (pe_fld (pv 0) rfl) pa_nil))), _, rfl, a, C, dx, _, .str t, rfl, e1, T.cl, T.f1, rfl, t, rfl, k⟩
end
end My
namespace My
open PySem PySem.Spec PyProof.Rows L2 PySem.GX
/-- rows of a and b -/
def AB (cs : List Nat) : Prop := ∀ c ∈ cs, c = 97 ∨ c = 98
theorem AB.tl {c : Nat} {cs : List Nat} (h : AB (c :: cs)) : AB cs := fun d hd => h d (by simp [hd])
theorem w_snoc (p : Parts) (t : Str) (cs : List Nat) (c : Nat) : walkL p t (cs ++ [c]) = ledL p (walkL p t cs) c := by
  unfold walkL
  rw [List.foldl_append]
  rfl
theorem w_cons (p : Parts) (t : Str) (cs : List Nat) (c : Nat) : walkL p t (c :: cs) = walkL p (ledL p t c) cs := rfl
theorem str_mk (r : Str) : ∃ cs : List Nat, r = ⟨cs.toArray⟩ := ⟨r.cps.toList, str_ext (by simp)⟩
theorem cut_last (ys : List Nat) (c : Nat) : cutS ⟨(ys ++ [c]).toArray⟩ (some (-1)) none = sg c := by
  refine str_ext ?_
  unfold cutS
  have n : (⟨(ys ++ [c]).toArray⟩ : Str).length = ys.length + 1 := by
    show ((ys ++ [c]).toArray).size = _
    simp
  have e1 : HT.sIx (ys.length + 1) 0 (some (-1)) = ys.length := by
    show (if (-1 : Int) < 0 then (-1 + ((ys.length + 1 : Nat) : Int)).toNat else min (-1 : Int).toNat (ys.length + 1)) = _
    rw [if_pos (by decide)]
    omega
  have e2 : HT.sIx (ys.length + 1) (ys.length + 1) none = ys.length + 1 := rfl
  rw [n, e1, e2]
  simp
theorem ledE1 : ledL pE "out" 97 = "in" ∧ ledL pE "in" 97 = "in" ∧ ledL pE "out" 98 = "out" ∧ ledL pE "in" 98 = "out" := by decide +kernel
theorem ledV1 : ledL pV "maa" 97 = "mab" ∧ ledL pV "mab" 97 = "maa" ∧ ledL pV "maa" 98 = "maa" ∧ ledL pV "mab" 98 = "mab" := by decide +kernel
theorem ledF1 : ledL pF "maa" 97 = "mab" ∧ ledL pF "mab" 97 = "mac" ∧ ledL pF "mac" 97 = "mac" ∧ ledL pF "maa" 98 = "maa" ∧ ledL pF "mab" 98 = "maa" ∧ ledL pF "mac" 98 = "mac" := by decide +kernel
theorem ledH1 : ledL pH "maa" 97 = "mab" ∧ ledL pH "mab" 97 = "mab" ∧ ledL pH "maa" 98 = "maa" ∧ ledL pH "mab" 98 = "mab" := by decide +kernel
theorem w_ends : ∀ (cs : List Nat) (t : Str), AB cs → (t = "out" ∨ t = "in") → (walkL pE t cs = "out" ∨ walkL pE t cs = "in")
  | [], _, _, h => h
  | c :: cs, t, ha, h => by
    rw [w_cons]
    refine w_ends cs _ ha.tl ?_
    obtain ⟨l1, l2, l3, l4⟩ := ledE1
    rcases ha c (by simp) with rfl | rfl <;> rcases h with rfl | rfl
    · exact .inr l1
    · exact .inr l2
    · exact .inl l3
    · exact .inl l4
theorem g_ends (r : Str) (h : AB r.cps.toList) : decide (moodL pE r ∈ pE.gs) = decide (V.str (cutS r (some (-1)) none) = V.str "a") := by
  obtain ⟨cs, rfl⟩ := str_mk r
  have h' : AB cs := by simpa using h
  show decide (walkL pE "out" cs ∈ [("in" : Str)]) = _
  by_cases hc : cs = []
  · subst hc
    decide +kernel
  · obtain ⟨ys, c, rfl⟩ : ∃ ys c, cs = ys ++ [c] := ⟨cs.dropLast, cs.getLast hc, (List.dropLast_concat_getLast hc).symm⟩
    rw [cut_last, w_snoc]
    obtain ⟨l1, l2, l3, l4⟩ := ledE1
    have hy : AB ys := fun d hd => h' d (by simp [hd])
    rcases h' c (by simp) with rfl | rfl <;> rcases w_ends ys "out" hy (.inl rfl) with e | e <;> rw [e]
    · rw [l1]; decide +kernel
    · rw [l2]; decide +kernel
    · rw [l3]; decide +kernel
    · rw [l4]; decide +kernel
theorem w_even : ∀ cs : List Nat, AB cs → walkL pV "maa" cs = (if PyProof.Rows.cnt 97 cs % 2 = 0 then "maa" else "mab") ∧ walkL pV "mab" cs = (if PyProof.Rows.cnt 97 cs % 2 = 0 then "mab" else "maa")
  | [], _ => ⟨rfl, rfl⟩
  | c :: cs, ha => by
    obtain ⟨i1, i2⟩ := w_even cs ha.tl
    obtain ⟨l1, l2, l3, l4⟩ := ledV1
    rw [w_cons, w_cons]
    rcases ha c (by simp) with rfl | rfl
    · rw [l1, l2, i1, i2]
      constructor <;> rw [PyProof.Rows.cnt_cons, if_pos rfl] <;> by_cases e : PyProof.Rows.cnt 97 cs % 2 = 0
      · rw [if_pos e, if_neg (by omega)]
      · rw [if_neg e, if_pos (by omega)]
      · rw [if_pos e, if_neg (by omega)]
      · rw [if_neg e, if_pos (by omega)]
    · rw [l3, l4, i1, i2]
      constructor <;> rw [PyProof.Rows.cnt_cons, if_neg (show ¬ (98 : Nat) = 97 by decide), Int.zero_add]
theorem g_even (r : Str) (h : AB r.cps.toList) : decide (moodL pV r ∈ pV.gs) = decide (V.int (Txt.count r "a" % 2) = V.int 0) := by
  have e : Txt.count r "a" = PyProof.Rows.cnt 97 r.cps.toList := PyProof.Rows.count_is r 97
  rw [e]
  show decide (walkL pV "maa" r.cps.toList ∈ [("maa" : Str)]) = _
  rw [(w_even _ h).1]
  by_cases q : PyProof.Rows.cnt 97 r.cps.toList % 2 = 0
  · rw [if_pos q, q]
    decide +kernel
  · rw [if_neg q]
    have : ¬ V.int (PyProof.Rows.cnt 97 r.cps.toList % 2) = V.int 0 := fun z => q (by injection z)
    rw [decide_eq_false this]
    decide +kernel
/-- two of them stand nowhere -/
def noaa : List Nat → Bool
  | [] => true
  | a :: t => !(decide (a = 97) && decide (t.head? = some 97)) && noaa t
theorem w_free : ∀ cs : List Nat, AB cs → decide (walkL pF "maa" cs ∈ pF.gs) = noaa cs ∧ decide (walkL pF "mab" cs ∈ pF.gs) = noaa (97 :: cs) ∧ decide (walkL pF "mac" cs ∈ pF.gs) = false
  | [], _ => by decide +kernel
  | c :: cs, ha => by
    obtain ⟨i1, i2, i3⟩ := w_free cs ha.tl
    obtain ⟨l1, l2, l3, l4, l5, l6⟩ := ledF1
    rw [w_cons, w_cons, w_cons]
    rcases ha c (by simp) with rfl | rfl
    · rw [l1, l2, l3]
      refine ⟨i2, ?_, i3⟩
      rw [i3]
      simp [noaa]
    · rw [l4, l5, l6]
      refine ⟨?_, ?_, i3⟩
      · rw [i1]
        simp [noaa]
      · rw [i1]
        simp [noaa]
theorem noaa_iff : ∀ cs : List Nat, noaa cs = false ↔ ∃ i, (cs.drop i).take 2 = [97, 97]
  | [] => by simp [noaa]
  | a :: t => by
    have ih := noaa_iff t
    constructor
    · intro h
      by_cases q : noaa t = false
      · obtain ⟨i, e⟩ := ih.mp q
        exact ⟨i + 1, e⟩
      · have qt : noaa t = true := by simpa using q
        unfold noaa at h
        rw [qt, Bool.and_true] at h
        have h2 : (decide (a = 97) && decide (t.head? = some 97)) = true := by simpa using h
        rw [Bool.and_eq_true_iff] at h2
        have ea := of_decide_eq_true h2.1
        have et := of_decide_eq_true h2.2
        refine ⟨0, ?_⟩
        match t, et with
        | b :: u, et =>
          have : b = 97 := by simpa using et
          rw [ea, this]
          rfl
    · rintro ⟨i, e⟩
      match i with
      | 0 =>
        match t, e with
        | [], e => simp at e
        | b :: u, e =>
          have : a = 97 ∧ b = 97 := by simpa using e
          simp [noaa, this.1, this.2]
      | i + 1 =>
        have : noaa t = false := ih.mpr ⟨i, e⟩
        simp [noaa, this]
theorem g_free (r : Str) (h : AB r.cps.toList) : decide (moodL pF r ∈ pF.gs) = !(!(Builtin.Str.occurrences r "aa" 0 r.length 1).isEmpty) := by
  have e : decide (moodL pF r ∈ pF.gs) = noaa r.cps.toList := (w_free _ h).1
  rw [e]
  have f : (!(Builtin.Str.occurrences r "aa" 0 r.length 1).isEmpty) = true ↔ noaa r.cps.toList = false := by
    rw [StrLaws.found_iff, noaa_iff]
    have l2 : ("aa" : Str).length = 2 := rfl
    constructor
    · rintro ⟨i, h1, h2⟩
      rw [StrLaws.subAt_eq] at h2
      have h3 : ((r.cps.toList.drop i).take 2 == [97, 97]) = true := h2
      exact ⟨i, by simpa using h3⟩
    · rintro ⟨i, h1⟩
      refine ⟨i, ?_, ?_⟩
      · have := congrArg List.length h1
        rw [List.length_take, List.length_drop, Array.length_toList] at this
        rw [l2]
        show i + 2 ≤ r.cps.size
        simp at this
        omega
      · rw [StrLaws.subAt_eq]
        show ((r.cps.toList.drop i).take 2 == [97, 97]) = true
        rw [h1]
        rfl
  cases hn : noaa r.cps.toList with
  | true =>
    cases hf : (Builtin.Str.occurrences r "aa" 0 r.length 1).isEmpty with
    | true => rfl
    | false =>
      have := f.mp (by rw [hf]; rfl)
      rw [hn] at this
      cases this
  | false =>
    rw [f.mpr hn]
    rfl
theorem w_has : ∀ cs : List Nat, AB cs → decide (walkL pH "maa" cs ∈ pH.gs) = decide (97 ∈ cs) ∧ decide (walkL pH "mab" cs ∈ pH.gs) = true
  | [], _ => by decide +kernel
  | c :: cs, ha => by
    obtain ⟨i1, i2⟩ := w_has cs ha.tl
    obtain ⟨l1, l2, l3, l4⟩ := ledH1
    rw [w_cons, w_cons]
    rcases ha c (by simp) with rfl | rfl
    · rw [l1, l2]
      exact ⟨by rw [i2]; simp, i2⟩
    · rw [l3, l4]
      exact ⟨by rw [i1]; simp, i2⟩
theorem g_has (r : Str) (h : AB r.cps.toList) : decide (moodL pH r ∈ pH.gs) = decide (97 ∈ r.cps.toList) := (w_has _ h).1
end My
namespace My
open PySem PySem.Spec PyProof.Rows L2 PySem.GX
theorem if_false_of {c : Bool} {A B : Prop} (hc : c = false) (h : B) : if c = true then A else B := by
  rw [hc, if_neg Bool.false_ne_true]
  exact h
theorem row_is {x r : Str} (h1 : r.length ≤ 1000) (h2 : ∀ c ∈ r.cps.toList, c ∈ x.cps.toList) : isRowL x r = true := by
  unfold isRowL
  rw [decide_eq_true h1, Bool.true_and]
  exact List.all_eq_true.mpr fun c hc => decide_eq_true (h2 c hc)
theorem RuleAt.sb {H H' : Hp} {p C a : Addr} {t : Str} {pp : Parts} (h : RuleAt H C a t pp) (w : Wl H p) (s : Sb p H H') : RuleAt H' C a t pp := by
  obtain ⟨dx, M, G, D, e1, e2, e3, e4⟩ := h
  exact ⟨dx, M, G, D, s _ _ (w.ne e1 fun a b c z => by cases z) e1, s _ _ (w.ne e2 fun a b c z => by cases z) e2, s _ _ (w.ne e3 fun a b c z => by cases z) e3, s _ _ (w.ne e4 fun a b c z => by cases z) e4⟩
theorem PE_imp {X : Cx} {e : Expr} {t t' : TE} (h : PE X e t) (m : ∀ σ H Q, t' σ H Q → t σ H Q) : PE X e t' := ⟨fun pins s σ H Q I q => h.run pins s σ H Q I (m σ H Q q)⟩
def tLet : TE := fun σ H Q => (∃ v0 i v2 v3, σ = [v0, some (.int i), v2, v3]) ∧ ∀ x : Str, (x = "aab" ∨ x = "abb") → Q (.str x) H
def dBl (bs : List Bool) : PyData := .list (bs.map .bool)
theorem eqv_4 (a b c d : Bool) : PyData.eqv (dBl [a, b, c, d]) (dBl [a, b, c, d]) = true := by
  cases a <;> cases b <;> cases c <;> cases d <;> decide
theorem shaped_4 (a b c d : Bool) : SeqAt.shaped (dBl [a, b, c, d]) = true := by
  cases a <;> cases b <;> cases c <;> cases d <;> decide
def spRight : Sp := fun vs H Q _ => ∃ p : Addr, vs = [.ref p] ∧ Wl H p ∧ ∀ H' : Hp, Sb p H H' → Q (.bl true) H'
/-- what stands around -/
structure Rt (P : Program) (w : World) (K : PySem.W.Frag) (mg : Str → Option Value) (base : Heap) (C : Addr) : Prop where
  T : RuC K C
  ln : Hv P w K mg base 3 "_law_line" ["_law_well_here", "_law_letters", "_law_size"] spLine
  has : HvM P w K mg base 4 C "has" ["self", "row"] (spHas C)
  sE : Hv P w K mg base 7 "ends_rule" [] (spSample C tE pE)
  sV : Hv P w K mg base 7 "even_rule" [] (spSample C tV pV)
  sF : Hv P w K mg base 7 "free_rule" [] (spSample C tF pF)
  sH : Hv P w K mg base 7 "has_rule" [] (spSample C tH pH)
  hRa : mg "range" = none
  hI : mg "int" = none
abbrev nRight : List Str := ["_law_well_here", "_law_turn", "_law_line_here", "_law_told"]
theorem scRight : FnScope nRight ["_law_well_here"] (defScope sRight) := ⟨rfl, rfl, rfl, by decide +kernel, rfl, by decide +kernel, by decide +kernel⟩
section
variable {P : Program} {w : World} {K : PySem.W.Frag} {mg : Str → Option Value} {base : Heap} {C : Addr}
theorem ok_right {f : Addr} {fd : FuncData} (F : Fun K "_law_right" "_law_right" sRight f fd) (R : Rt P w K mg base C) : FnOk P w K mg base CX0 8 f fd ["_law_well_here"] spRight := by
  refine F.ok scRight (fun vs H Q E h => ?_) (fun cdv A outer s H vs Q E hr h => ?_)
  · obtain ⟨p, rfl, _⟩ := h
    rfl
  · obtain ⟨p, rfl, hW, k⟩ := h
    have hr3 : Room 3 (A.deeper (envOfC "_law_right" (defScope sRight) s.heap.objs.size f cdv)) := hr.mono (by decide)
    have hr4 : Room 4 (A.deeper (envOfC "_law_right" (defScope sRight) s.heap.objs.size f cdv)) := hr.mono (by decide)
    refine ⟨_, pss_cons (ps_for PassesOwn.never rfl (pi_range1 rfl R.hRa (pa_cons pe_int pa_nil)) (pg_name (i := 1) scRight.nd rfl (Or.inl rfl))
        (pss_cons (ps_set (i := 2) scRight.nd rfl (Or.inl rfl) (pe_cl R.ln hr3 rfl pass0 (pa_cons (pv 0) (pa_cons (PE_imp (t' := tLet) (pe_ifExp (pt_cmpR op_eq (pe_op op_mod (pv 1) pe_int) pe_int (nomark _)) pe_str pe_str) (fun σ H Q ⟨⟨v0, i, v2, v3, e⟩, q⟩ => by subst e; exact ⟨_, rfl, _, _, rfl, rfl, by show (0 : Int) < 2; decide, rfl, _, rfl, ite2 (fun _ => q _ (.inl rfl)) (fun _ => q _ (.inr rfl))⟩)) (pa_cons pe_int pa_nil)))))
        (pss_cons (ps_set (i := 3) scRight.nd rfl (Or.inl rfl) (pe_lst (pa_cons (pe_mt R.has (pe_cl0 R.sE hr rfl pass0) R.T.cl hr4 pass0 (pa_cons (pv 2) pa_nil)) (pa_cons (pe_mt R.has (pe_cl0 R.sV hr rfl pass0) R.T.cl hr4 pass0 (pa_cons (pv 2) pa_nil))
            (pa_cons (pe_mt R.has (pe_cl0 R.sF hr rfl pass0) R.T.cl hr4 pass0 (pa_cons (pv 2) pa_nil)) (pa_cons (pe_mt R.has (pe_cl0 R.sH hr rfl pass0) R.T.cl hr4 pass0 (pa_cons (pv 2) pa_nil)) pa_nil))))))
        (pss_one (ps_if (pt_cmpR (op_neD hr.units) (pv 3) (pe_lst (pa_cons (pe_cmpR op_eq (pe_slice sl_str (pv 2) (po_some (pe_un un_neg pe_int)) po_none) pe_str (nomark _))
            (pa_cons (pe_cmpR op_eq (pe_op op_mod (pe_callTy call_int1 (by rfl) R.hI (by decide +kernel) (pa_cons (pe_m1 PySem.F.slot_str_count PySem.F.type_str_count mt_count (pv 2) pe_str) pa_nil)) pe_int) pe_int (nomark _))
            (pa_cons (pe_cmpR op_notIn_str pe_str (pv 2) (by rfl)) (pa_cons (pe_cmpR op_in_sign pe_str (pv 2) (by rfl)) pa_nil))))) (nomark _)) (pss_one (ps_ret pe_bl)) pss_nil)))))
      (pss_one (ps_ret pe_bl)), ?_⟩
    refine ⟨12, rfl, by decide, by decide, for_range (n := 12) (fun i σ H' => (∃ v1 v2 v3, σ = [some (.ref p), v1, v2, v3]) ∧ Sb p H H' ∧ Wl H' p) ⟨⟨_, _, _, rfl⟩, Sb.refl _ _, hW⟩ (fun i σ H1 hi h => ?_) (fun σ H1 h => ?_)⟩
    · obtain ⟨⟨v1, v2, v3, rfl⟩, sb1, hW1⟩ := h
      refine ⟨_, rfl, ⟨_, _, _, _, rfl⟩, fun x hx => ?_⟩
      have hxl : x.length = 3 ∧ AB x.cps.toList := by
        rcases hx with rfl | rfl
        · refine ⟨rfl, ?_⟩
          unfold AB
          decide +kernel
        · refine ⟨rfl, ?_⟩
          unfold AB
          decide +kernel
      refine ⟨p, x, 30, rfl, hW1, by omega, by omega, by decide, fun r H2 lr inr sb2 hW2 => ?_⟩
      have ab : AB r.cps.toList := fun c hc => hxl.2 c (inr c hc)
      have rrow : isRowL "ab" r = true := row_is (by omega) fun c hc => by
        rcases ab c hc with rfl | rfl <;> decide +kernel
      refine ⟨rfl, fun a1 H3 s3 n3 r3 => ?_⟩
      obtain ⟨d1, M1, G1, D1, q1, _, _, _⟩ := id r3
      refine ⟨a1, d1, _, rfl, q1, rfl, _, rfl, a1, r, _, _, rfl, r3, parts_ok parE, rrow, fun H4 s4 => ?_⟩
      refine ⟨rfl, fun a2 H5 s5 n5 r5 => ?_⟩
      obtain ⟨d2, M2, G2, D2, q2, _, _, _⟩ := id r5
      refine ⟨a2, d2, _, rfl, q2, rfl, _, rfl, a2, r, _, _, rfl, r5, parts_ok parV, rrow, fun H6 s6 => ?_⟩
      refine ⟨rfl, fun a3 H7 s7 n7 r7 => ?_⟩
      obtain ⟨d3, M3, G3, D3, q3, _, _, _⟩ := id r7
      refine ⟨a3, d3, _, rfl, q3, rfl, _, rfl, a3, r, _, _, rfl, r7, parts_ok parF, rrow, fun H8 s8 => ?_⟩
      refine ⟨rfl, fun a4 H9 s9 n9 r9 => ?_⟩
      obtain ⟨d4, M4, G4, D4, q4, _, _, _⟩ := id r9
      refine ⟨a4, d4, _, rfl, q4, rfl, _, rfl, a4, r, _, _, rfl, r9, parts_ok parH, rrow, fun HA sA => ?_⟩
      refine ⟨by show 4 ≤ sizeLine; decide, fun l1 h1 => ?_⟩
      refine ⟨_, rfl, _, rfl, _, rfl, _, rfl, r, rfl, by rw [sizeLine_eq]; omega, rfl, ?_⟩
      refine ⟨_, rfl, ⟨_, rfl⟩, r, _, rfl, rfl, .inl ⟨_, rfl, _, _, rfl, rfl, by show (0 : Int) < 2; decide, rfl, ?_⟩⟩
      refine ⟨_, rfl, _, _, rfl, rfl, ?_⟩
      refine ⟨_, rfl, 97, r, rfl, rfl, by show 4 ≤ sizeLine; decide, fun l2 h2 => ?_⟩
      have sAll := ((((((s3.trans s4).trans s5).trans s6).trans s7).trans s8).trans s9).trans sA
      have e1 := g_ends r ab
      have e2 := g_even r ab
      have e3 := g_free r ab
      have e4 := g_has r ab
      refine ⟨dBl [decide (moodL pE r ∈ pE.gs), decide (moodL pV r ∈ pV.gs), decide (moodL pF r ∈ pF.gs), decide (moodL pH r ∈ pH.gs)], dBl [decide (moodL pE r ∈ pE.gs), decide (moodL pV r ∈ pV.gs), decide (moodL pF r ∈ pF.gs), decide (moodL pH r ∈ pH.gs)],
        .lst (SqL.of (keep1 upd_same h2)) (.cons (.bl _) (.cons (.bl _) (.cons (.bl _) (.cons (.bl _) .nil)))), .lst (SqL.of (xs := [.bl _, .bl _, .bl _, .bl _]) (by rw [upd_same, e1, e2, e3, e4])) (.cons (.bl _) (.cons (.bl _) (.cons (.bl _) (.cons (.bl _) .nil)))), shaped_4 _ _ _ _, shaped_4 _ _ _ _, _, rfl, ?_⟩
      rw [eqv_4]
      refine iteF ?_
      exact ⟨⟨_, _, _, rfl⟩, (sb1.trans sb2).trans (Sb.of ((sAll.trans (same_new h1)).trans (same_new h2))), hW2.same ((sAll.trans (same_new h1)).trans (same_new h2))⟩
    · obtain ⟨⟨v1, v2, v3, rfl⟩, sb1, hW1⟩ := h
      exact k _ sb1
end
end My
namespace My
open PySem PySem.Spec PyProof.Rows L2 PySem.GX
abbrev NL : List Str := ["_law_script", "_law_due", "_law_last", "_law_each", "_law_turn"]
def spLaw (K : PySem.W.Frag) : Sp := fun vs H Q _ => ∃ (a : Addr) (ns : List Int), vs = [.ref a] ∧ SqL K H a (ns.map V.int) ∧ ns.length ≤ 63 ∧ ∀ H', Q (.bl true) H'
theorem all_rep (n : Nat) : (List.replicate n true).all id = true := by
  induction n with
  | zero => rfl
  | succ n ih => rw [List.replicate_succ, List.all_cons, ih]; rfl
theorem rep_snoc {α : Type} (n : Nat) (x : α) : List.replicate n x ++ [x] = List.replicate (n + 1) x := by
  rw [List.replicate_succ']
theorem sq_same {K : PySem.W.Frag} {H H' : Hp} {a : Addr} {xs : List V} (s : Same H H') (h : SqL K H a xs) : SqL K H' a xs := by
  rcases h with (h | ⟨o, h⟩) | h
  · exact .inl (.inl (s _ _ h))
  · exact .inl (.inr ⟨o, s _ _ h⟩)
  · exact .inr h
theorem tF_is : (("signs ab\nmoods maa mab mac\ngood maa mab\n" : Str) ++ ("maa a mab\nmaa b maa\nmab a mac\nmab b maa\nmac a mac\nmac b mac" : Str)) = tF := by decide +kernel
theorem ok_texts : ∀ x ∈ [tE, tV, tF, tH], PyData.strOk x = true := by decide +kernel
section
variable {P : Program} {w : World} {K : PySem.W.Frag} {mg : Str → Option Value} {base : Heap} {C : Addr}
theorem scL : FnScope NL ["_law_script"] (defScope sLaw) := ⟨rfl, rfl, rfl, by decide +kernel, rfl, by decide +kernel, by decide +kernel⟩
theorem ok_law {f fW fR fS : Addr} {fd fdW fdR fdS : FuncData} (F : Fun K "law" "law" sLaw f fd) (hAll : mg "all" = none) (hRange : mg "range" = none) (hMax : mg "max" = none) (hMin : mg "min" = none) (hL : mg "len" = none) (hSt : mg "str" = none)
    (GW : FnOk P w K mg base CX0 1 fW fdW ["_law_script", "_law_turn"] (spWell K)) (bW : Binds K fdW ["_law_script", "_law_turn"] []) (gW : mg "_law_well" = some (.ref fW)) (kW : PySem.W.keepIn K (.ref fW) = true)
    (GR : FnOk P w K mg base CX0 8 fR fdR ["_law_well_here"] spRight) (bR : Binds K fdR ["_law_well_here"] []) (gR : mg "_law_right" = some (.ref fR)) (kR : PySem.W.keepIn K (.ref fR) = true)
    (GS : FnOk P w K mg base CX0 1 fS fdS ["self"] (spStr C)) (bS : Binds K fdS ["self"] []) (mS : Meth K C "__str__" fS) (R : Rt P w K mg base C) :
    FnOk P w K mg base CX0 9 f fd ["_law_script"] (spLaw K) := by
  refine F.ok scL (fun vs H Q E h => ?_) (fun cdv A outer s H vs Q E hr h => ?_)
  · obtain ⟨a, ns, rfl, _⟩ := h
    rfl
  · obtain ⟨a, ns, rfl, hS, hl, k⟩ := h
    have hr1 : Room 1 (A.deeper (envOfC "law" (defScope sLaw) s.heap.objs.size f cdv)) := hr.mono (by decide)
    have hr3 : Room (1 + 2) (A.deeper (envOfC "law" (defScope sLaw) s.heap.objs.size f cdv)) := hr.mono (by decide)
    have hr7 : Room 7 (A.deeper (envOfC "law" (defScope sLaw) s.heap.objs.size f cdv)) := hr.mono (by decide)
    refine ⟨_, pss_cons (ps_set (i := 1) scL.nd rfl (Or.inl rfl) (pe_lst (pa_cons pe_str pa_nil)))
      (pss_cons (ps_expr (pe_bm PySem.F.plainAttrs_list PySem.F.slot_list_append PySem.F.type_list_append mt_append (pv 1) (pa_cons pe_str pa_nil)))
      (pss_cons (ps_set (i := 2) scL.nd rfl (Or.inl rfl) pe_str)
      (pss_cons (ps_expr (pe_bm PySem.F.plainAttrs_list PySem.F.slot_list_append PySem.F.type_list_append mt_append (pv 1) (pa_cons (pe_op op_add_str pe_str (pv 2)) pa_nil)))
      (pss_cons (ps_expr (pe_bm PySem.F.plainAttrs_list PySem.F.slot_list_append PySem.F.type_list_append mt_append (pv 1) (pa_cons pe_str pa_nil)))
      (pss_cons (ps_if (pt_cmpR (op_neD hr.units) (pe_lc (own := [("_law_each", 3)]) (g := gName 3) (tt := tYes) (te := tCB (rStrO C (spStr C)) (tCons (tVar 3) tNil)) rfl scL.nd
            (pi_list (pe_lst (pa_cons (pe_cl0 R.sE hr7 rfl pass0) (pa_cons (pe_cl0 R.sV hr7 rfl pass0) (pa_cons (pe_cl0 R.sF hr7 rfl pass0) (pa_cons (pe_cl0 R.sH hr7 rfl pass0) pa_nil))))))
            (blkOk_by (N := NL) (sc := defScope sLaw) (by decide +kernel)) (fun _ _ _ _ _ => pg_name (i := 3) scL.nd rfl (Or.inl rfl)) (fun _ _ _ _ _ => pts_nil)
            (fun _ _ _ _ _ => pe_callTy (cr_strO GS hr3 bS mS) (by rfl) hSt (by decide +kernel) (pa_cons (pv 3) pa_nil))) (pv 1) (nomark _)) (pss_one (ps_ret pe_bl)) pss_nil)
      (pss_one (ps_ret (pe_callB (cr_all rfl) (by rfl) hAll (by decide +kernel) (pa_cons
        (pe_lc (own := [("_law_turn", 4)]) (g := gName 4) (tt := tYes) (te := tCall spRight [] E0 (tCons (tCall (spWell K) [] E0 (tCons (tVar 0) (tCons (tVar 4) tNil))) tNil)) rfl scL.nd
          (pi_range1 rfl hRange (pa_cons (pe_callB (call_max2 rfl) (by rfl) hMax (by decide +kernel) (pa_cons pe_int (pa_cons (pe_callB (call_min2 rfl) (by rfl) hMin (by decide +kernel) (pa_cons (pe_callB call_len_seq (by rfl) hL PySem.boot_len (pa_cons (pv 0) pa_nil)) (pa_cons pe_int pa_nil))) pa_nil))) pa_nil))
          (blkOk_by (N := NL) (sc := defScope sLaw) (by decide +kernel)) (fun _ _ _ _ _ => pg_name (i := 4) scL.nd rfl (Or.inl rfl)) (fun _ _ _ _ _ => pts_nil)
          (fun _ _ _ _ _ => pe_call GR hr rfl gR kR bR .nil pass0 (pa_cons (pe_call GW hr1 rfl gW kW bW .nil pass0 (pa_cons (pv 0) (pa_cons (pv 4) pa_nil))) pa_nil))) pa_nil))))))))), ?_⟩
    refine ⟨by show 1 ≤ sizeLine; decide, fun l1 h1 => ?_⟩
    have u1 : upd H l1 (.lst [.str tE]) l1 = some (.lst [.str tE]) := upd_same
    refine ⟨_, rfl, .inl ⟨rfl, _, SqL.of u1⟩, l1, _, _, rfl, rfl, u1, by show 1 < sizeLine; decide, ?_⟩
    rw [upd_upd]
    have u2 : upd H l1 (.lst ([.str tE] ++ [.str tV])) l1 = some (.lst ([.str tE] ++ [.str tV])) := upd_same
    refine ⟨_, rfl, .inl ⟨rfl, _, SqL.of u2⟩, _, rfl, _, _, rfl, rfl, by decide +kernel, l1, _, _, rfl, rfl, u2, by show 2 < sizeLine; decide, ?_⟩
    rw [upd_upd, tF_is]
    have u3 : upd H l1 (.lst (([.str tE] ++ [.str tV]) ++ [.str tF])) l1 = some (.lst (([.str tE] ++ [.str tV]) ++ [.str tF])) := upd_same
    refine ⟨_, rfl, .inl ⟨rfl, _, SqL.of u3⟩, l1, _, _, rfl, rfl, u3, by show 3 < sizeLine; decide, ?_⟩
    rw [upd_upd]
    have u4 : upd H l1 (.lst ((([.str tE] ++ [.str tV]) ++ [.str tF]) ++ [.str tH])) l1 = some (.lst ([tE, tV, tF, tH].map V.str)) := upd_same
    have s1 : Same H (upd H l1 (.lst ((([.str tE] ++ [.str tV]) ++ [.str tF]) ++ [.str tH]))) := same_new h1
    generalize upd H l1 (.lst ((([.str tE] ++ [.str tV]) ++ [.str tF]) ++ [.str tH])) = H1 at u4 s1 ⊢
    clear u1 u2 u3
    refine ⟨rfl, fun a1 H3 s3 n3 r3 => ⟨rfl, fun a2 H5 s5 n5 r5 => ⟨rfl, fun a3 H7 s7 n7 r7 => ⟨rfl, fun a4 H9 s9 n9 r9 => ?_⟩⟩⟩⟩
    refine ⟨by show 4 ≤ sizeLine; decide, fun l2 h2 => ?_⟩
    have e2 : upd H9 l2 (.lst [.ref a1, .ref a2, .ref a3, .ref a4]) l2 = some (.lst ([(a1, tE), (a2, tV), (a3, tF), (a4, tH)].map fun q : Addr × Str => V.ref q.1)) := upd_same
    have rs : ∀ q ∈ [(a1, tE), (a2, tV), (a3, tF), (a4, tH)], ∃ pp, RuleAt (upd H9 l2 (.lst [.ref a1, .ref a2, .ref a3, .ref a4])) C q.1 q.2 pp := fun q hq => by
      simp only [List.mem_cons, List.not_mem_nil, or_false] at hq
      rcases hq with rfl | rfl | rfl | rfl
      · exact ⟨_, ((((r3.same s5).same s7).same s9).same (same_new h2))⟩
      · exact ⟨_, (((r5.same s7).same s9).same (same_new h2))⟩
      · exact ⟨_, ((r7.same s9).same (same_new h2))⟩
      · exact ⟨_, (r9.same (same_new h2))⟩
    have s2 : Same H1 (upd H9 l2 (.lst [.ref a1, .ref a2, .ref a3, .ref a4])) := (((s3.trans s5).trans s7).trans s9).trans (same_new h2)
    generalize upd H9 l2 (.lst [.ref a1, .ref a2, .ref a3, .ref a4]) = H2 at e2 rs s2 ⊢
    refine ⟨l2, rfl, ⟨_, SqL.of e2⟩, fun D hD => ?_⟩
    refine lcG [(a1, tE), (a2, tV), (a3, tF), (a4, tH)] (fun q : Addr × Str => some (.str q.2)) (walk_listL [(a1, tE), (a2, tV), (a3, tF), (a4, tH)] (fun q : Addr × Str => V.ref q.1)) (by show 4 ≤ 16000000; decide) hD (yat_same _) (fun H' s => SqL.of (s _ _ e2)) (fun i z u H' H'' k1 hz s4 hy k2 => ?_) (fun HO sO eO => ?_)
    · obtain ⟨rfl, hy⟩ := hy
      obtain rfl := map_get hz hy
      obtain ⟨pp, hR⟩ := rs z (List.mem_of_getElem? hz)
      have hR' := hR.same s4
      obtain ⟨dx, M, G, D', e1, _, _, _⟩ := id hR'
      exact ⟨rfl, _, rfl, z.1, dx, _, rfl, e1, z.1, z.2, pp, rfl, hR', z.2, rfl, k2 _ (Same.refl _)⟩
    · have eO' : HO D = some (.lst ([tE, tV, tF, tH].map V.str)) := eO
      have uO := sO _ _ (s2 _ _ u4)
      refine ⟨_, rfl, _, _, dp_dTx eO', dp_dTx uO, shaped_dTx ok_texts, shaped_dTx ok_texts, _, rfl, ?_⟩
      rw [eqv_dTx]
      refine if_false_of (by simp) ?_
      have hS' := sq_same ((s1.trans s2).trans sO) hS
      clear uO eO eO' sO hD e2 rs s2 s1 u4
      generalize HO = H at hS'
      refine ⟨_, rfl, a, _, rfl, .inl hS', _, _, rfl, _, _, rfl, _, rfl, ?_, ?_, fun D hD => ?_⟩
      · rw [List.length_map]
        split <;> split <;> omega
      · rw [List.length_map]
        split <;> split <;> omega
      · rw [List.length_map] at *
        generalize hn : (if (if (4 : Int) < (ns.length : Int) then (4 : Int) else (ns.length : Int)) > 2 then (if (4 : Int) < (ns.length : Int) then (4 : Int) else (ns.length : Int)) else 2) = n
        have n1 : 0 ≤ n ∧ n ≤ 4 := by
          rw [← hn]
          constructor <;> split <;> split <;> omega
        refine lc_range (lo := 0) (n := n.toNat) (fun j H' => Same H H' ∧ H' D = some (.lst (List.replicate j (V.bl true)))) ⟨same_new hD, upd_same⟩ (fun j H' hj ⟨sH, eD⟩ => ?_) (fun H' ⟨sH, eD⟩ => ?_)
        · refine ⟨rfl, ?_⟩
          refine ⟨_, rfl, _, rfl, a, ns, _, rfl, sq_same sH hS', (by omega), (by omega), fun p H1 s1 np hW => ?_⟩
          refine ⟨p, rfl, hW, fun H2 s2 => ?_⟩
          have dp : D ≠ p := ne_of_none eD np
          have eD2 : H2 D = some (.lst (List.replicate j (V.bl true))) := s2 D _ dp (s1 _ _ eD)
          refine ⟨_, eD2, ?_, fun b o e => ?_, ?_⟩
          · rw [List.length_replicate]
            exact small1000 (by omega)
          · rw [upd_ne (ne_of_none e hD)]
            have z0 := sH _ _ e
            exact s2 b o (ne_of_none z0 np) (s1 _ _ z0)
          · rw [upd_same, rep_snoc]
        · refine ⟨D, List.replicate n.toNat true, rfl, SqL.of (by rw [List.map_replicate]; exact eD), ?_⟩
          rw [all_rep]
          exact k H'
end
end My
namespace My
open PySem PySem.Spec PyProof.Rows L2 PySem.GX
theorem FnG_of {P : Program} {w : World} {K : PySem.W.Frag} {mg : Str → Option Value} {base : Heap} {CX : CXT} {k : Nat} {f : Addr} {fd : FuncData} {ps : List Str} {sp : Sp} (F : FnOk P w K mg base CX k f fd ps sp) : FnG P w K mg base CX k f fd ps sp :=
  ⟨F.len, fun A outer s H args us vs Q E _ => F.run A outer s H args us vs Q E⟩
def frees : List Str := ["int", "len", "abs", "isinstance", "repr", "all", "range", "max", "min", "ValueError", "LookupError", "ArithmeticError", "str", "set", "sorted", "list", "tuple"]
def chkF (K : PySem.W.Frag) : Bool := frees.all fun x => PySem.W.nsIn K mainGlobals x == some none
theorem free_of {K : PySem.W.Frag} {h : Heap} {mg : Str → Option Value} (X : K.In h) (G : h.Ns mainGlobals mg) (q : chkF K = true) {x : Str} (hx : x ∈ frees) : mg x = none := by
  unfold chkF at q
  exact PySem.W.mg_none_of X G (beq_iff_eq.mp (List.all_eq_true.mp q x hx))
section
variable {l : PySem.W.OpenLaw} {w : World} {K : PySem.W.Frag} {h : Heap} {mg : Str → Option Value}
theorem all_mk {fa : Addr} {CU tT gol gro giw gas gam gag grg grr gse gsv gsf gsh glw gld glp gln glg gll gri grm grh grs : Addr} {odol anol odro anro odiw aniw odas anas odam anam odag anag odrg anrg odrr anrr odse anse odsv ansv odsf ansf odsh ansh odlw anlw odld anld odlp anlp odln anln odlg anlg odll anll odri anri odrm anrm odrh anrh odrs anrs : Option Addr} {slol slro sliw slas slam slag slrg slrr slse slsv slsf slsh sllw slld sllp slln sllg slll slri slrm slrh slrs slT : Array (Option Value)} {ocol kVol dcol pmol ctol cdol ocro kVro dcro pmro ctro cdro ociw kViw dciw pmiw ctiw cdiw ocas kVas dcas pmas ctas cdas ocam kVam dcam pmam ctam cdam ocag kVag dcag pmag ctag cdag ocrg kVrg dcrg pmrg ctrg cdrg ocrr kVrr dcrr pmrr ctrr cdrr ocse kVse dcse pmse ctse cdse ocsv kVsv dcsv pmsv ctsv cdsv ocsf kVsf dcsf pmsf ctsf cdsf ocsh kVsh dcsh pmsh ctsh cdsh oclw kVlw dclw pmlw ctlw cdlw ocld kVld dcld pmld ctld cdld oclp kVlp dclp pmlp ctlp cdlp ocln kVln dcln pmln ctln cdln oclg kVlg dclg pmlg ctlg cdlg ocll kVll dcll pmll ctll cdll ocri kVri dcri pmri ctri cdri ocrm kVrm dcrm pmrm ctrm cdrm ocrh kVrh dcrh pmrh ctrh cdrh ocrs kVrs dcrs pmrs ctrs cdrs : Value} {tk0 tk1 tk2 tk3 tk4 tk5 tk6 tk7 tk8 u0 u1 u2 : Tok} {nT : Nat} (X : K.In h) (G : h.Ns mainGlobals mg) (hfa : mg "law" = some (.ref fa))
    (acCU : PySem.W.nsIn K mainGlobals "Rule" = some (some (.ref CU)))
    (agol : PySem.W.nsIn K mainGlobals "made_of" = some (some (.ref gol)))
    (lgol : K.lookup gol = some ⟨ocol, odol, .func (PySem.W.fnOf "made_of" "made_of" (defArgs sMade) (defBody sMade) (defScope sMade) .none kVol dcol pmol anol cdol ctol), slol⟩)
    (cgol : PySem.W.codeIn K cdol "made_of" = true)
    (kgol : PySem.W.keepIn K (.ref gol) = true)
    (agro : PySem.W.nsIn K mainGlobals "is_row_of" = some (some (.ref gro)))
    (lgro : K.lookup gro = some ⟨ocro, odro, .func (PySem.W.fnOf "is_row_of" "is_row_of" (defArgs sRowOf) (defBody sRowOf) (defScope sRowOf) .none kVro dcro pmro anro cdro ctro), slro⟩)
    (cgro : PySem.W.codeIn K cdro "is_row_of" = true)
    (kgro : PySem.W.keepIn K (.ref gro) = true)
    (agiw : PySem.W.nsIn K mainGlobals "is_word" = some (some (.ref giw)))
    (lgiw : K.lookup giw = some ⟨ociw, odiw, .func (PySem.W.fnOf "is_word" "is_word" (defArgs sWord) (defBody sWord) (defScope sWord) .none kViw dciw pmiw aniw cdiw ctiw), sliw⟩)
    (cgiw : PySem.W.codeIn K cdiw "is_word" = true)
    (kgiw : PySem.W.keepIn K (.ref giw) = true)
    (agas : PySem.W.nsIn K mainGlobals "are_signs" = some (some (.ref gas)))
    (lgas : K.lookup gas = some ⟨ocas, odas, .func (PySem.W.fnOf "are_signs" "are_signs" (defArgs sSigns) (defBody sSigns) (defScope sSigns) .none kVas dcas pmas anas cdas ctas), slas⟩)
    (cgas : PySem.W.codeIn K cdas "are_signs" = true)
    (kgas : PySem.W.keepIn K (.ref gas) = true)
    (agam : PySem.W.nsIn K mainGlobals "are_moods" = some (some (.ref gam)))
    (lgam : K.lookup gam = some ⟨ocam, odam, .func (PySem.W.fnOf "are_moods" "are_moods" (defArgs sMoods) (defBody sMoods) (defScope sMoods) .none kVam dcam pmam anam cdam ctam), slam⟩)
    (cgam : PySem.W.codeIn K cdam "are_moods" = true)
    (kgam : PySem.W.keepIn K (.ref gam) = true)
    (agag : PySem.W.nsIn K mainGlobals "are_good" = some (some (.ref gag)))
    (lgag : K.lookup gag = some ⟨ocag, odag, .func (PySem.W.fnOf "are_good" "are_good" (defArgs sGood) (defBody sGood) (defScope sGood) .none kVag dcag pmag anag cdag ctag), slag⟩)
    (cgag : PySem.W.codeIn K cdag "are_good" = true)
    (kgag : PySem.W.keepIn K (.ref gag) = true)
    (agrg : PySem.W.nsIn K mainGlobals "read_goals" = some (some (.ref grg)))
    (lgrg : K.lookup grg = some ⟨ocrg, odrg, .func (PySem.W.fnOf "read_goals" "read_goals" (defArgs sGoals) (defBody sGoals) (defScope sGoals) .none kVrg dcrg pmrg anrg cdrg ctrg), slrg⟩)
    (cgrg : PySem.W.codeIn K cdrg "read_goals" = true)
    (kgrg : PySem.W.keepIn K (.ref grg) = true)
    (agrr : PySem.W.nsIn K mainGlobals "read_rule" = some (some (.ref grr)))
    (lgrr : K.lookup grr = some ⟨ocrr, odrr, .func (PySem.W.fnOf "read_rule" "read_rule" (defArgs sRead) (defBody sRead) (defScope sRead) .none kVrr dcrr pmrr anrr cdrr ctrr), slrr⟩)
    (cgrr : PySem.W.codeIn K cdrr "read_rule" = true)
    (kgrr : PySem.W.keepIn K (.ref grr) = true)
    (agse : PySem.W.nsIn K mainGlobals "ends_rule" = some (some (.ref gse)))
    (lgse : K.lookup gse = some ⟨ocse, odse, .func (PySem.W.fnOf "ends_rule" "ends_rule" (defArgs sEndsR) (defBody sEndsR) (defScope sEndsR) .none kVse dcse pmse anse cdse ctse), slse⟩)
    (cgse : PySem.W.codeIn K cdse "ends_rule" = true)
    (kgse : PySem.W.keepIn K (.ref gse) = true)
    (agsv : PySem.W.nsIn K mainGlobals "even_rule" = some (some (.ref gsv)))
    (lgsv : K.lookup gsv = some ⟨ocsv, odsv, .func (PySem.W.fnOf "even_rule" "even_rule" (defArgs sEvenR) (defBody sEvenR) (defScope sEvenR) .none kVsv dcsv pmsv ansv cdsv ctsv), slsv⟩)
    (cgsv : PySem.W.codeIn K cdsv "even_rule" = true)
    (kgsv : PySem.W.keepIn K (.ref gsv) = true)
    (agsf : PySem.W.nsIn K mainGlobals "free_rule" = some (some (.ref gsf)))
    (lgsf : K.lookup gsf = some ⟨ocsf, odsf, .func (PySem.W.fnOf "free_rule" "free_rule" (defArgs sFreeR) (defBody sFreeR) (defScope sFreeR) .none kVsf dcsf pmsf ansf cdsf ctsf), slsf⟩)
    (cgsf : PySem.W.codeIn K cdsf "free_rule" = true)
    (kgsf : PySem.W.keepIn K (.ref gsf) = true)
    (agsh : PySem.W.nsIn K mainGlobals "has_rule" = some (some (.ref gsh)))
    (lgsh : K.lookup gsh = some ⟨ocsh, odsh, .func (PySem.W.fnOf "has_rule" "has_rule" (defArgs sHasR) (defBody sHasR) (defScope sHasR) .none kVsh dcsh pmsh ansh cdsh ctsh), slsh⟩)
    (cgsh : PySem.W.codeIn K cdsh "has_rule" = true)
    (kgsh : PySem.W.keepIn K (.ref gsh) = true)
    (aglw : PySem.W.nsIn K mainGlobals "_law_well" = some (some (.ref glw)))
    (lglw : K.lookup glw = some ⟨oclw, odlw, .func (PySem.W.fnOf "_law_well" "_law_well" (defArgs sWell) (defBody sWell) (defScope sWell) .none kVlw dclw pmlw anlw cdlw ctlw), sllw⟩)
    (cglw : PySem.W.codeIn K cdlw "_law_well" = true)
    (kglw : PySem.W.keepIn K (.ref glw) = true)
    (agld : PySem.W.nsIn K mainGlobals "_law_dip" = some (some (.ref gld)))
    (lgld : K.lookup gld = some ⟨ocld, odld, .func (PySem.W.fnOf "_law_dip" "_law_dip" (defArgs sDip) (defBody sDip) (defScope sDip) .none kVld dcld pmld anld cdld ctld), slld⟩)
    (cgld : PySem.W.codeIn K cdld "_law_dip" = true)
    (kgld : PySem.W.keepIn K (.ref gld) = true)
    (aglp : PySem.W.nsIn K mainGlobals "_law_pick" = some (some (.ref glp)))
    (lglp : K.lookup glp = some ⟨oclp, odlp, .func (PySem.W.fnOf "_law_pick" "_law_pick" (defArgs sPick) (defBody sPick) (defScope sPick) .none kVlp dclp pmlp anlp cdlp ctlp), sllp⟩)
    (cglp : PySem.W.codeIn K cdlp "_law_pick" = true)
    (kglp : PySem.W.keepIn K (.ref glp) = true)
    (agln : PySem.W.nsIn K mainGlobals "_law_line" = some (some (.ref gln)))
    (lgln : K.lookup gln = some ⟨ocln, odln, .func (PySem.W.fnOf "_law_line" "_law_line" (defArgs sLine) (defBody sLine) (defScope sLine) .none kVln dcln pmln anln cdln ctln), slln⟩)
    (cgln : PySem.W.codeIn K cdln "_law_line" = true)
    (kgln : PySem.W.keepIn K (.ref gln) = true)
    (aglg : PySem.W.nsIn K mainGlobals "_law_right" = some (some (.ref glg)))
    (lglg : K.lookup glg = some ⟨oclg, odlg, .func (PySem.W.fnOf "_law_right" "_law_right" (defArgs sRight) (defBody sRight) (defScope sRight) .none kVlg dclg pmlg anlg cdlg ctlg), sllg⟩)
    (cglg : PySem.W.codeIn K cdlg "_law_right" = true)
    (kglg : PySem.W.keepIn K (.ref glg) = true)
    (agll : PySem.W.nsIn K mainGlobals "law" = some (some (.ref gll)))
    (lgll : K.lookup gll = some ⟨ocll, odll, .func (PySem.W.fnOf "law" "law" (defArgs sLaw) (defBody sLaw) (defScope sLaw) .none kVll dcll pmll anll cdll ctll), slll⟩)
    (cgll : PySem.W.codeIn K cdll "law" = true)
    (kgll : PySem.W.keepIn K (.ref gll) = true)
    (amri : PySem.W.findIn K (.ref CU) "__init__" = some (some (.ref gri)))
    (airi : PySem.W.isFn K (.ref gri) = true)
    (lgri : K.lookup gri = some ⟨ocri, odri, .func (PySem.W.fnOf "__init__" "Rule.__init__" (defArgs sInit) (defBody sInit) (defScope sInit) .none kVri dcri pmri anri cdri ctri), slri⟩)
    (cgri : PySem.W.codeIn K cdri "Rule.__init__" = true)
    (kgri : PySem.W.keepIn K (.ref gri) = true)
    (amrm : PySem.W.findIn K (.ref CU) "mood" = some (some (.ref grm)))
    (airm : PySem.W.isFn K (.ref grm) = true)
    (lgrm : K.lookup grm = some ⟨ocrm, odrm, .func (PySem.W.fnOf "mood" "Rule.mood" (defArgs sMood) (defBody sMood) (defScope sMood) .none kVrm dcrm pmrm anrm cdrm ctrm), slrm⟩)
    (cgrm : PySem.W.codeIn K cdrm "Rule.mood" = true)
    (kgrm : PySem.W.keepIn K (.ref grm) = true)
    (amrh : PySem.W.findIn K (.ref CU) "has" = some (some (.ref grh)))
    (airh : PySem.W.isFn K (.ref grh) = true)
    (lgrh : K.lookup grh = some ⟨ocrh, odrh, .func (PySem.W.fnOf "has" "Rule.has" (defArgs sHas) (defBody sHas) (defScope sHas) .none kVrh dcrh pmrh anrh cdrh ctrh), slrh⟩)
    (cgrh : PySem.W.codeIn K cdrh "Rule.has" = true)
    (kgrh : PySem.W.keepIn K (.ref grh) = true)
    (amrs : PySem.W.findIn K (.ref CU) "__str__" = some (some (.ref grs)))
    (airs : PySem.W.isFn K (.ref grs) = true)
    (lgrs : K.lookup grs = some ⟨ocrs, odrs, .func (PySem.W.fnOf "__str__" "Rule.__str__" (defArgs sStr) (defBody sStr) (defScope sStr) .none kVrs dcrs pmrs anrs cdrs ctrs), slrs⟩)
    (cgrs : PySem.W.codeIn K cdrs "Rule.__str__" = true)
    (kgrs : PySem.W.keepIn K (.ref grs) = true)
    (av0 : PySem.W.nsIn K mainGlobals "MOST_SIGNS" = some (some (.int 3 tk0)))
    (av1 : PySem.W.nsIn K mainGlobals "MOST_MOODS" = some (some (.int 300 tk1)))
    (av2 : PySem.W.nsIn K mainGlobals "MOST_ROW" = some (some (.int 1000 tk2)))
    (av3 : PySem.W.nsIn K mainGlobals "LONGEST_WORD" = some (some (.int 8 tk3)))
    (av4 : PySem.W.nsIn K mainGlobals "LETTERS" = some (some (.str abc tk4)))
    (av5 : PySem.W.nsIn K mainGlobals "ENDS" = some (some (.str tE tk5)))
    (av6 : PySem.W.nsIn K mainGlobals "EVEN" = some (some (.str tV tk6)))
    (av7 : PySem.W.nsIn K mainGlobals "FREE" = some (some (.str tF tk7)))
    (av8 : PySem.W.nsIn K mainGlobals "HAS" = some (some (.str tH tk8)))
    (atT : PySem.W.nsIn K mainGlobals "TITLES" = some (some (.ref tT)))
    (ltT : K.lookup tT = some ⟨.type "tuple", none, .seq #[.str "signs" u0, .str "moods" u1, .str "good" u2] nT, slT⟩)
    (pg : PySem.W.plainGet K CU Str.empty = true)
    (hd : PySem.W.hasDictIn K CU = true)
    (po : PySem.W.plainOver K CU = true)
    (sa : PySem.W.findIn K (.ref CU) "__setattr__" = some (some (.builtin "object.__setattr__")))
    (mk : PySem.W.makesIn K CU = true)
    (kc : PySem.W.keepIn K (.ref CU) = true)
    (nf0 : PySem.W.findIn K (.ref CU) "written" = some none)
    (nf1 : PySem.W.findIn K (.ref CU) "letters" = some none)
    (nf2 : PySem.W.findIn K (.ref CU) "words" = some none)
    (nf3 : PySem.W.findIn K (.ref CU) "chosen" = some none)
    (nf4 : PySem.W.findIn K (.ref CU) "goals" = some none)
    (hcf : chkF K = true) :
    ∃ fd : FuncData, (∀ (s : Shared) (v : Value), BindsTo s fd ⟨[v], []⟩ [("_law_script", v)]) ∧ ∀ base : Heap, K.In base → base.Ns mainGlobals mg → FnG l.prog w K mg base CX0 9 fa fd ["_law_script"] (spLaw K) := by
  have e := hfa.symm.trans (PySem.W.mg_of X G agll)
  cases e
  have fr := fun {x : Str} (hx : x ∈ frees) => free_of X G hcf hx
  have mcCU := PySem.W.mg_of X G acCU
  have Fol := fun_mk (st := sMade) lgol cgol kgol
  have bol := Fol.binds (ps := ["text", "letters"]) fun _ _ _ _ _ _ us hl => match us, hl with | [_, _], _ => rfl
  have mol := PySem.W.mg_of X G agol
  have Fro := fun_mk (st := sRowOf) lgro cgro kgro
  have bro := Fro.binds (ps := ["value", "letters"]) fun _ _ _ _ _ _ us hl => match us, hl with | [_, _], _ => rfl
  have mro := PySem.W.mg_of X G agro
  have Fiw := fun_mk (st := sWord) lgiw cgiw kgiw
  have biw := Fiw.binds (ps := ["text"]) fun _ _ _ _ _ _ us hl => match us, hl with | [_], _ => rfl
  have miw := PySem.W.mg_of X G agiw
  have Fas := fun_mk (st := sSigns) lgas cgas kgas
  have bas := Fas.binds (ps := ["words"]) fun _ _ _ _ _ _ us hl => match us, hl with | [_], _ => rfl
  have mas := PySem.W.mg_of X G agas
  have Fam := fun_mk (st := sMoods) lgam cgam kgam
  have bam := Fam.binds (ps := ["words"]) fun _ _ _ _ _ _ us hl => match us, hl with | [_], _ => rfl
  have mam := PySem.W.mg_of X G agam
  have Fag := fun_mk (st := sGood) lgag cgag kgag
  have bag := Fag.binds (ps := ["words", "moods"]) fun _ _ _ _ _ _ us hl => match us, hl with | [_, _], _ => rfl
  have mag := PySem.W.mg_of X G agag
  have Frg := fun_mk (st := sGoals) lgrg cgrg kgrg
  have brg := Frg.binds (ps := ["signs", "moods", "rows"]) fun _ _ _ _ _ _ us hl => match us, hl with | [_, _, _], _ => rfl
  have mrg := PySem.W.mg_of X G agrg
  have Frr := fun_mk (st := sRead) lgrr cgrr kgrr
  have brr := Frr.binds (ps := ["text"]) fun _ _ _ _ _ _ us hl => match us, hl with | [_], _ => rfl
  have mrr := PySem.W.mg_of X G agrr
  have Fse := fun_mk (st := sEndsR) lgse cgse kgse
  have bse := Fse.binds (ps := []) fun _ _ _ _ _ _ us hl => match us, hl with | [], _ => rfl
  have mse := PySem.W.mg_of X G agse
  have Fsv := fun_mk (st := sEvenR) lgsv cgsv kgsv
  have bsv := Fsv.binds (ps := []) fun _ _ _ _ _ _ us hl => match us, hl with | [], _ => rfl
  have msv := PySem.W.mg_of X G agsv
  have Fsf := fun_mk (st := sFreeR) lgsf cgsf kgsf
  have bsf := Fsf.binds (ps := []) fun _ _ _ _ _ _ us hl => match us, hl with | [], _ => rfl
  have msf := PySem.W.mg_of X G agsf
  have Fsh := fun_mk (st := sHasR) lgsh cgsh kgsh
  have bsh := Fsh.binds (ps := []) fun _ _ _ _ _ _ us hl => match us, hl with | [], _ => rfl
  have msh := PySem.W.mg_of X G agsh
  have Flw := fun_mk (st := sWell) lglw cglw kglw
  have blw := Flw.binds (ps := ["_law_script", "_law_turn"]) fun _ _ _ _ _ _ us hl => match us, hl with | [_, _], _ => rfl
  have mlw := PySem.W.mg_of X G aglw
  have Fld := fun_mk (st := sDip) lgld cgld kgld
  have bld := Fld.binds (ps := ["_law_well_here", "_law_size"]) fun _ _ _ _ _ _ us hl => match us, hl with | [_, _], _ => rfl
  have mld := PySem.W.mg_of X G agld
  have Flp := fun_mk (st := sPick) lglp cglp kglp
  have blp := Flp.binds (ps := ["_law_well_here", "_law_menu"]) fun _ _ _ _ _ _ us hl => match us, hl with | [_, _], _ => rfl
  have mlp := PySem.W.mg_of X G aglp
  have Fln := fun_mk (st := sLine) lgln cgln kgln
  have bln := Fln.binds (ps := ["_law_well_here", "_law_letters", "_law_size"]) fun _ _ _ _ _ _ us hl => match us, hl with | [_, _, _], _ => rfl
  have mln := PySem.W.mg_of X G agln
  have Flg := fun_mk (st := sRight) lglg cglg kglg
  have blg := Flg.binds (ps := ["_law_well_here"]) fun _ _ _ _ _ _ us hl => match us, hl with | [_], _ => rfl
  have mlg := PySem.W.mg_of X G aglg
  have Fll := fun_mk (st := sLaw) lgll cgll kgll
  have bll := Fll.binds (ps := ["_law_script"]) fun _ _ _ _ _ _ us hl => match us, hl with | [_], _ => rfl
  have mll := PySem.W.mg_of X G agll
  have Fri := fun_mk (st := sInit) lgri cgri kgri
  have bri := Fri.binds (ps := ["self", "text"]) fun _ _ _ _ _ _ us hl => match us, hl with | [_, _], _ => rfl
  have Frm := fun_mk (st := sMood) lgrm cgrm kgrm
  have brm := Frm.binds (ps := ["self", "row"]) fun _ _ _ _ _ _ us hl => match us, hl with | [_, _], _ => rfl
  have Frh := fun_mk (st := sHas) lgrh cgrh kgrh
  have brh := Frh.binds (ps := ["self", "row"]) fun _ _ _ _ _ _ us hl => match us, hl with | [_, _], _ => rfl
  have Frs := fun_mk (st := sStr) lgrs cgrs kgrs
  have brs := Frs.binds (ps := ["self"]) fun _ _ _ _ _ _ us hl => match us, hl with | [_], _ => rfl
  have v0 := PySem.W.mg_of X G av0
  have v1 := PySem.W.mg_of X G av1
  have v2 := PySem.W.mg_of X G av2
  have v3 := PySem.W.mg_of X G av3
  have v4 := PySem.W.mg_of X G av4
  have v5 := PySem.W.mg_of X G av5
  have v6 := PySem.W.mg_of X G av6
  have v7 := PySem.W.mg_of X G av7
  have v8 := PySem.W.mg_of X G av8
  refine ⟨PySem.W.fnOf "law" "law" (defArgs sLaw) (defBody sLaw) (defScope sLaw) .none kVll dcll pmll anll cdll ctll, fun s v => .of_eq rfl, fun base _ _ => ?_⟩
  have T : RuC K CU := ⟨⟨pg, hd, po, sa⟩, nf0, nf1, nf2, nf3, nf4⟩
  have hOl : Hv l.prog w K mg base 1 "made_of" ["text", "letters"] spMade := ⟨_, _, ok_made Fol (fr (by decide)), bol, mol, kgol⟩
  have hIw : Hv l.prog w K mg base 2 "is_word" ["text"] spWord := ⟨_, _, ok_word Fiw hOl (fr (by decide)) v3 v4, biw, miw, kgiw⟩
  have hAs : Hv l.prog w K mg base 2 "are_signs" ["words"] (spSigns K) := ⟨_, _, ok_signs Fas hOl v4 (fr (by decide)) (fr (by decide)) (fr (by decide)) v0, bas, mas, kgas⟩
  have hAm : Hv l.prog w K mg base 3 "are_moods" ["words"] (spMoods K) := ⟨_, _, ok_moods Fam hIw (fr (by decide)) (fr (by decide)) (fr (by decide)) v1, bam, mam, kgam⟩
  have hAg : Hv l.prog w K mg base 1 "are_good" ["words", "moods"] (spGood K) := ⟨_, _, ok_good Fag, bag, mag, kgag⟩
  have hRg : Hv l.prog w K mg base 1 "read_goals" ["signs", "moods", "rows"] spGoals := ⟨_, _, ok_goals Frg (fr (by decide)) (fr (by decide)), brg, mrg, kgrg⟩
  have kT : ∀ H, SqT K H tT (titles.map V.str) := fun H => .inr ⟨_, _, _, ltT, rfl, rfl, by show 3 ≤ sizeLine; decide, .cons ⟨_, rfl⟩ (.cons ⟨_, rfl⟩ (.cons ⟨_, rfl⟩ .nil))⟩
  have hRr : Hv l.prog w K mg base 4 "read_rule" ["text"] spRead := ⟨_, _, ok_read Frr hAs hAm hAg hRg (PySem.W.mg_of X G atT) kT (fr (by decide)) (fr (by decide)), brr, mrr, kgrr⟩
  have GI := ok_init (P := l.prog) (w := w) (base := base) Fri T hRr (fr (by decide)) (fr (by decide))
  have hRo : Hv l.prog w K mg base 2 "is_row_of" ["value", "letters"] spRow := ⟨_, _, ok_row Fro hOl (fr (by decide)) (fr (by decide)) (fr (by decide)) v2, bro, mro, kgro⟩
  have hRm : HvM l.prog w K mg base 3 CU "mood" ["self", "row"] (spMood CU) := ⟨_, _, ok_mood Frm T hRo, brm, ⟨amrm, airm, kgrm⟩⟩
  have hDp : Hv l.prog w K mg base 1 "_law_dip" ["_law_well_here", "_law_size"] spDip := ⟨_, _, ok_dip Fld (fr (by decide)), bld, mld, kgld⟩
  have hPs : Hv l.prog w K mg base 2 "_law_pick" ["_law_well_here", "_law_menu"] spPickS := ⟨_, _, ok_pickS Flp hDp (fr (by decide)), blp, mlp, kglp⟩
  have MI : Mk K CU gri := ⟨mk, amri, airi, kc⟩
  have R : Rt l.prog w K mg base CU := {
    T := T
    ln := ⟨_, _, ok_line Fln hDp hPs (fr (by decide)), bln, mln, kgln⟩
    has := ⟨_, _, ok_has Frh T hRm, brh, ⟨amrh, airh, kgrh⟩⟩
    sE := ⟨_, _, ok_ends_rule Fse MI GI bri mcCU v5, bse, mse, kgse⟩
    sV := ⟨_, _, ok_even_rule Fsv MI GI bri mcCU v6, bsv, msv, kgsv⟩
    sF := ⟨_, _, ok_free_rule Fsf MI GI bri mcCU v7, bsf, msf, kgsf⟩
    sH := ⟨_, _, ok_has_rule Fsh MI GI bri mcCU v8, bsh, msh, kgsh⟩
    hRa := fr (by decide)
    hI := fr (by decide) }
  have GR := ok_right Flg R
  have GW := ok_well (P := l.prog) (w := w) (mg := mg) (base := base) Flw (fr (by decide)) (fr (by decide)) (fr (by decide))
  have GS := ok_str (P := l.prog) (w := w) (base := base) Frs T (fr (by decide))
  exact FnG_of (ok_law Fll (fr (by decide)) (fr (by decide)) (fr (by decide)) (fr (by decide)) (fr (by decide)) (fr (by decide)) GW blw mlw kglw GR blg mlg kglg GS brs ⟨amrs, airs, kgrs⟩ R)
end
end My
open PySem PySem.W PyProof.Rows
set_option maxRecDepth 100000 in
set_option maxHeartbeats 0 in
theorem PySem.Challenge.cw_shortlooks_k05_sample_rules_holds : PySem.Challenge.rw_shortlooks_k05_sample_rules.Holds := by
  w_on; o_law; k_head; (case hw => w_witness2)
  k_fill
  refine L2.walk_G (l := PySem.Challenge.rw_shortlooks_k05_sample_rules) (n := 63) (k := 9) (x := "_law_script") (sp := My.spLaw) rfl (by decide) rfl ⟨rfl, by decide, by decide⟩ (fun w h Y => PySem.W.kIn_of Y) ?F (fun _ _ a ns hl _ hS => ⟨a, ns, rfl, hS, hl, fun _ => rfl⟩)
  case F =>
    intro w mg fa h KX G hmg
    refine' My.all_mk KX G hmg ?acCU ?agol ?lgol ?cgol ?kgol ?agro ?lgro ?cgro ?kgro ?agiw ?lgiw ?cgiw ?kgiw ?agas ?lgas ?cgas ?kgas ?agam ?lgam ?cgam ?kgam ?agag ?lgag ?cgag ?kgag ?agrg ?lgrg ?cgrg ?kgrg ?agrr ?lgrr ?cgrr ?kgrr ?agse ?lgse ?cgse ?kgse ?agsv ?lgsv ?cgsv ?kgsv ?agsf ?lgsf ?cgsf ?kgsf ?agsh ?lgsh ?cgsh ?kgsh ?aglw ?lglw ?cglw ?kglw ?agld ?lgld ?cgld ?kgld ?aglp ?lglp ?cglp ?kglp ?agln ?lgln ?cgln ?kgln ?aglg ?lglg ?cglg ?kglg ?agll ?lgll ?cgll ?kgll ?amri ?airi ?lgri ?cgri ?kgri ?amrm ?airm ?lgrm ?cgrm ?kgrm ?amrh ?airh ?lgrh ?cgrh ?kgrh ?amrs ?airs ?lgrs ?cgrs ?kgrs ?av0 ?av1 ?av2 ?av3 ?av4 ?av5 ?av6 ?av7 ?av8 ?atT ?ltT ?pg ?hd ?po ?sa ?mk ?kc ?nf0 ?nf1 ?nf2 ?nf3 ?nf4 ?hcf
    (case acCU => k_is)
    (case agol => k_is)
    (case lgol => k_is)
    (case cgol => k_is)
    (case kgol => k_is)
    (case agro => k_is)
    (case lgro => k_is)
    (case cgro => k_is)
    (case kgro => k_is)
    (case agiw => k_is)
    (case lgiw => k_is)
    (case cgiw => k_is)
    (case kgiw => k_is)
    (case agas => k_is)
    (case lgas => k_is)
    (case cgas => k_is)
    (case kgas => k_is)
    (case agam => k_is)
    (case lgam => k_is)
    (case cgam => k_is)
    (case kgam => k_is)
    (case agag => k_is)
    (case lgag => k_is)
    (case cgag => k_is)
    (case kgag => k_is)
    (case agrg => k_is)
    (case lgrg => k_is)
    (case cgrg => k_is)
    (case kgrg => k_is)
    (case agrr => k_is)
    (case lgrr => k_is)
    (case cgrr => k_is)
    (case kgrr => k_is)
    (case agse => k_is)
    (case lgse => k_is)
    (case cgse => k_is)
    (case kgse => k_is)
    (case agsv => k_is)
    (case lgsv => k_is)
    (case cgsv => k_is)
    (case kgsv => k_is)
    (case agsf => k_is)
    (case lgsf => k_is)
    (case cgsf => k_is)
    (case kgsf => k_is)
    (case agsh => k_is)
    (case lgsh => k_is)
    (case cgsh => k_is)
    (case kgsh => k_is)
    (case aglw => k_is)
    (case lglw => k_is)
    (case cglw => k_is)
    (case kglw => k_is)
    (case agld => k_is)
    (case lgld => k_is)
    (case cgld => k_is)
    (case kgld => k_is)
    (case aglp => k_is)
    (case lglp => k_is)
    (case cglp => k_is)
    (case kglp => k_is)
    (case agln => k_is)
    (case lgln => k_is)
    (case cgln => k_is)
    (case kgln => k_is)
    (case aglg => k_is)
    (case lglg => k_is)
    (case cglg => k_is)
    (case kglg => k_is)
    (case agll => k_is)
    (case lgll => k_is)
    (case cgll => k_is)
    (case kgll => k_is)
    (case amri => k_is)
    (case airi => k_is)
    (case lgri => k_is)
    (case cgri => k_is)
    (case kgri => k_is)
    (case amrm => k_is)
    (case airm => k_is)
    (case lgrm => k_is)
    (case cgrm => k_is)
    (case kgrm => k_is)
    (case amrh => k_is)
    (case airh => k_is)
    (case lgrh => k_is)
    (case cgrh => k_is)
    (case kgrh => k_is)
    (case amrs => k_is)
    (case airs => k_is)
    (case lgrs => k_is)
    (case cgrs => k_is)
    (case kgrs => k_is)
    (case av0 => k_is)
    (case av1 => k_is)
    (case av2 => k_is)
    (case av3 => k_is)
    (case av4 => k_is)
    (case av5 => k_is)
    (case av6 => k_is)
    (case av7 => k_is)
    (case av8 => k_is)
    (case atT => k_is)
    (case ltT => k_is)
    (case pg => k_is)
    (case hd => k_is)
    (case po => k_is)
    (case sa => k_is)
    (case mk => k_is)
    (case kc => k_is)
    (case nf0 => k_is)
    (case nf1 => k_is)
    (case nf2 => k_is)
    (case nf3 => k_is)
    (case nf4 => k_is)
    (case hcf => kernel_rfl)
