import PyProof.Rows.All
import Wide.All
import OpenK.AllK
import Wide.FinOn
import PyProof.EqAt
import PyProof.EqKinds
import PyProof.TupleCall
import KE.KFromBytes
import HandS.ForMost
import HandS.Exc
import HandS.ExcInit
import HandS.ExcIs
import HandS.IsInst
import HandS.ExcOwn
import HandS.ExcValue
import HandS.Defaults
import HandS.Flow
import PySem.Challenge.RW_shortlooks_k01_limits_and_errors
set_option Elab.async false
set_option linter.all false
set_option maxRecDepth 100000
set_option maxHeartbeats 8000000
namespace PySem
namespace GX
open PySem.W PySem.Calls PyProof.Rows PySem.HandSPX
open Builtin Builtin.ObjectAttr

section
variable {M : Model} {Ar : Around} {Er : Value → Shared → Prop} {hh : Heap} {gg : Array GenState} {dd : Drawn} {tt : Nat} {oo : OsState}
variable {n1 n2 : Str} {C N : Addr} {b1 b2 b3 : List Value} {hx : Bool} {l1 : List Str} {l2 : List Value} {ab : Bool} {cl : Option Bool} {da : Option Addr} {m0 m1 m2 m3 m5 : Option Value} {B nid iid : String}

theorem chkNew (F : ExcBaseFacts B nid iid b3) (hT : ∀ Y : String, b2.contains (.type Y) = b3.contains (.type Y)) {rs : List Value} {kw : List (Str × Value)} {Q : Unit → Shared → Prop}
    (hC : hh.get? C = some (excClassObj n1 n2 C N b1 b2 hx l1 l2 ab cl da m0 m1 m2 m3 m5 nid))
    (hq : Q () ⟨hh, gg, dd, tt, oo⟩) :
    wpAny M Ar (checkBuiltinCall nid ⟨.ref C :: rs, kw⟩) Q Er ⟨hh, gg, dd, tt, oo⟩ := by
  have c1 : (Value.ref C :: b2).contains (.type B) = true := by
    rw [List.contains_cons, hT, F.hasB, Bool.or_true]
  have c2 := F.noStar
  simp only [checkBuiltinCall, F.newKind, F.newSplit, F.newRow]
  repeat (first
    | refine wpAny_loadPart_at hC ?_
    | (refine wpAny_isSubtype_exc hC ?_; rw [c1])
    | refine wpAny_staticBase_exc hC ?_
    | refine wpAny_madeBy_exc hC ?_
    | simp only [bne_self_eq_false, Bool.false_eq_true, if_false]
    | wp_step)
  exact hq
end
section
variable {pr : Program} {wd : World} {Ar : Around} {Er : Value → Shared → Prop} {Rr : Result → Shared → Prop} {hh : Heap} {gg : Array GenState} {dd : Drawn} {tt : Nat} {oo : OsState}
variable {n1 n2 : Str} {C N : Addr} {b1 b2 b3 : List Value} {hx : Bool} {l1 : List Str} {l2 : List Value} {ab : Bool} {cl : Option Bool} {da : Option Addr} {m0 m1 m2 m3 m5 : Option Value} {B nid iid : String}

theorem newK (F : ExcBaseFacts B nid iid b3) (hT : ∀ Y : String, b2.contains (.type Y) = b3.contains (.type Y)) {rs : List Value} {kw : List (Str × Value)}
    (hC : hh.get? C = some (excClassObj n1 n2 C N b1 b2 hx l1 l2 ab cl da m0 m1 m2 m3 m5 nid))
    (hq : Rr (.ok (.ret (.ref (hh.objs.size + 1)))) ⟨(hh.push (W.kdv_tup rs)).push (excO C hh.objs.size), gg, dd, tt, oo⟩)
    (hrs : rs.length ≤ sizeLine) :
    codeAny (model pr wd) Ar (.builtin nid ⟨.ref C :: rs, kw⟩) Rr ⟨hh, gg, dd, tt, oo⟩ := by
  have c0 := F.ends
  have cB : (Value.ref C :: b2).contains (.type B) = true := by
    rw [List.contains_cons, hT, F.hasB, Bool.or_true]
  have cA : (Value.ref C :: b2).contains (.type "AttributeError") = false := by
    rw [List.contains_cons, hT, F.noAttr]; rfl
  have cN : (Value.ref C :: b2).contains (.type "NameError") = false := by
    rw [List.contains_cons, hT, F.noName]; rfl
  refine codeAny_builtinAt F.entry ?_
  unfold Builtin.«BaseException.__new__»
  refine wpAt_bind ?_
  show wpAt _ _ _ (stack >>= _) _ _ _
  refine wpAt_bind (wpAt_stack fun p below => wpAt_of_wpAny ?_)
  wp_walk
  refine wpAt_of_wpAny ?_
  rw [F.owner]
  repeat (first
    | with_reducible refine wpAny_madeHere_exc F.canon hC ?_
    | with_reducible refine wpAny_loadPart_at hC ?_
    | (with_reducible refine wpAny_isSubtype_exc hC ?_; first | rw [cB] | rw [cA] | rw [cN])
    | wp_step)
  show Rr _ _
  rw [Heap.size_push]
  exact hq
end
end GX
end PySem
namespace PySem
namespace GX
open PySem.W PySem.Calls PyProof.Rows PySem.HandSPX
open Builtin Builtin.ObjectAttr
section
variable {M : Model} {Ar : Around} {Er : Value → Shared → Prop} {hh : Heap} {gg : Array GenState} {dd : Drawn} {tt : Nat} {oo : OsState}
variable {n1 n2 : Str} {C N : Addr} {b1 b2 b3 : List Value} {hx : Bool} {l1 : List Str} {l2 : List Value} {ab : Bool} {cl : Option Bool} {da : Option Addr} {m0 m1 m2 m3 m5 : Option Value} {B nid iid : String}
theorem chkCall {rs : List Value} {kw : List (Str × Value)} {Q : Unit → Shared → Prop}
    (hC : hh.get? C = some (excClassObj n1 n2 C N b1 b2 hx l1 l2 ab cl da m0 m1 m2 m3 m5 nid))
    (hq : Q () ⟨hh, gg, dd, tt, oo⟩) :
    wpAny M Ar (checkBuiltinCall "type.__call__" ⟨.ref C :: rs, kw⟩) Q Er ⟨hh, gg, dd, tt, oo⟩ := by
  have z3 := tc_sub
  have zT : (⟨hh, gg, dd, tt, oo⟩ : Shared).TypeIs (.ref C) "type" := ⟨_, hC, rfl⟩
  simp only [checkBuiltinCall, tc_kind, tc_split]
  repeat (any_goals (first
    | assumption
    | with_reducible refine wpAny_loadPart_at hC ?_
    | with_reducible refine wpAny_onRaise ?_
    | with_reducible refine wpAny_map ?_
    | wp_step))
end
section
variable {pr : Program} {wd : World} {Ar : Around} {Er : Value → Shared → Prop} {Rr : Result → Shared → Prop} {hh : Heap} {gg : Array GenState} {dd : Drawn} {tt : Nat} {oo : OsState}
variable {n1 n2 : Str} {C N : Addr} {b1 b2 b3 : List Value} {hx : Bool} {l1 : List Str} {l2 : List Value} {ab : Bool} {cl : Option Bool} {da : Option Addr} {m0 m1 m2 m3 m5 : Option Value} {B nid iid : String}

theorem typeK (F : ExcBaseFacts B nid iid b3) (hT : ∀ Y : String, b2.contains (.type Y) = b3.contains (.type Y)) {rs : List Value} {kw : List (Str × Value)} {fI : Addr} {Q : Fin → Shared → Prop}
    (hC : hh.get? C = some (excClassObj n1 n2 C N b1 b2 hx l1 l2 ab cl da m0 m1 m2 m3 m5 nid))
    (hi : W.Looks (model pr wd) hh (typeLookup (.ref C) "__init__") (some (.ref fI)))
    (hb : ∀ self, W.Looks (model pr wd) hh (bindSpecial (.ref fI) self) (.ref fI, [self]))
    (hrs : rs.length ≤ sizeLine)
    (hq : codeAny (model pr wd) Ar (.call (.ref fI) ⟨.ref (hh.objs.size + 1) :: rs, kw⟩)
      (fun r s' => match r with
        | .ok (.ret v) => v = .none ∧ Q (.done (.ret (.ref (hh.objs.size + 1)))) s'
        | .ok _ => False
        | .error e => Er e s')
      ⟨(hh.push (W.kdv_tup rs)).push (excO C hh.objs.size), gg, dd, tt, oo⟩) :
    wpAny (model pr wd) Ar (Builtin.«type.__call__» ⟨.ref C :: rs, kw⟩) Q Er ⟨hh, gg, dd, tt, oo⟩ := by
  repeat (first
    | with_reducible refine wpAny_loadPart_at hC ?_
    | with_reducible refine wpAny_madeBy_exc hC ?_
    | wp_step)
  refine codeAny_call_builtin_code (Code.quiet_builtin _ F.quiet) (chkNew F hT hC ?_)
  refine newK F hT hC ?_ hrs
  show wpAny _ _ _ _ _ _
  have kk : ∀ b o, hh.get? b = some o → ((hh.push (W.kdv_tup rs)).push (excO C hh.objs.size)).get? b = some o :=
    fun b o e => Heap.get?_push_of_some _ (Heap.get?_push_of_some _ e)
  have hC1 := kk _ _ hC
  have hgt : ((hh.push (W.kdv_tup rs)).push (excO C hh.objs.size)).get? (hh.objs.size + 1) = some (excO C hh.objs.size) := by
    heap_get
  have cC : (Value.ref C :: b2).contains (.ref C) = true := by simp
  have j1 := hi.keeps kk
  have j2 := (hb (.ref (hh.objs.size + 1))).keeps kk
  unfold isInstance
  repeat (first
    | with_reducible refine wpAny_loadPart_at hgt ?_
    | (with_reducible refine wpAny_isSubtype_exc hC1 ?_; rw [cC])
    | wp_step)
  show wpAny _ _ (typeLookup (.ref C) _) _ _ _
  refine j1.at ?_
  refine wpAny_holding (wpAny_bind (j2.at ?_))
  refine wpAny_bind (wpAny_call (codeAny_mono hq fun r s' z => ?_))
  rcases r with e | (v | _ | _ | _) <;> first | exact z | exact z.elim | skip
  obtain ⟨rfl, z⟩ := z
  first
    | exact wpAny_pure (wpAny_pure z)
    | (wp_walk; exact z)

theorem callK (F : ExcBaseFacts B nid iid b3) (hT : ∀ Y : String, b2.contains (.type Y) = b3.contains (.type Y)) {rs : List Value} {kw : List (Str × Value)} {fI : Addr}
    (hC : hh.get? C = some (excClassObj n1 n2 C N b1 b2 hx l1 l2 ab cl da m0 m1 m2 m3 m5 nid))
    (hi : W.Looks (model pr wd) hh (typeLookup (.ref C) "__init__") (some (.ref fI)))
    (hb : ∀ self, W.Looks (model pr wd) hh (bindSpecial (.ref fI) self) (.ref fI, [self]))
    (hrs : rs.length ≤ sizeLine)
    (hq : codeAny (model pr wd) (Ar.under (.builtin "type.__call__" ⟨.ref C :: rs, kw⟩)) (.call (.ref fI) ⟨.ref (hh.objs.size + 1) :: rs, kw⟩) (W.InitBack (hh.objs.size + 1) Rr)
      ⟨(hh.push (W.kdv_tup rs)).push (excO C hh.objs.size), gg, dd, tt, oo⟩) :
    codeAny (model pr wd) Ar (.call (.ref C) ⟨rs, kw⟩) Rr ⟨hh, gg, dd, tt, oo⟩ := by
  have z1 := tc_lookup
  have z2 := tc_bind (.ref C)
  have zT : (⟨hh, gg, dd, tt, oo⟩ : Shared).TypeIs (.ref C) "type" := ⟨_, hC, rfl⟩
  refine codeAny_of_tree ?_
  show wpAny _ _ (callAny (.ref C) _) _ _ _
  repeat (any_goals (first
    | assumption
    | with_reducible refine wpAny_loadPart_at hC ?_
    | wp_step))
  refine ⟨rfl, ?_⟩
  refine codeAny_call_builtin_at (Code.quiet_builtin _ (by decide +kernel)) entry_typeCall (chkCall hC (typeK F hT hC hi hb hrs ?_))
  refine codeAny_mono hq fun r s' z => ?_
  rcases r with e | (v | _ | _ | _) <;> exact z
end
end GX
end PySem
namespace PySem
namespace GX
open PySem.W PySem.Calls PyProof.Rows PySem.HandSPX
open Builtin Builtin.ObjectAttr
/-- what an own class's mro must say for a store to an instance -/
structure MroOk (l : List Value) : Prop where
  pass : ∀ self, refuseLoop self "__setattr__" l = pure ()
  ob : l.contains (.type "object") = true
  ne : l.isEmpty = false
section
variable {pr : Program} {wd : World} {Ar : Around} {Er : Value → Shared → Prop} {Rr : Result → Shared → Prop} {hh : Heap} {gg : Array GenState} {dd : Drawn} {tt : Nat} {oo : OsState}
theorem osaN {K : W.Frag} {nm : Str} {tk : Tok} {v : Value} {x C : Addr} {fv : Array Value} {cd : ClassData}
    (X : K.In hh) (hx : hh.get? x = some { cls := .ref C, data := .fields fv }) (hcd : W.clsIn K C = some cd) (hm : MroOk cd.mro) (hd : cd.hasDict = true)
    (ha : W.findIn K (.ref C) nm = some none)
    (hq : ∀ h' tk' dx, (∀ b o, b ≠ x → hh.get? b = some o → h'.get? b = some o) → hh.objs.size ≤ dx → dx ≠ x →
      h'.get? x = some { cls := .ref C, dict := some dx, data := .fields fv } →
      h'.Ns1 dx (fun y => if y = nm then some v else none) → Rr (.ok (.ret .none)) ⟨h', gg, dd, tk', oo⟩) :
    codeAny (model pr wd) Ar (.call (.builtin "object.__setattr__") ⟨[.ref x, .str nm tk, v], []⟩) Rr ⟨hh, gg, dd, tt, oo⟩ := by
  have I : W.InstAt hh x { cls := .ref C, data := .fields fv } C none := ⟨hx, rfl, rfl, trivial⟩
  have SF := F.store_object
  have hne := hm.ne
  have hxs : x ≠ hh.objs.size := Nat.ne_of_lt (Heap.lt_size hx)
  have sub : W.Looks (model pr wd) hh (isInstance (.ref x) (.type "object")) true :=
    I.type.andThen (W.looks_mroIn X (by unfold W.mroIn; rw [hcd, Option.bind_some, if_neg (by rw [hne]; decide), hm.ob]))
  refine codeAny_call_builtin SF.slot.plain SF.entry (@W.check_slot (model pr wd) _ _ ⟨hh, gg, dd, tt, oo⟩ "object.__setattr__" "object" "__setattr__" (.ref x)
    [.str nm tk, v] [] _ SF.kind SF.split sub (SF.args (.ref x) (.str nm tk) v) ?_)
  have lm : W.Looks (model pr wd) hh (mroOf (.ref C)) cd.mro := (W.looks_clsIn X hcd).andThen .now
  have lt : W.Looks (model pr wd) hh (storeTaker? none) none := .now
  have lc : W.Looks (model pr wd) hh (classData C) cd := W.looks_clsIn X hcd
  rw [W.osa_eq, refuse_eq]
  refine wpAny_bind (wpAny_bind (I.type.at (wpAny_bind (lm.at ?_))))
  rw [hm.pass]
  refine wpAny_pure (wpAny_bind (I.type.at (wpAny_bind ((W.looks_findIn X ha).at (wpAny_bind (lt.at ?_))))))
  show wpAny _ _ (storeInOwnDict (.ref x) (.ref C) (.str nm tk) nm v false) _ _ _
  obtain ⟨c1, c2, c3, c4, c5, c6, c7, c8, c9, c10, c11⟩ := cd
  dsimp only at hd
  subst hd
  unfold storeInOwnDict ownDictForStores
  repeat (first
    | with_reducible refine store_in_new ?_ ?_
    | with_reducible refine wpAny_loadPart_at hx ?_
    | with_reducible refine lc.at ?_
    | wp_step)
  · exact ⟨_, #[], _, (Heap.get?_update_ne _ _ _ _ hxs.symm).trans (Heap.get?_push_at rfl rfl), rfl, fun e he => absurd he (by simp), fun _ => rfl⟩
  · intro h' tk' hn' hs
    have hx1 : (hh.push { cls := .type "dict", data := .dict #[] }).get? x = some { cls := .ref C, data := .fields fv } :=
      Heap.get?_push_of_some _ hx
    refine hq h' tk' hh.objs.size (fun b o hb ho => ?_) (Nat.le_refl _) hxs.symm ?_ hn'
    · exact (hs.2 b (Nat.ne_of_lt (Heap.lt_size ho))).trans ((Heap.get?_update_ne _ _ _ _ hb).trans (Heap.get?_push_of_some _ ho))
    · exact (hs.2 x hxs).trans (Heap.get?_update_self _ hx1 rfl)
theorem osaO {K : W.Frag} {nm : Str} {tk : Tok} {v : Value} {x C dx : Addr} {fv : Array Value} {cd : ClassData} {m0 : Str → Option Value} {nl : List Str}
    (X : K.In hh) (hx : hh.get? x = some { cls := .ref C, dict := some dx, data := .fields fv }) (hns : hh.Ns1 dx m0) (hw : Within m0 nl) (hz : nl.length ≤ 1000)
    (hcd : W.clsIn K C = some cd) (hm : MroOk cd.mro) (hd : cd.hasDict = true) (ha : W.findIn K (.ref C) nm = some none)
    (hq : ∀ h' tk', (∀ b o, b ≠ dx → hh.get? b = some o → h'.get? b = some o) →
      h'.Ns1 dx (fun y => if y = nm then some v else m0 y) → Rr (.ok (.ret .none)) ⟨h', gg, dd, tk', oo⟩) :
    codeAny (model pr wd) Ar (.call (.builtin "object.__setattr__") ⟨[.ref x, .str nm tk, v], []⟩) Rr ⟨hh, gg, dd, tt, oo⟩ := by
  obtain ⟨oD, esD, epD, hoD, hdD, _⟩ := hns.count hw
  have I : W.InstAt hh x { cls := .ref C, dict := some dx, data := .fields fv } C (some oD) := ⟨hx, rfl, rfl, hoD⟩
  have SF := F.store_object
  have hne := hm.ne
  have sub : W.Looks (model pr wd) hh (isInstance (.ref x) (.type "object")) true :=
    I.type.andThen (W.looks_mroIn X (by unfold W.mroIn; rw [hcd, Option.bind_some, if_neg (by rw [hne]; decide), hm.ob]))
  refine codeAny_call_builtin SF.slot.plain SF.entry (@W.check_slot (model pr wd) _ _ ⟨hh, gg, dd, tt, oo⟩ "object.__setattr__" "object" "__setattr__" (.ref x)
    [.str nm tk, v] [] _ SF.kind SF.split sub (SF.args (.ref x) (.str nm tk) v) ?_)
  have lm : W.Looks (model pr wd) hh (mroOf (.ref C)) cd.mro := (W.looks_clsIn X hcd).andThen .now
  have lt : W.Looks (model pr wd) hh (storeTaker? none) none := .now
  have lc : W.Looks (model pr wd) hh (classData C) cd := W.looks_clsIn X hcd
  rw [W.osa_eq, refuse_eq]
  refine wpAny_bind (wpAny_bind (I.type.at (wpAny_bind (lm.at ?_))))
  rw [hm.pass]
  refine wpAny_pure (wpAny_bind (I.type.at (wpAny_bind ((W.looks_findIn X ha).at (wpAny_bind (lt.at ?_))))))
  show wpAny _ _ (storeInOwnDict (.ref x) (.ref C) (.str nm tk) nm v false) _ _ _
  obtain ⟨c1, c2, c3, c4, c5, c6, c7, c8, c9, c10, c11⟩ := cd
  dsimp only at hd
  subst hd
  unfold storeInOwnDict ownDictForStores
  repeat (first
    | with_reducible refine PySem.OEX.store_in_old hns hw hz ?_
    | with_reducible refine wpAny_loadPart_at hx ?_
    | with_reducible refine lc.at ?_
    | wp_step)
  intro h' tk' hn' hs
  exact hq h' tk' (fun b o hb ho => (hs.2 b hb).trans ho) hn'
end
/-! the three built-in bases -/
abbrev tailOf (B : String) : List Value := [.type B, .type "Exception", .type "BaseException", .type "object"]
theorem pass_VE : ∀ self, refuseLoop self "__setattr__" (tailOf "ValueError") = pure () := fun self => by kernel_rfl
theorem pass_LE : ∀ self, refuseLoop self "__setattr__" (tailOf "LookupError") = pure () := fun self => by kernel_rfl
theorem pass_AE : ∀ self, refuseLoop self "__setattr__" (tailOf "ArithmeticError") = pure () := fun self => by kernel_rfl
theorem mroOk2 {B : String} {a b : Addr} (hp : ∀ self, refuseLoop self "__setattr__" (tailOf B) = pure ()) : MroOk (.ref a :: .ref b :: tailOf B) :=
  ⟨fun self => by rw [refuseLoop_ref, refuseLoop_ref]; exact hp self, by simp [List.contains_cons], rfl⟩
end GX
end PySem
namespace PySem
namespace GX
open PySem.W PySem.Calls PyProof.Rows PySem.HandSPX
section
variable {pr : Program} {wd : World} {Ar : Around} {Er : Value → Shared → Prop} {s : Shared} {K : Frag} {x D : Addr} {ox : Obj} {od : Option Obj}
theorem classG {Q : Option Value → Shared → Prop} (T : L2.ExcC K D) (X : K.In s.heap) (I : InstAt s.heap x ox D od) (h : Q (some (.ref D)) { s with toks := s.toks + 1 }) :
    wpAny (model pr wd) Ar (getAttr? (.ref x) "__class__") Q Er s := by
  have cs : (clsIn K D).isSome = true := by
    obtain ⟨cd, hc, _⟩ := any_some T.hd
    rw [hc]; rfl
  have hf : findObj K D od "__class__" = some (.bind (.builtin "getset_descriptor.__get__") (.builtin "object.__class__")) := by
    cases od with
    | none => exact findObj_dataN cs T.ha T.hn T.ht
    | some o => exact findObj_data cs T.ha T.hn T.ht
  obtain ⟨hp, g, d, t, os⟩ := s
  have y0 := I.type (M := model pr wd)
  have y1 := looks_findIn (M := model pr wd) X T.hg
  have y2 := looks_findIn (M := model pr wd) X T.hk
  have y3 := looks_find (M := model pr wd) X I hf
  have sub : Looks (model pr wd) hp (isInstance (.ref x) (.type "BaseException")) true := y0.andThen (looks_subIn X T.hs)
  have e0 : (false && onTheHeap (Value.builtin "BaseException.__getattribute__")) = false := rfl
  have e2 : (Value.builtin "BaseException.__getattribute__" == Value.builtin "object.__getattribute__") = false := by
    decide +kernel
  have e1 : (onTheHeap (Value.ref D) && Value.builtin "BaseException.__getattribute__" == Value.builtin "object.__getattribute__") = false := by
    rw [e2]; rfl
  unfold getAttr? getAttrBy? getAttrBy
  refine wpAny_bind (wpAny_mkText (wpAny_bind (wpAny_attempt (wpAny_holding (wpAny_bind (y0.at (wpAny_bind (y1.at ?_))))))))
  show wpAny _ _ (if (onTheHeap (Value.ref D) && Value.builtin "BaseException.__getattribute__" == Value.builtin "object.__getattribute__") = true then _ else _) _ _ _
  rw [e1, if_neg Bool.false_ne_true]
  unfold getAttrByItsOwn hookBefore
  refine wpAny_bind ?_
  rw [if_pos (show onTheHeap (Value.ref D) = true from rfl)]
  refine y2.at ?_
  refine wpAny_bind (wpAny_attempt (wpAny_holding ?_))
  unfold callGetattribute
  rw [e0, if_neg Bool.false_ne_true]
  unfold boundAndCalled
  rw [PySem.F.excAttr_ValueError.ga.bind (.ref x)]
  refine wpAny_bind (wpAny_pure ?_)
  show wpAny _ _ (call (.builtin "BaseException.__getattribute__") [.ref x, .str "__class__" t]) _ _ _
  refine wpAny_call (codeAny_call_builtin PySem.F.excAttr_ValueError.ga.plain PySem.F.entry_bexc_ga ?_)
  refine @check_slot (model pr wd) _ _ ⟨hp, g, d, t + 1, os⟩ "BaseException.__getattribute__" "BaseException" "__getattribute__" (.ref x)
    [.str "__class__" t] [] _ (by decide +kernel) (by decide +kernel) sub (PySem.F.args_bexc_ga (.ref x) (.str "__class__" t)) ?_
  unfold Builtin.«object.__getattribute__»
  refine wpAny_bind (wpAny_of_eq (a := ((Value.ref x : Value), [Value.str "__class__" t])) (by first | rfl | (simp only [slotArgs]; rfl)) ?_)
  refine wpAny_bind (wpAny_pure (wpAny_bind (y0.at (wpAny_bind (y3.at ?_)))))
  show wpAny _ _ (holding [Value.builtin "object.__class__"] (call (.builtin "getset_descriptor.__get__") [.builtin "object.__class__", .ref x, .ref D]) >>= ret) _ _ _
  refine wpAny_bind (wpAny_holding (wpAny_call (class_get (s := ⟨hp, g, d, t + 1, os⟩) (ox := ox) (od := od) X I T.hm ?_)))
  refine wpAny_pure ?_
  show wpAny _ _ (handedOut (.ref D)) _ _ _
  rw [handedOut_of (v := .ref D) rfl]
  first
    | exact wpAny_pure (wpAny_pure h)
    | exact wpAny_pure h
    | exact wpAny_pure (wpAny_bind (wpAny_pure (wpAny_pure h)))
theorem kitG (T : L2.ExcC K D) : KitX K (.ref x) (.ref D) (fun h => InstAt h x ox D od) where
  ty := fun _ _ _ I => I.type
  it := fun _ _ X _ => by
    obtain ⟨cdD, hcD, _⟩ := any_some T.hd
    unfold clsIn at hcD
    split at hcD
    · rename_i c' d' cd' sl' ho
      intro A' Q' E' s' k q
      unfold isType loadHead
      exact wpAny_bind (wpAny_loadPart (k _ _ (X _ _ ho)) (wpAny_pure q))
    · cases hcD
  ne := fun h tp dd its n sl X htp => by
    obtain ⟨cdD, hcD, _⟩ := any_some T.hd
    refine Bool.eq_false_iff.mpr fun q => ?_
    have e : D = tp := Value.ref.inj (beq_iff_eq.mp q)
    subst e
    unfold clsIn at hcD
    split at hcD
    · rename_i c' d' cd' sl' ho
      have z := (X _ _ ho).symm.trans htp
      cases z
    · cases hcD
  ca := fun X I k => classG T X I k
end
end GX
end PySem
namespace L2
open PySem PySem.Spec PyProof.Rows PySem.GX
/-- what the written part says of an own exception class at C over a built-in base -/
structure ExG (K : PySem.W.Frag) (C : Addr) : Prop extends ExcC K C where
  cls : ∃ (B nid iid : String) (b3 : List Value) (nm q : Str) (N : Addr) (bs bm : List Value) (sn : List Str) (sub : List Value) (ab : Bool) (col : Option Bool) (dd : Option Addr) (k0 k1 k2 k3 k5 : Option Value),
    ExcBaseFacts B nid iid b3 ∧ (∀ Y : String, bm.contains (.type Y) = b3.contains (.type Y)) ∧ MroOk (.ref C :: bm) ∧
    K.lookup C = some (excClassObj nm q C N bs bm true sn sub ab col dd k0 k1 k2 k3 k5 nid)
  sa : PySem.W.findIn K (.ref C) "__setattr__" = some (some (.builtin "object.__setattr__"))
  kC : PySem.W.keepIn K (.ref C) = true
/-- an exception at a of the class at C with the fields fs (its dict at d) -/
structure ExAt (H : Hp) (a C d : Addr) (fs : List (Str × V)) : Prop where
  ob : H a = some (exo a C (some d))
  di : H d = some (exd d fs)
section
variable {X : Cx} {pins : List (Addr × Obj)} {σ : St} {H : Hp} {s : Shared} {a C d : Addr} {fs : List (Str × V)}
/-- as the library's looks at an instance want it -/
theorem inst_ex {od : Option Addr} (I : Inv X pins σ H s) (e : H a = some (exo a C od)) (hd : ∀ dx, od = some dx → ∃ fs, H dx = some (exd dx fs)) :
    ∃ (ox : Obj) (o : Option Obj), PySem.W.InstAt s.heap a ox C o := by
  obtain ⟨t1, ho⟩ := exo_at I.hok e
  cases od with
  | none => exact ⟨_, none, ⟨ho, rfl, rfl, trivial⟩⟩
  | some dx =>
    obtain ⟨fs, ed⟩ := hd dx rfl
    obtain ⟨mA, ⟨o, es, ep, h1, h2⟩, _⟩ := exd_at I.hok ed
    exact ⟨_, some o, ⟨ho, rfl, rfl, h1⟩⟩
end
/-- isinstance(e, c), e an exception that is a value -/
def rIsX (K : PySem.W.Frag) : List V → Hp → VK → Prop := fun xs H Q => ∃ (a D : Addr) (od : Option Addr) (c : V) (u : Value) (b : Bool), xs = [.ref a, c] ∧ ExcC K D ∧ H a = some (exo a D od) ∧
  (∀ dx, od = some dx → ∃ fs, H dx = some (exd dx fs)) ∧ ClsV c u ∧ PySem.W.kitOne K (.ref D) u = some b ∧ Q (.bl b) H
theorem call_isX {X : Cx} : CallR X (.builtin "isinstance") (rIsX X.K) := by
  intro pins s σ H xs us Q I r h
  obtain ⟨a, D, od, c, u, b, rfl, T, e, hd, k, ek, q⟩ := h
  obtain ⟨u1, u2, rfl, r1, r2⟩ := vals2 r
  have e2 := k.eq r2
  subst e2
  obtain rfl : u1 = Value.ref a := r1
  obtain ⟨ox, o, J⟩ := inst_ex I e hd
  exact PySem.W.kia_one (kitG T) I.kIn J ek (fun z => nomatch z) fun tk => ⟨.bl b, H, I.tok tk, rfl, q⟩
section
variable {X : Cx} {pins : List (Addr × Obj)} {σ : St} {H : Hp} {s : Shared} {a C dx : Addr} {f : Str} {y : V} {u : Value} {fs : List (Str × V)}
/-- e.f -/
def tXf (K : PySem.W.Frag) (f : Str) (te : TE) : TE := fun σ H Q => te σ H fun x H1 => ∃ (a C d : Addr) (fs : List (Str × V)) (v : V), x = .ref a ∧ ExcC K C ∧ ExAt H1 a C d fs ∧
  PySem.W.findIn K (.ref C) f = some none ∧ fs.lookup f = some v ∧ Q v H1
theorem pe_xf {e : Expr} {te : TE} {pos : Pos} (he : PE X e te) (hb : attributeBase e f X.env (eval e X.env) = eval e X.env := by rfl) : PE X (.Attribute e f pos) (tXf X.K f te) := by
  refine ⟨fun pins s σ H Q I h => ?_⟩
  refine attr_of hb (thn (he.run pins s σ H _ I h) fun u s1 hh => ?_)
  obtain ⟨x, H1, I1, rx, a, C, d, fs, v, ex, T, ea, no, l, q⟩ := hh
  subst ex
  obtain rfl : u = Value.ref a := rx
  obtain ⟨t1, ho⟩ := exo_at I1.hok ea.ob
  obtain ⟨mA, hns, rel⟩ := exd_at I1.hok ea.di
  obtain ⟨od, hod, hl⟩ := lookIn_ns hns
  obtain ⟨u, hu, ru⟩ := RelO.some_of (v := v) (o := mA f) (by rw [← l]; exact rel f)
  have J : PySem.W.InstAt s1.heap a _ C (some od) := ⟨ho, rfl, rfl, hod⟩
  exact HandSPX.exc_get I1.kIn J T.hg T.hk T.hs (PySem.W.findObj_own T.hd no rfl (by rw [hl, hu])) (handed_of ru) ⟨v, H1, I1.tok _, ru, q⟩
end
end L2
namespace L2
open PySem PySem.Spec PyProof.Rows PySem.GX
section
variable {X : Cx} {pins : List (Addr × Obj)} {σ : St} {H : Hp} {s : Shared} {a C dx : Addr} {f : Str} {y : V} {u : Value} {fs : List (Str × V)} {Q : Unit → Shared → Prop} {Er : Value → Shared → Prop} {Ar : Around}
/-- the first store gives the exception its dict -/
theorem ostN (T : ExG X.K C) (I : Inv X pins σ H s) (e : H a = some (exo a C none)) (hno : PySem.W.findIn X.K (.ref C) f = some none) (ry : RelV y u)
    (h : ∀ dx s', H dx = none → dx ≠ a → Inv X pins σ (upd (upd H dx (exd dx [(f, y)])) a (exo a C (some dx))) s' → Q () s') :
    wpAny (model X.prog X.w) Ar (setAttr (.ref a) f u) Q Er s := by
  obtain ⟨B, nid, iid, b3, nm, q, N, bs, bm, sn, sub, ab, col, dd, k0, k1, k2, k3, k5, FB, hT, hM, hC⟩ := T.cls
  have hcl : PySem.W.clsIn X.K C = some { name := nm, bases := bs, mro := .ref C :: bm, ns := N, qualname := q, hasDict := true, slotNames := sn, subclasses := sub, abstract := ab, collection := col, hasDel := false } := by
    unfold PySem.W.clsIn; rw [hC] <;> rfl
  obtain ⟨t1, ho⟩ := exo_at I.hok e
  obtain ⟨hp, g, d, t, os⟩ := s
  refine PySem.W.set_plain I.kIn (ox := { cls := .ref C, dict := none, data := .fields #[.ref t1, .none, .none, .none, .bool false, .none] })
    (od := none) ⟨ho, rfl, rfl, trivial⟩ T.sa ?_
  refine osaN I.kIn ho hcl hM rfl hno (fun h' tk' dx k dn dne hx hn => ?_)
  have free1 : H dx = none := I.hok.fresh dn
  have ndx : ∀ {b : Addr} {o : Obj}, hp.get? b = some o → b ≠ dx :=
    fun {b o} q => Nat.ne_of_lt (Nat.lt_of_lt_of_le (Heap.lt_size q) dn)
  have nea : ∀ {b : Addr}, H b = none → b ≠ a := fun {b} n z => by
    rw [z, e] at n; cases n
  have U1 : Un X.fs [] H (upd (upd H dx (exd dx [(f, y)])) a (exo a C (some dx))) hp h' := by
    refine ⟨fun b o q n _ _ => k b o (nea n) q, fun b o q n _ _ => ⟨o.slots, k b o (nea n) q⟩, fun b o q n _ => ?_, fun b o q _ => ?_, fun b xs q => ?_, fun b o v q => ?_, fun b ps q => ⟨#[], ?_⟩⟩
    · rw [upd_ne (nea n), upd_ne (ndx q)]; exact n
    · by_cases hb : b = a
      · exact ⟨_, by rw [hb]; exact hx⟩
      · exact ⟨o, k b o hb q⟩
    · rw [upd_ne (at_ne e q exo_tup), upd_ne (ne_of_none q free1)]; exact q
    · rw [upd_ne (at_ne e q exo_frz), upd_ne (ne_of_none q free1)]; exact q
    · rw [upd_ne (at_ne e q exo_tbl), upd_ne (ne_of_none q free1), q]; simp
  refine h dx _ free1 dne (I.un (t' := tk') U1 fun b o q => ?_)
  by_cases hb : b = a
  · subst hb
    rw [upd_same] at q; cases q
    exact exo_ok hx
  · rw [upd_ne hb] at q
    by_cases hd : b = dx
    · subst hd
      rw [upd_same] at q; cases q
      exact exd_ok hn (relO_put (fs := []) ry fun g => True.intro)
    · rw [upd_ne hd] at q
      refine (I.hok b o q).stay (fun c v hc z => k c v ?_ z) (fun c hc => ?_) (fun c xs hc => ?_)
      · rcases hc with hc | hc
        · rw [hc]; exact hb
        · exact at_ne e hc exo_own
      · rw [upd_ne (at_ne e hc exo_own), upd_ne (ne_of_none hc free1)]; exact hc
      · rw [upd_ne (at_ne e hc exo_tup), upd_ne (ne_of_none hc free1)]; exact hc
theorem ostO (T : ExG X.K C) (I : Inv X pins σ H s) (e : H a = some (exo a C (some dx))) (ed : H dx = some (exd dx fs)) (hl : fs.length ≤ 900) (hno : PySem.W.findIn X.K (.ref C) f = some none) (ry : RelV y u)
    (h : ∀ s', Inv X pins σ (upd H dx (exd dx ((f, y) :: fs))) s' → Q () s') : wpAny (model X.prog X.w) Ar (setAttr (.ref a) f u) Q Er s := by
  obtain ⟨B, nid, iid, b3, nm, q, N, bs, bm, sn, sub, ab, col, dd, k0, k1, k2, k3, k5, FB, hT, hM, hC⟩ := T.cls
  have hcl : PySem.W.clsIn X.K C = some { name := nm, bases := bs, mro := .ref C :: bm, ns := N, qualname := q, hasDict := true, slotNames := sn, subclasses := sub, abstract := ab, collection := col, hasDel := false } := by
    unfold PySem.W.clsIn; rw [hC] <;> rfl
  obtain ⟨t1, ho⟩ := exo_at I.hok e
  obtain ⟨mA, hns, rel⟩ := exd_at I.hok ed
  have hw := within_of rel
  obtain ⟨hp, g, d, t, os⟩ := s
  obtain ⟨oD, _, _, hoD, _, _⟩ := hns.count hw
  refine PySem.W.set_plain I.kIn (ox := { cls := .ref C, dict := some dx, data := .fields #[.ref t1, .none, .none, .none, .bool false, .none] })
    (od := some oD) ⟨ho, rfl, rfl, hoD⟩ T.sa ?_
  refine osaO I.kIn ho hns hw (by rw [List.length_map]; omega) hcl hM rfl hno (fun h' tk' k hn => ?_)
  have hd : ∃ o, h'.get? dx = some o := by
    obtain ⟨o, _, _, e', _⟩ := hn
    exact ⟨o, e'⟩
  exact h _ (I.write (t' := tk') (x := dx) (e := dx) (o := exd dx ((f, y) :: fs)) (by rw [ed]; exact True.intro) (.inl rfl) k hd (exd_ok hn (relO_put ry rel)))
end
/-- self.f = e in an own exception's __init__ -/
def tOsG (K : PySem.W.Frag) (f : Str) (to te : TE) : TS := fun D σ H => te σ H fun y H1 => to σ H1 fun x H2 => ∃ a C : Addr, x = .ref a ∧ ExG K C ∧ PySem.W.findIn K (.ref C) f = some none ∧
  ((H2 a = some (exo a C none) ∧ ∀ dx, H2 dx = none → dx ≠ a → D.nx σ (upd (upd H2 dx (exd dx [(f, y)])) a (exo a C (some dx)))) ∨
    ∃ (dx : Addr) (fs : List (Str × V)), H2 a = some (exo a C (some dx)) ∧ H2 dx = some (exd dx fs) ∧ fs.length ≤ 900 ∧ D.nx σ (upd H2 dx (exd dx ((f, y) :: fs))))
/-- C(e, .., k = v, ..), C's own __init__ keeping sp: the exception stays a tracked value -/
def tMkG (C : Addr) (n m : Nat) (sp : Sp) (gV : List V → List V → List V) (t tk : TA) : TE := fun σ H Q => t σ H fun vs H1 => tk σ H1 fun zs H2 => vs.length = n ∧ zs.length = m ∧ vs.length ≤ 1000 ∧
  ∀ a, H2 a = none → sp (gV (.ref a :: vs) zs) (upd H2 a (exo a C none)) (fun v H3 => v = .non ∧ Q (.ref a) H3) (fun _ _ _ => False)
section
variable {X : Cx} {o e : Expr} {es : List Expr} {to te : TE} {ta tk : TA} {f : Str} {p p' p1 p2 pos : Pos} {kws : List Keyword} {ks : List Str} {n : Nat}
theorem ps_osG (ho : PE X o to) (he : PE X e te) (hs : swapsWith e (some (.Attribute o f p')) pos.line X.env = pure false := by rfl) : PS X (.Assign [.Attribute o f p'] e pos) (tOsG X.K f to te) := by
  refine ⟨fun pins s σ H D I h => ?_⟩
  refine plainObj_wpAny_Assign_Attribute (thn (he.run pins s σ H _ I h) fun v s1 ⟨y, H1, I1, r1, q1⟩ => thn (ho.run pins s1 σ H1 _ I1 q1) fun u s2 ⟨x, H2, I2, r2, a, C, ex, T, hno, q⟩ => ?_) hs
  subst ex
  obtain rfl : u = Value.ref a := r2
  rcases q with ⟨ea, q⟩ | ⟨dx, fs, ea, ed, hl, q⟩
  · exact ostN T I2 ea hno r1 fun dx s' n ne J => ⟨σ, _, J, q dx n ne⟩
  · exact ostO T I2 ea ed hl hno r1 fun s' J => ⟨σ, _, J, q⟩
variable {CX : CXT} {x : Str} {C fI : Addr} {k : Nat} {fd : FuncData} {ps : List Str} {sp : Sp} {g : List Value → List Value → List Value} {gV : List V → List V → List V}
theorem run_mkG {pins : List (Addr × Obj)} {σ : St} {H : Hp} {s : Shared} {Q : VK} {us ws : List Value} {vs zs : List V} (T : ExG X.K C) (iC : PySem.W.findIn X.K (.ref C) "__init__" = some (some (.ref fI)))
    (tI : PySem.W.typeIn X.K (.ref fI) = some (.type "function")) (F1 : FnOk X.prog X.w X.K X.mg X.base CX k fI fd ps sp) (hr : Room (k + 1) X.A) (hb : KBn X.K fd ps (n + 1) ks g gV) (hx : Passes CX X (fun _ _ _ => False))
    (I : Inv X pins σ H s) (r : Vals vs us) (rz : Vals zs ws) (l1 : vs.length = n) (l2 : zs.length = ks.length) (l3 : vs.length ≤ 1000)
    (h : ∀ a, H a = none → sp (gV (.ref a :: vs) zs) (upd H a (exo a C none)) (fun v H3 => v = .non ∧ Q (.ref a) H3) (fun _ _ _ => False)) :
    wpAny (model X.prog X.w) X.A (call (.ref C) us (ks.zip ws)) (EP X pins σ Q) X.xe s := by
  obtain ⟨B, nid, iid, b3, nm, q, N, bs, bm, sn, sub, ab, col, dd, k0, k1, k2, k3, k5, FB, hT, hM, hC⟩ := T.cls
  obtain ⟨hp, gn, dr, tkk, os⟩ := s
  have hsz : hp.objs.size ≤ hp.objs.size + 1 := Nat.le_succ _
  have hn : H (hp.objs.size + 1) = none := I.hok.fresh hsz
  have hq := h (hp.objs.size + 1) hn
  have kk : ∀ b o, hp.get? b = some o → ((hp.push (PySem.W.kdv_tup us)).push (PySem.HandSPX.excO C hp.objs.size)).get? b = some o :=
    fun b o e => Heap.get?_push_of_some _ (Heap.get?_push_of_some _ e)
  have hgt : ((hp.push (PySem.W.kdv_tup us)).push (PySem.HandSPX.excO C hp.objs.size)).get? (hp.objs.size + 1) = some (PySem.HandSPX.excO C hp.objs.size) := by
    heap_get
  have I2 : Inv X pins σ (upd H (hp.objs.size + 1) (exo (hp.objs.size + 1) C none)) ⟨(hp.push (PySem.W.kdv_tup us)).push (PySem.HandSPX.excO C hp.objs.size), gn, dr, tkk, os⟩ :=
    I.laid (t' := tkk) (a := hp.objs.size + 1) (o := exo (hp.objs.size + 1) C none)
      (h' := (hp.push (PySem.W.kdv_tup us)).push (PySem.HandSPX.excO C hp.objs.size)) kk hsz (exo_ok hgt)
  have r1 : Vals (V.ref (hp.objs.size + 1) :: vs) (Value.ref (hp.objs.size + 1) :: us) := .cons rfl r
  have r2 := hb.rel r1 rz
  have n1 : (Value.ref (hp.objs.size + 1) :: us).length = n + 1 := by
    rw [List.length_cons, ← r.length, l1]
  have hus : us.length ≤ sizeLine := by
    rw [← Paired.length r, sizeLine_eq]; omega
  refine wpAny_call (callK FB hT (I.kIn _ _ hC) (PySem.W.looks_findIn I.kIn iC) (fun self => PySem.W.bind_fn I.kIn self tI) hus
    (codeAny_mono (F1.run _ X.stack _ _ ⟨Value.ref (hp.objs.size + 1) :: us, ks.zip ws⟩ (g (Value.ref (hp.objs.size + 1) :: us) ws) _ _ (fun _ _ _ => False)
      (hr.make C us (ks.zip ws)) (I2.env0.make C us (ks.zip ws)) (hb.to _ (Value.ref (hp.objs.size + 1) :: us) ws I2.kIn n1 (rz.length.symm.trans l2)) r2 hq) fun r s' hq' => ?_))
  cases r with
  | error er => exact hx pins σ _ _ er s' I2 hq'
  | ok fl =>
    cases fl with
    | ret u =>
      obtain ⟨v, H', I3, rv, ev, q3⟩ := I2.after hq'
      subst ev
      exact ⟨rv, ⟨V.ref (hp.objs.size + 1), H', I3, rfl, q3⟩⟩
    | next => exact False.elim hq'
    | brk => exact False.elim hq'
    | cont => exact False.elim hq'
theorem pe_mkG (T : ExG X.K C) (iC : PySem.W.findIn X.K (.ref C) "__init__" = some (some (.ref fI))) (tI : PySem.W.typeIn X.K (.ref fI) = some (.type "function"))
    (F1 : FnOk X.prog X.w X.K X.mg X.base CX k fI fd ps sp) (hr : Room (k + 1) X.A) (hg : Gl X x) (hm : X.mg x = some (.ref C)) (hb : KBn X.K fd ps (n + 1) [] g gV) (hx : Passes CX X (fun _ _ _ => False)) (ha : PA X (e :: es) ta)
    (hdb : (x == ("__debug__" : Str)) = false := by decide) (he : starEach (e :: es) X.env = (false, eval e X.env) :: starEach es X.env := by rfl) (hpl : (backTo pos (starEach es X.env)).any (·.1) = false := by rfl) :
    PE X (.Call (.Name x p) (e :: es) [] pos) (tMkG C n 0 sp gV ta tNil) := by
  refine ⟨fun pins s σ H Q I h => ?_⟩
  refine wpAny_Call_Name_kw (ld_glob I hg hm ?_ hdb)
  refine PySem.W.callWith_K (h₀ := X.base) I.ok.mod.kin T.kC (thn (ha.run pos pins s σ H _ I h) fun us s1 ⟨vs, H1, I1, r, l1, l2, l3, q⟩ => ⟨I1.kIn, ?_⟩) he hpl
  exact run_mkG (ws := []) (zs := []) T iC tI F1 hr hb hx I1 r .nil l1 l2 l3 q
theorem pe_mkGK (T : ExG X.K C) (iC : PySem.W.findIn X.K (.ref C) "__init__" = some (some (.ref fI))) (tI : PySem.W.typeIn X.K (.ref fI) = some (.type "function"))
    (F1 : FnOk X.prog X.w X.K X.mg X.base CX k fI fd ps sp) (hr : Room (k + 1) X.A) (hg : Gl X x) (hm : X.mg x = some (.ref C)) (hb : KBn X.K fd ps 1 ks g gV) (hx : Passes CX X (fun _ _ _ => False)) (hkw : PK X kws tk)
    (hall : (backToKw pos (keywordEach kws X.env)).all (·.1.isSome) = true := by rfl) (hks : (backToKw pos (keywordEach kws X.env)).filterMap (·.1) = ks := by rfl) (hdb : (x == ("__debug__" : Str)) = false := by decide)
    (hpl : ((backTo pos (starEach [] X.env)).any (·.1) || (backToKw pos (keywordEach kws X.env)).any (·.1.isNone)) = false := by rfl) :
    PE X (.Call (.Name x p) [] kws pos) (tMkG C 0 ks.length sp gV tNil tk) := by
  refine ⟨fun pins s σ H Q I h => ?_⟩
  refine wpAny_Call_Name_kw (ld_glob I hg hm ?_ hdb)
  refine PySem.W.callWith_KW0 (h₀ := X.base) I.ok.mod.kin T.kC hall ?_ hpl
  refine thn (hkw.run pos pins s σ H _ I h) fun ws s2 ⟨zs, H2, I2, rz, l1, l2, l3, q2⟩ => ⟨I2.kIn, ?_⟩
  rw [hks]
  exact run_mkG (us := []) (vs := []) T iC tI F1 hr hb hx I2 .nil rz rfl l2 (Nat.zero_le _) q2
end
end L2
namespace L2
open PySem PySem.Spec PyProof.Rows PySem.GX
/-- flat things -/
inductive Fl : V → PyData → Prop
  | non : Fl .non .none
  | bl (b : Bool) : Fl (.bl b) (.bool b)
  | int (i : Int) : Fl (.int i) (.int i)
  | str (x : Str) : Fl (.str x) (.str x)
mutual
/-- the data that a value is, dicts of flat things among them -/
inductive Sh (K : PySem.W.Frag) (H : Hp) : V → PyData → Prop
  | fl {v : V} {d : PyData} : Fl v d → Sh K H v d
  | lst {a : Addr} {xs : List V} {ds : List PyData} : SqL K H a xs → ShAll K H xs ds → Sh K H (.ref a) (.list ds)
  | tup {a : Addr} {xs : List V} {ds : List PyData} : SqT K H a xs → ShAll K H xs ds → Sh K H (.ref a) (.tuple ds)
  | dic {a : Addr} {kvs : List (Key × V)} {kds : List (PyData × PyData)} : H a = some (.dK kvs) → Paired Fl (kvs.map fun p => kV p.1) (kds.map (·.1)) → Paired Fl (kvs.map (·.2)) (kds.map (·.2)) →
      Sh K H (.ref a) (.dict kds)
inductive ShAll (K : PySem.W.Frag) (H : Hp) : List V → List PyData → Prop
  | nil : ShAll K H [] []
  | cons {v : V} {vs : List V} {d : PyData} {ds : List PyData} : Sh K H v d → ShAll K H vs ds → ShAll K H (v :: vs) (d :: ds)
end
section
variable {pr : Program} {wd : World} {h0 : Heap}
theorem Fl.reads {v : V} {d : PyData} {u : Value} (f : Fl v d) (r : RelV v u) : Reads h0 u d [] := by
  cases f with
  | non => cases r; exact .none
  | bl b => cases r; exact .bool b
  | int i => obtain ⟨t, rfl⟩ := r; exact .int i t
  | str x => obtain ⟨t, rfl⟩ := r; exact .str x t
theorem Fl.repr {v : V} {d : PyData} {u : Value} (f : Fl v d) (r : RelV v u) (hs : d.showable = true) (hz : d.shown.length ≤ sizeLine) (n : Nat) (bs : List Addr) : ReprK pr wd bs h0 n u d.shown := by
  cases f with
  | non => cases r; simp only [PyData.shown]; exact .of_is ReprIs.none _ _ _
  | bl b => cases r; simp only [PyData.shown]; exact .of_is (ReprIs.bool b) _ _ _
  | int i => obtain ⟨t, rfl⟩ := r; simp only [PyData.shown]; exact .of_is (ReprIs.int t (by simpa [PyData.showable] using hs)) _ _ _
  | str x => obtain ⟨t, rfl⟩ := r; simp only [PyData.shown]; exact .of_is (ReprIs.str x t (by simpa only [PyData.shown] using hz)) _ _ _
theorem flAll_reads : ∀ {vs : List V} {ds : List PyData} {us : List Value}, Paired Fl vs ds → Vals vs us → ReadsAll h0 us ds []
  | _, _, _, .nil, .nil => .nil
  | _, _, _, .cons f t, .cons r q => ReadsAll.cons (as := []) (bs := []) (f.reads r) (flAll_reads t q)
theorem flAll_repr (n : Nat) (bs : List Addr) : ∀ {vs : List V} {ds : List PyData} {us : List Value}, Paired Fl vs ds → Vals vs us → PyData.showableAll ds = true → (∀ t ∈ PyData.shownAll ds, t.length ≤ sizeLine) → ReprAllK pr wd bs h0 n us (PyData.shownAll ds)
  | _, _, _, .nil, .nil, _, _ => by simp only [PyData.shownAll]; exact .nil
  | _, d :: ds, _, .cons f t, .cons r q, hs, hz => by
    have hs' : d.showable = true ∧ PyData.showableAll ds = true := by simpa [PyData.showableAll] using hs
    simp only [PyData.shownAll] at hz ⊢
    exact .cons (f.repr r hs'.1 (hz _ (List.mem_cons_self ..)) n bs) (flAll_repr n bs t q hs'.2 fun t ht => hz t (List.mem_cons_of_mem _ ht))
end
theorem pairs_split {P : Program} {w : World} : ∀ {es : List DictEntry} {kvs : List (Key × V)} {vs : List (Key × Value)}, Pairs (mixKind P w) es vs → KV kvs vs → Vals (kvs.map fun p => kV p.1) (es.map (·.key)) ∧ Vals (kvs.map (·.2)) (es.map (·.val))
  | _, _, _, .nil, .nil => ⟨.nil, .nil⟩
  | e :: es, (k, v) :: kvs, (k', u) :: vs, .cons h1 h2 t, .cons r q => by
    obtain ⟨a, b⟩ := pairs_split t q
    obtain ⟨r1, r2⟩ := r
    have r1' : k = k' := r1
    subst r1'
    have hk : keyIs k e.key = true := h1
    have h2' : e.val = u := h2
    have rk : RelV (kV k) e.key := by
      rcases keyIs_shape hk with ⟨i, t, rfl, q⟩ | ⟨x, t, rfl, q⟩
      · exact ⟨t, q⟩
      · exact ⟨t, q⟩
    exact ⟨.cons rk a, .cons (show RelV v e.val by rw [h2']; exact r2) b⟩
section
variable {X : Cx} {pins : List (Addr × Obj)} {σ : St} {H : Hp} {s : Shared}
mutual
theorem Sh.both (I : Inv X pins σ H s) : ∀ (d : PyData) (v : V) (u : Value), Sh X.K H v d → RelV v u → d.showable = true → d.shown.length ≤ sizeLine →
    (∃ as, Reads s.heap u d as) ∧ ∃ bs, ReadAtMost s.heap d.depth bs ∧ ReprK X.prog X.w bs s.heap d.depth u d.shown
  | .none, _, _, h, r, hs, hz => by
    cases h with
    | fl f => exact ⟨⟨_, f.reads r⟩, [], (fun _ z => nomatch z), f.repr r hs hz _ _⟩
  | .bool b, _, _, h, r, hs, hz => by
    cases h with
    | fl f => exact ⟨⟨_, f.reads r⟩, [], (fun _ z => nomatch z), f.repr r hs hz _ _⟩
  | .int i, _, _, h, r, hs, hz => by
    cases h with
    | fl f => exact ⟨⟨_, f.reads r⟩, [], (fun _ z => nomatch z), f.repr r hs hz _ _⟩
  | .str x, _, _, h, r, hs, hz => by
    cases h with
    | fl f => exact ⟨⟨_, f.reads r⟩, [], (fun _ z => nomatch z), f.repr r hs hz _ _⟩
  | .list ds, _, _, h, r, hs, hz => by
    cases h with
    | fl f => cases f
    | @lst a xs _ hq ha =>
      cases r
      obtain ⟨its, rv, ⟨o, n, ho, hc, _, hd⟩, _⟩ := I.list hq
      have hz' : (listText (PyData.shownAll ds)).length ≤ sizeLine := by simpa only [PyData.shown] using hz
      obtain ⟨⟨as, hr⟩, bs, hb, hk⟩ := Sh.bothAll I ds xs its ha rv (by simpa [PyData.showable] using hs) (fun t ht => Nat.le_trans (listText_mem_le ht) hz')
      have rr : Reads s.heap (.ref a) (.list ds) _ := Reads.list ho hc hd hr
      have hna : a ∉ bs := not_mem_of_deeper rr (by simp only [PyData.depth]; omega) hb
      refine ⟨⟨_, rr⟩, a :: bs, ReadAtMost.cons rr (by simp only [PyData.depth]; omega) hb, ?_⟩
      simp only [PyData.depth, PyData.shown]
      cases its with
      | nil =>
        cases hr
        simp only [PyData.shownAll, listText_nil]
        exact ReprK.listEmpty ho hc hd
      | cons x l => exact ReprK.list ho hc hd hna (by simpa using hk.length_eq) (fun i y e => hk.item i y (by simpa using e))
  | .tuple ds, _, _, h, r, hs, hz => by
    cases h with
    | fl f => cases f
    | @tup a xs _ hq ha =>
      cases r
      obtain ⟨its, rv, ⟨o, ho, hc, n, hd⟩, _⟩ := I.tuple hq
      have hz' : (tupleText (PyData.shownAll ds)).length ≤ sizeLine := by simpa only [PyData.shown] using hz
      obtain ⟨⟨as, hr⟩, bs, hb, hk⟩ := Sh.bothAll I ds xs its ha rv (by simpa [PyData.showable] using hs) (fun t ht => Nat.le_trans (tupleText_mem_le ht) hz')
      have rr : Reads s.heap (.ref a) (.tuple ds) _ := Reads.tuple ho hc hd hr
      have hna : a ∉ bs := not_mem_of_deeper rr (by simp only [PyData.depth]; omega) hb
      refine ⟨⟨_, rr⟩, a :: bs, ReadAtMost.cons rr (by simp only [PyData.depth]; omega) hb, ?_⟩
      simp only [PyData.depth, PyData.shown]
      exact ReprK.tuple ho hc hd hna hk
  | .dict kds, _, _, h, r, hs, hz => by
    cases h with
    | fl f => cases f
    | @dic a kvs _ hq fk fv =>
      cases r
      obtain ⟨_, hsys, vs, rkv, o, es, ep, ho, ⟨hc, _⟩, hd, _, hp, _⟩ := I.hok a _ hq
      obtain ⟨vk, vv⟩ := pairs_split hp rkv
      obtain ⟨hs1, hs2⟩ := PyData.showableKv_split kds (by simpa [PyData.showable] using hs)
      have hz' : (dictText (PyData.shownKv kds)).length ≤ sizeLine := by simpa only [PyData.shown] using hz
      have k1 : ReprAllK X.prog X.w [] s.heap (PyData.depthKv kds) _ _ := flAll_repr (PyData.depthKv kds) [] fk vk hs1 (fun t ht => by
        obtain ⟨p, hp, hl⟩ := PyData.shownKv_key_le kds t ht
        exact Nat.le_trans hl (Nat.le_trans (dictText_mem_le hp) hz'))
      have k2 : ReprAllK X.prog X.w [] s.heap (PyData.depthKv kds) _ _ := flAll_repr (PyData.depthKv kds) [] fv vv hs2 (fun t ht => by
        obtain ⟨p, hp, hl⟩ := PyData.shownKv_val_le kds t ht
        exact Nat.le_trans hl (Nat.le_trans (dictText_mem_le hp) hz'))
      have rr : Reads s.heap (.ref a) (.dict kds) _ := Reads.dict ho hc hd (flAll_reads fk vk) (flAll_reads fv vv)
      refine ⟨⟨_, rr⟩, [a], ReadAtMost.cons rr (n := 0) (Nat.zero_le _) (fun _ z => nomatch z), ?_⟩
      simp only [PyData.depth, PyData.shown, PyData.shownKv_eq]
      exact ReprK.dict ho hc hd hsys (fun z => nomatch z) (ReprEntriesK.of_two es.toList _ _ k1 k2)
theorem Sh.bothAll (I : Inv X pins σ H s) : ∀ (ds : List PyData) (vs : List V) (us : List Value), ShAll X.K H vs ds → Vals vs us → PyData.showableAll ds = true → (∀ t ∈ PyData.shownAll ds, t.length ≤ sizeLine) →
    (∃ as, ReadsAll s.heap us ds as) ∧ ∃ bs, ReadAtMost s.heap (PyData.depthAll ds) bs ∧ ReprAllK X.prog X.w bs s.heap (PyData.depthAll ds) us (PyData.shownAll ds)
  | [], _, _, h, r, _, _ => by
    cases h
    cases r
    refine ⟨⟨_, ReadsAll.nil⟩, [], (fun _ z => nomatch z), ?_⟩
    simp only [PyData.shownAll]
    exact .nil
  | d :: ds, _, _, h, r, hs, hz => by
    cases h with
    | cons h1 h2 =>
      cases r with
      | cons r1 r2 =>
        have hs' : d.showable = true ∧ PyData.showableAll ds = true := by simpa [PyData.showableAll] using hs
        simp only [PyData.shownAll] at hz
        obtain ⟨⟨as, q1⟩, b1, hb1, k1⟩ := Sh.both I d _ _ h1 r1 hs'.1 (hz _ (List.mem_cons_self ..))
        obtain ⟨⟨bs, q2⟩, b2, hb2, k2⟩ := Sh.bothAll I ds _ _ h2 r2 hs'.2 (fun t ht => hz t (List.mem_cons_of_mem _ ht))
        refine ⟨⟨_, ReadsAll.cons q1 q2⟩, b1 ++ b2, ?_, ?_⟩
        · simp only [PyData.depthAll]
          exact (hb1.mono (Nat.le_max_left _ _)).append (hb2.mono (Nat.le_max_right _ _))
        · simp only [PyData.depthAll, PyData.shownAll]
          exact .cons ((k1.more fun b hb => List.mem_append_left _ hb).level_le (Nat.le_max_left _ _)) (k2.more_le (fun b hb => List.mem_append_right _ hb) (Nat.le_max_right _ _))
end
end
/-- repr(x), x a list -/
def rRepr (K : PySem.W.Frag) : List V → Hp → VK → Prop := fun xs H Q => ∃ (a : Addr) (ds : List PyData), xs = [.ref a] ∧ Sh K H (.ref a) (.list ds) ∧ PyData.showableAll ds = true ∧ (PyData.list ds).shown.length ≤ sizeLine ∧ (PyData.list ds).depth ≤ 60 ∧
  Q (.str (PyData.list ds).shown) H
theorem call_reprL {X : Cx} (hg : X.A.guards = some []) (hu : X.A.units + 64 < cLine) : CallR X (.builtin "repr") (rRepr X.K) := by
  intro pins s σ H xs us Q I r h
  obtain ⟨a, ds, rfl, hsh, hs, hz, hdp, q⟩ := h
  cases r with
  | cons r1 r2 =>
    cases r2
    cases r1
    cases hsh with
    | fl f => cases f
    | @lst _ xs _ hq ha =>
      obtain ⟨its, rv, ⟨o, n, ho, hc, _, hd⟩, _⟩ := I.list hq
      have hz' : (listText (PyData.shownAll ds)).length ≤ sizeLine := by simpa only [PyData.shown] using hz
      obtain ⟨⟨as, hr⟩, bs, hb, hk⟩ := Sh.bothAll I ds xs its ha rv hs (fun t ht => Nat.le_trans (listText_mem_le ht) hz')
      have rr : Reads s.heap (.ref a) (.list ds) _ := Reads.list ho hc hd hr
      have hna : a ∉ bs := not_mem_of_deeper rr (by simp only [PyData.depth]; omega) hb
      simp only [PyData.depth] at hdp
      simp only [PyData.shown] at q
      refine call_repr_slot (by omega) ⟨o, ho, hc⟩ F.slot_list_repr.toG ?_
      have fin : ∀ (h' : Heap) (u : Tok) (tk : Nat), (∀ b o, s.heap.get? b = some o → h'.get? b = some o) → EP X pins σ Q (.str (listText (PyData.shownAll ds)) u) { s with heap := h', toks := tk } :=
        fun h' u tk k => ⟨.str (listText (PyData.shownAll ds)), H, I.kept k, ⟨u, rfl⟩, q⟩
      cases its with
      | nil =>
        cases hr
        simp only [PyData.shownAll, listText_nil] at fin
        exact call_list_repr_empty ⟨o, ho, hc⟩ ho hd ⟨_, _, rfl, fin s.heap _ _ fun _ _ e => e⟩
      | cons x l =>
        exact call_list_reprK ho hc hd hna (by simpa using hk.length_eq) (fun i y e => hk.item i y (by simpa using e)) hg (fun b _ => Clear.nil b)
          (by show X.A.units + 1 + _ < cLine; omega) (fun _ _ e => e) (fun h' u tk k => ⟨_, _, rfl, fin h' u tk k⟩) hz'
end L2
namespace L2
open PySem PySem.Spec PyProof.Rows PySem.GX
/-- a def's promise where no repr is under way -/
structure FnG (P : Program) (w : World) (K : PySem.W.Frag) (mg : Str → Option Value) (base : Heap) (CX : CXT) (k : Nat) (f : Addr) (fd : FuncData) (ps : List Str) (sp : Sp) : Prop where
  len : ∀ vs H Q E, sp vs H Q E → vs.length = ps.length
  run : ∀ (A : Around) (outer : List Env) (s : Shared) (H : Hp) (args : Args) (us : List Value) (vs : List V) (Q : VK) (E : XK), A.guards = some [] → Room k A → Env0 P w K mg base A outer s H →
    BindsTo s fd args (ps.zip us) → Vals vs us → sp vs H Q E → codeAny (model P w) A (.call (.ref f) args) (CR CX outer P w H s Q E) s
section
variable {P : Program} {w : World} {K : PySem.W.Frag} {mg : Str → Option Value} {base : Heap} {CX : CXT}
theorem fnG_of {k : Nat} {f : Addr} {name qual : Str} {params : Arguments} {body : List Stmt} {scope : Scope} {dV kV doc pm cdv ct oc : Value} {an od : Option Addr}
    {osl : Array (Option Value)} {N ps : List Str} {sp : Sp} (lk : K.lookup f = some ⟨oc, od, .func (PySem.W.fnOf name qual params body scope dV kV doc pm an cdv ct), osl⟩)
    (hcd : PySem.W.codeIn K cdv qual = true) (S : FnScope N ps scope) (len : ∀ vs H Q E, sp vs H Q E → vs.length = ps.length)
    (hbody : ∀ (A : Around) (outer : List Env) (s : Shared) (H : Hp) (vs : List V) (Q : VK) (E : XK), A.guards = some [] → Room k (A.deeper (envOfC qual scope s.heap.objs.size f cdv)) → sp vs H Q E →
      ∃ t, PSs (cxOf CX P w K mg base N qual scope f cdv A outer s H E) body t ∧ t { nx := fun _ H' => Q .non H', rt := Q } (start N vs) H) :
    FnG P w K mg base CX (k + 1) f (PySem.W.fnOf name qual params body scope dV kV doc pm an cdv ct) ps sp := by
  refine ⟨len, fun A outer s H args us vs Q E hgd hr e0 hb r hsp => ?_⟩
  have hl := len _ _ _ _ hsp
  have KX : K.In s.heap := e0.mod.kin.keeps fun b o e => (e0.bs b o e).1
  have lim : s.heap.NoLimit := e0.mod.nolimit.keeps fun b o e => (e0.bs b o e).1
  have hkind : ∀ y ∈ ps.zip us, scope.names.lookup y.1 = some .local ∨
      (scope.names.lookup y.1 = some .cell ∧ ((cellsFrom (s.heap.objs.size + 1) scope.names []).lookup y.1).isSome = true) := fun ⟨n, v⟩ hy => by
    rcases S.par n (List.of_mem_zip hy).1 with q | q
    · exact .inl q
    · exact .inr ⟨q, PySem.W.cellsFrom_some _ _ _ (.inl q)⟩
  refine codeAny_call_function hr.depth (KX _ _ lk) rfl S.co S.gen rfl (PySem.W.codeRec_of KX hcd) (hb _ _ _ _ ?_)
  refine wpAny_newFunctionEnv_cells S.kind hkind fun env he s1 x => ?_
  subst he
  refine ⟨lim.keeps x.toInCall.keep, codeAny_func ?_⟩
  obtain ⟨t, ht, hq⟩ := hbody A outer s H vs Q E hgd (hr.deeper _) hsp
  have I : Inv (cxOf CX P w K mg base N qual scope f cdv A outer s H E) [] (start N vs) H s1 := inv_start S hr.hd e0 hl r x
  refine wpAny_mono (ht.run [] s1 (start N vs) H _ I hq) (fun fl s' hs => ?_) fun e s' hs => hs
  cases fl with
  | ret u =>
    obtain ⟨v, σ', H', J, rv, q⟩ := hs
    exact ⟨v, H', J.os, J.bare, J.base, J.hok, rv, q⟩
  | next =>
    obtain ⟨σ', H', J, q⟩ := hs
    exact ⟨V.non, H', J.os, J.bare, J.base, J.hok, rfl, q⟩
  | brk =>
    obtain ⟨_, _, _, q⟩ := hs
    exact False.elim q
  | cont =>
    obtain ⟨_, _, _, q⟩ := hs
    exact False.elim q
theorem Fun.okG {x qual : Str} {st : Stmt} {f : Addr} {fd : FuncData} {N ps : List Str} {k : Nat} {sp : Sp} (F : Fun K x qual st f fd) (S : FnScope N ps (defScope st)) (len : ∀ vs H Q E, sp vs H Q E → vs.length = ps.length)
    (hbody : ∀ (cdv : Value) (A : Around) (outer : List Env) (s : Shared) (H : Hp) (vs : List V) (Q : VK) (E : XK), A.guards = some [] → Room k (A.deeper (envOfC qual (defScope st) s.heap.objs.size f cdv)) → sp vs H Q E →
      ∃ t, PSs (cxOf CX0 P w K mg base N qual (defScope st) f cdv A outer s H E).nox (defBody st) t ∧ t { nx := fun _ H' => Q .non H', rt := Q } (start N vs) H) : FnG P w K mg base CX0 (k + 1) f fd ps sp := by
  obtain ⟨oc, od, kV, doc, pm, an, cdv, ct, osl, rfl, lk, hcd⟩ := F.ex
  refine fnG_of lk hcd S len fun A outer s H vs Q E hgd hr hsp => ?_
  obtain ⟨t, h, q⟩ := hbody cdv A outer s H vs Q E hgd hr hsp
  exact ⟨t, h.nox, q⟩
end
section
variable {X : Cx} {CX : CXT} {k : Nat} {f C : Addr} {fd : FuncData} {ps : List Str} {sp : Sp} {E : XK} {x : Str} {p pos : Pos} {e : Expr} {es : List Expr} {t : TA}
theorem pe_callG (F : FnG X.prog X.w X.K X.mg X.base CX k f fd ps sp) (hgd : X.A.guards = some []) (hr : Room k X.A) (hg : Gl X x) (hm : X.mg x = some (.ref f)) (hk : PySem.W.keepIn X.K (.ref f) = true) (hb : Binds X.K fd ps []) (hx : Passes CX X E)
    (ha : PA X (e :: es) t) (hdb : (x == ("__debug__" : Str)) = false := by decide) (he : starEach (e :: es) X.env = (false, eval e X.env) :: starEach es X.env := by rfl) (hpl : (backTo pos (starEach es X.env)).any (·.1) = false := by rfl) :
    PE X (.Call (.Name x p) (e :: es) [] pos) (tCall sp [] E t) := by
  refine ⟨fun pins s σ H Q I h => ?_⟩
  refine wpAny_Call_Name_kw (ld_glob I hg hm ?_ hdb)
  refine PySem.W.callWith_K (h₀ := X.base) I.ok.mod.kin hk (thn (ha.run pos pins s σ H _ I h) fun us s1 ⟨vs, H1, I1, r, q⟩ => ⟨I1.kIn, ?_⟩) he hpl
  have r2 : Vals (vs ++ []) (us ++ []) := r.append .nil
  have hl : (us ++ []).length = ps.length := by rw [← r2.length]; exact F.len _ _ _ _ q
  refine wpAny_call (codeAny_mono (F.run X.A X.stack s1 H1 ⟨us, []⟩ (us ++ []) (vs ++ []) Q E hgd hr I1.env0 (hb s1 us I1.kIn hl) r2 q) fun r s' hq => ?_)
  cases r with
  | error e => exact hx pins σ H1 s1 e s' I1 hq
  | ok fl =>
    cases fl with
    | ret u => exact I1.after hq
    | next => exact False.elim hq
    | brk => exact False.elim hq
    | cont => exact False.elim hq
/-- X(), an own exception class without own __init__ -/
theorem pe_exc0G {bmB : List Value} {B nid iid : String} (F : ExcBaseFacts B nid iid bmB) (q : PySem.W.excIn X.K C bmB nid = true) (gC : X.mg x = some (.ref C)) (kC : PySem.W.keepIn X.K (.ref C) = true) (hg : Gl X x)
    (hdb : (x == ("__debug__" : Str)) = false := by decide) :
    PE X (.Call (.Name x p) [] [] pos) (fun σ H Q => ∀ a, H a = none → Q (.ref a) (upd H a (exo a C none))) := by
  refine ⟨fun pins s σ H Q I h => ?_⟩
  refine wpAny_Call_Name_kw (ld_glob I hg gC ?_ hdb)
  refine PySem.W.callWith_K0 I.kIn kC ?_
  obtain ⟨bm, N, nm, qn, bs, hdct, sn, sub, ab, col, dd, k0, k1, k2, k3, k5, mN, hC, hN, hni, T⟩ := exc_obj I.kIn q
  refine wpAny_call_exc_subT F T hC hN hni (fun h' a hm => ?_) (by show 0 ≤ sizeLine; exact Nat.zero_le _)
  have hn : H a = none := I.hok.gone hm.new
  obtain ⟨t, ht, _, _⟩ := hm.there
  exact ⟨.ref a, upd H a (exo a C none), I.laidN hm.keeps hm.new hn (exo_ok ht), rfl, h a hn⟩
end
/-- the law's call, its promise where no repr is under way -/
theorem law_callG {P : Program} {w : World} {K : PySem.W.Frag} {mg mb : Str → Option Value} {CX : CXT} {k : Nat} {fa a : Addr} {fd : FuncData} {x : Str} {sp : Sp} {s1 : Shared} {vs : List Value} {ns : List Int}
    (KX : K.In s1.heap) (hns : s1.heap.Ns mainGlobals mg) (hb : s1.heap.Ns builtinsNs mb) (hbb : ∀ x : Str, x ≠ "__name__" → mb x = bootBuiltins x) (hlim : s1.heap.NoLimit) (hg : s1.gens = #[])
    (ha : s1.heap.get? a = some { cls := .type "list", data := .seq vs.toArray }) (hi : IntsAre vs ns) (hl : ns.length ≤ sizeLine) (hr : Room k callerA)
    (F : ∀ base : Heap, K.In base → base.Ns mainGlobals mg → FnG P w K mg base CX k fa fd [x] sp) (hbind : ∀ (s : Shared) (u : Value), BindsTo s fd ⟨[u], []⟩ [(x, u)])
    (hsp : ∀ H : Hp, Only H → SqL K H a (ns.map V.int) → sp [.ref a] H (fun v _ => v = .bl true) fun _ _ _ => False)
    (hCX : ∀ H e s', CX [] H s1 (fun _ _ _ => False) e s' → False) :
    codeAny (model P w) callerA (.call (.ref fa) ⟨[.ref a], []⟩) (fun r s' => r = .ok (.ret (.bool true)) ∧ OldK s1.heap s'.heap ∧ s'.os = s1.os ∧ AllBare s'.gens) s1 := by
  have rv := vals_ints hi
  have lenV := hi.length
  have core : ∀ H : Hp, Only H → SqL K H a (ns.map V.int) → HOk P w H s1.heap → (∀ b, H b ≠ none → b = a) → (H a ≠ none → K.lookup a = none) →
      codeAny (model P w) callerA (.call (.ref fa) ⟨[.ref a], []⟩) (fun r s' => r = .ok (.ret (.bool true)) ∧ OldK s1.heap s'.heap ∧ s'.os = s1.os ∧ AllBare s'.gens) s1 := by
    intro H hO hS hok hA hK
    have isA : ∀ {b : Addr} {u : HO}, H b = some u → b = a := fun {b u} q => hA b (by rw [q]; simp)
    have nod : ∀ {b : Addr} {o : Obj} {es : Array DictEntry} {ep : Nat}, s1.heap.get? b = some o → o.data = .dict es ep → H b = none := fun {b o es ep} e d => by
      cases q : H b with
      | none => rfl
      | some u =>
        have e1 := isA q
        subst e1
        rw [ha] at e
        cases e
        cases (show Data.seq vs.toArray _ = Data.dict es ep from d)
    have nsK : ∀ {b : Addr} {m : Str → Option Value}, s1.heap.Ns b m → (hidT s1.heap H).Ns b m :=
      fun {b m} ⟨o, es, ep, e, d, r⟩ => ⟨o, es, ep, hidT_get e (nod e d), d, r⟩
    have hKb : K.In (hidT s1.heap H) := fun b o e => hidT_get (KX b o e) (by
      cases q : H b with
      | none => rfl
      | some u =>
        have e1 := isA q
        subst e1
        rw [hK (by rw [q]; simp)] at e
        cases e)
    have hM : Mod K mg (hidT s1.heap H) :=
      ⟨hKb, nsK hns, ⟨mb, nsK hb, hbb⟩, let ⟨mc, h1, h2⟩ := hlim; ⟨mc, nsK h1, h2⟩⟩
    have e0 : Env0 P w K mg (hidT s1.heap H) callerA [] s1 H :=
      ⟨rfl, hM, fun b o e => of_hidT e, Nat.le_of_eq (hidT_size _ _), trivial, fun b hb => absurd (show b ∈ ([] : List Addr) from hb) (by simp), hok, .of_eq hg⟩
    refine codeAny_mono ((F _ hKb (nsK hns)).run callerA [] s1 H ⟨[.ref a], []⟩ [.ref a] [.ref a] _ _ rfl hr e0 (hbind s1 (.ref a)) (.cons rfl .nil) (hsp H hO hS)) fun r s' h => ?_
    cases r with
    | error e => exact (hCX H e s' h).elim
    | ok fl =>
      cases fl with
      | next => exact False.elim h
      | brk => exact False.elim h
      | cont => exact False.elim h
      | ret u =>
        obtain ⟨v, H', os, bare, un, hok', r', q⟩ := h
        have qv : v = .bl true := q
        subst qv
        obtain rfl : u = Value.bool true := r'
        refine ⟨rfl, OldK.of_keep fun b o e => ?_, os, bare⟩
        cases q : H b with
        | none => exact un.keep b o e q (by intro z; exact absurd (show b ∈ ([] : List Addr) from z) (by simp)) (by simp)
        | some u =>
          rcases hO b with z | ⟨ob, xs, z⟩
          · rw [q] at z; cases z
          · have z2 := un.frzs b ob _ z
            obtain ⟨e1, _⟩ := hok b _ z
            obtain ⟨e2, _⟩ := hok' b _ z2
            rw [e] at e1
            cases e1
            exact e2
  cases hk : K.lookup a with
  | some o =>
    have e := KX a o hk
    rw [ha] at e
    cases e
    refine core (fun _ => none) (fun _ => .inl rfl) (.inr ⟨_, vs.toArray, _, hk, rfl, rfl, rfl, by rw [List.size_toArray, lenV]; exact hl, by simpa using rv⟩)
      (fun b u z => by cases (show (none : Option HO) = some u from z)) (fun b z => absurd rfl z) fun z => absurd rfl z
  | none =>
    refine core (fun b => if b = a then some (.frz { cls := .type "list", data := .seq vs.toArray } (.lst (ns.map V.int))) else none)
      (fun b => ?_) (.inl (.inr ⟨{ cls := .type "list", data := .seq vs.toArray }, if_pos rfl⟩)) (fun b u z => ?_) (fun b z => ?_) fun _ => hk
    · by_cases hb : b = a
      · exact .inr ⟨_, _, if_pos hb⟩
      · exact .inl (if_neg hb)
    · by_cases hb : b = a
      · have z1 := (if_pos hb).symm.trans z
        cases z1
        subst hb
        exact ⟨ha, by rw [List.length_map]; exact hl, vs, _, rv, ha⟩
      · have z1 := (if_neg hb).symm.trans z
        cases z1
    · by_cases hb : b = a
      · exact hb
      · exact absurd (if_neg hb) z
theorem walk_G {l : PySem.W.OpenLaw} {n k : Nat} {q : Program} {loose : List Str} {XP : (Str → Option Value) → Heap → Prop} {YP : World → Heap → Prop} {d : DefRec} {K : Params → PySem.W.Frag} {sp : PySem.W.Frag → Sp} {x : Str}
    (hn : l.most = some n) (hn2 : n ≤ sizeLine) (hdf : d.params.defaults = []) (hr : Room k callerA)
    (hY : ∀ (w : World) (h : Heap), YP w h → (K w.params).In h)
    (F : ∀ (w : World) (mg : Str → Option Value) (fa : Addr) (h : Heap), (K w.params).In h → h.Ns mainGlobals mg → mg d.name = some (.ref fa) →
      ∃ fd : FuncData, (∀ (s : Shared) (u : Value), BindsTo s fd ⟨[u], []⟩ [(x, u)]) ∧
        ∀ base : Heap, (K w.params).In base → base.Ns mainGlobals mg → FnG l.prog w (K w.params) mg base CX0 k fa fd [x] (sp (K w.params)))
    (hsp : ∀ (K : PySem.W.Frag) (H : Hp) (a : Addr) (ns : List Int), ns.length ≤ n → Only H → SqL K H a (ns.map V.int) → sp K [.ref a] H (fun v _ => v = .bl true) fun _ _ _ => False) :
    PySem.W.WalkO q loose XP YP l.row.toRowW d [] (fun f vs => PySem.call f vs) := by
  refine Att.attach_call hn hdf fun w s₀ s1 mg mb fa o pm cd doc a vs ns G Y ho hd hcd hmg hobj hints hlen hg => ?_
  have KX := hY w _ Y
  obtain ⟨fd, hb, hF⟩ := F w mg fa _ KX G.T.g hmg
  exact law_callG KX G.T.g G.T.b G.T.builtins G.T.nolimit hg hobj hints (Nat.le_trans hlen hn2) hr hF hb (fun H hO hS => hsp (K w.params) H a ns hlen hO hS) fun _ _ _ z => z
end L2
namespace My
open PySem PySem.Spec PyProof.Rows L2
def top (i : Nat) : Stmt := PySem.Challenge.pw_shortlooks_k01_limits_and_errors.main.body.getD i (.Pass ⟨0, 0, 0, 0⟩)
abbrev sWell : Stmt := top 35
abbrev sDip : Stmt := top 36
/-- a well stands at p -/
def Wl (H : Hp) (p : Addr) : Prop := ∃ w0 w1 w2 : Int, 0 ≤ w0 ∧ 0 ≤ w1 ∧ H p = some (.lst [.int w0, .int w1, .int w2])
def spDip : Sp := fun vs H Q _ => ∃ (p : Addr) (n : Int), vs = [.ref p, .int n] ∧ Wl H p ∧ 0 < n ∧ n < 1073741824 ∧
  ∀ (d : Int) (o : HO), 0 ≤ d → d < n → Wl (upd H p o) p → Q (.int d) (upd H p o)
theorem same_new {H : Hp} {p : Addr} {o : HO} (h : H p = none) : Same H (upd H p o) := fun b u e => by
  rw [upd_ne (ne_of_none e h)]
  exact e
section
variable {P : Program} {w : World} {K : PySem.W.Frag} {mg : Str → Option Value} {base : Heap}
theorem scD : FnScope ["_law_well_here", "_law_size", "_law_digit"] ["_law_well_here", "_law_size"] (defScope sDip) :=
  ⟨rfl, rfl, rfl, by decide +kernel, rfl, by decide +kernel, by decide +kernel⟩
theorem ok_dip {f : Addr} {fd : FuncData} (F : Fun K "_law_dip" "_law_dip" sDip f fd) (hI : mg "int" = none) : FnOk P w K mg base CX0 1 f fd ["_law_well_here", "_law_size"] spDip := by
  refine F.ok scD (fun vs H Q E h => ?_) (fun cdv A outer s H vs Q E hr h => ?_)
  · obtain ⟨p, n, rfl, _⟩ := h
    rfl
  · obtain ⟨p, n, rfl, ⟨w0, w1, w2, h0, h1, hp⟩, n0, n1, k⟩ := h
    refine ⟨_, pss_cons (ps_asg (pe_op op_add (pe_ix ix_list (pv 0) pe_int (fun _ _ => rfl)) pe_int) (pg_sub (pv 0) pe_int set_list))
      (pss_cons (ps_if (pt_cmpR op_gt (pe_ix ix_list (pv 0) pe_int (fun _ _ => rfl)) pe_int (nomark _))
        (pss_cons (ps_set (i := 2) scD.nd rfl (Or.inl rfl) (pe_op op_modN (pe_callTy call_int1 (by rfl) hI (by decide +kernel) (pa_cons (pe_ix ix_list (pv 0) pe_int (fun _ _ => rfl)) pa_nil)) (pv 1)))
        (pss_cons (ps_asg (pe_op op_fdivN (pe_callTy call_int1 (by rfl) hI (by decide +kernel) (pa_cons (pe_ix ix_list (pv 0) pe_int (fun _ _ => rfl)) pa_nil)) (pv 1)) (pg_sub (pv 0) pe_int set_list))
        (pss_one (ps_ret (pv 2))))) pss_nil)
      (pss_cons (ps_asg (pe_op op_mod (pe_callTy call_int1 (by rfl) hI (by decide +kernel) (pa_cons (pe_op op_add (pe_op op_add (pe_op op_mul (pe_ix ix_list (pv 0) pe_int (fun _ _ => rfl)) pe_int)
          (pe_op op_mul pe_int (pe_ix ix_list (pv 0) pe_int (fun _ _ => rfl)))) pe_int) pa_nil)) pe_int) (pg_sub (pv 0) pe_int set_list))
      (pss_one (ps_ret (pe_op op_modN (pe_callTy call_int1 (by rfl) hI (by decide +kernel) (pa_cons (pe_op op_fdiv (pe_ix ix_list (pv 0) pe_int (fun _ _ => rfl)) pe_int) pa_nil)) (pv 1)))))), ?_⟩
    -- well[2] = well[2] + 1
    refine ⟨_, rfl, p, _, _, _, rfl, rfl, SqL.of hp, atI_nat (j := 2) rfl, _, _, rfl, rfl, _, rfl, p, _, _, 2, rfl, rfl, hp, rfl, ?_⟩
    have hp1 : ∀ o, upd H p o p = some o := fun o => upd_same
    refine ⟨_, rfl, p, _, _, _, rfl, rfl, SqL.of (hp1 _), atI_nat (j := 0) rfl, _, _, rfl, rfl, _, rfl, ?_⟩
    refine ite2 (fun c => ?_) (fun c => ?_)
    · have c' : (0 : Int) < w0 := of_decide_eq_true c
      refine ⟨_, rfl, p, _, _, _, rfl, rfl, SqL.of (hp1 _), atI_nat (j := 0) rfl, .inl ⟨_, rfl, _, rfl, _, _, rfl, rfl, (by show n ≠ 0; omega), ?_⟩⟩
      refine ⟨_, rfl, p, _, _, _, rfl, rfl, SqL.of (hp1 _), atI_nat (j := 0) rfl, .inl ⟨_, rfl, _, rfl, _, _, rfl, rfl, ⟨(by omega), (by omega)⟩, _, rfl, p, _, _, 0, rfl, rfl, hp1 _, rfl, ?_⟩⟩
      refine ⟨_, rfl, ?_⟩
      rw [upd_upd]
      refine k _ _ (Int.fmod_nonneg_of_pos _ n0) (Int.fmod_lt_of_pos _ n0) ⟨_, _, _, ?_, h1, upd_same⟩
      rw [Int.fdiv_eq_ediv_of_nonneg _ (by omega)]
      exact Int.ediv_nonneg h0 (by omega)
    · refine ⟨_, rfl, p, _, _, _, rfl, rfl, SqL.of (hp1 _), atI_nat (j := 1) rfl, _, _, rfl, rfl, .inr ⟨by decide, by decide⟩, _, rfl, p, _, _, _, rfl, rfl, SqL.of (hp1 _), atI_nat (j := 2) rfl, _, _, rfl, rfl, .inl ⟨by decide, by decide⟩,
        _, _, rfl, rfl, _, _, rfl, rfl, .inl ⟨_, rfl, _, _, rfl, rfl, (by show (0 : Int) < 2147483647; decide), _, rfl, p, _, _, 1, rfl, rfl, hp1 _, rfl, ?_⟩⟩
      rw [upd_upd]
      refine ⟨_, rfl, p, _, _, _, rfl, rfl, SqL.of (hp1 _), atI_nat (j := 1) rfl, _, _, rfl, rfl, ⟨by decide, by decide⟩, .inl ⟨_, rfl, _, rfl, _, _, rfl, rfl, (by show n ≠ 0; omega), ?_⟩⟩
      exact k _ _ (Int.fmod_nonneg_of_pos _ n0) (Int.fmod_lt_of_pos _ n0) ⟨_, _, _, h0, Int.emod_nonneg _ (by decide), upd_same⟩
end
end My
namespace My
open PySem PySem.Spec PyProof.Rows L2
def spWell (K : PySem.W.Frag) : Sp := fun vs H Q _ => ∃ (a : Addr) (ns : List Int) (t : Int), vs = [.ref a, .int t] ∧ SqL K H a (ns.map V.int) ∧ 0 ≤ t ∧ t ≤ 1000 ∧
  ∀ (p : Addr) (H' : Hp), Same H H' → H p = none → Wl H' p → Q (.ref p) H'
theorem cut_ints (ns : List Int) (lo hi : Option Int) : ∃ ms : List Int, cutV (ns.map V.int) lo hi = ms.map V.int := by
  unfold cutV
  rw [← List.map_drop, ← List.map_take]
  exact ⟨_, rfl⟩
theorem map_int_get {ns : List Int} {i : Nat} {y : V} (h : (ns.map V.int)[i]? = some y) : ∃ z, ns[i]? = some z ∧ y = V.int z := by
  rw [List.getElem?_map] at h
  cases e : ns[i]? with
  | none => rw [e] at h; cases h
  | some z => rw [e] at h; exact ⟨z, rfl, (Option.some.inj h).symm⟩
section
variable {P : Program} {w : World} {K : PySem.W.Frag} {mg : Str → Option Value} {base : Heap}
theorem scW : FnScope ["_law_script", "_law_turn", "_law_entry", "_law_stirred", "_law_each"] ["_law_script", "_law_turn"] (defScope sWell) :=
  ⟨rfl, rfl, rfl, by decide +kernel, rfl, by decide +kernel, by decide +kernel⟩
theorem ok_well {f : Addr} {fd : FuncData} (F : Fun K "_law_well" "_law_well" sWell f fd) (hI : mg "int" = none) (hL : mg "len" = none) (hA : mg "abs" = none) : FnOk P w K mg base CX0 1 f fd ["_law_script", "_law_turn"] (spWell K) := by
  refine F.ok scW (fun vs H Q E h => ?_) (fun cdv A outer s H vs Q E hr h => ?_)
  · obtain ⟨a, ns, t, rfl, _⟩ := h
    rfl
  · obtain ⟨a, ns, t, rfl, hS, t0, t1, k⟩ := h
    refine ⟨_, pss_cons (ps_set (i := 2) scW.nd rfl (Or.inl rfl) (pe_ifExp (pt_cmpR op_lt (pv 1) (pe_callB call_len_seq (by rfl) hL PySem.boot_len (pa_cons (pv 0) pa_nil)) (nomark _))
        (pe_callTy call_int1 (by rfl) hI (by decide +kernel) (pa_cons (pe_ix ix_list (pv 0) (pv 1) (fun _ _ => rfl)) pa_nil)) (pe_op op_add (pe_op op_mul pe_int (pv 1)) pe_int)))
      (pss_cons (ps_set (i := 3) scW.nd rfl (Or.inl rfl) (pe_op op_add pe_int (pe_op op_mul pe_int (pv 1))))
      (pss_cons (ps_for PassesOwn.never rfl (pi_list (pe_slice sl_list (pv 0) po_none (po_some pe_int))) (pg_name (i := 4) scW.nd rfl (Or.inl rfl))
        (pss_one (ps_set (i := 3) scW.nd rfl (Or.inl rfl) (pe_op op_mod (pe_callTy call_int1 (by rfl) hI (by decide +kernel) (pa_cons (pe_op op_add (pe_op op_add (pe_op op_mul (pv 3) pe_int)
          (pe_op op_mod (pe_callTy call_int1 (by rfl) hI (by decide +kernel) (pa_cons (pv 4) pa_nil)) pe_int)) (pv 1)) pa_nil)) pe_int))))
      (pss_cons (ps_set (i := 3) scW.nd rfl (Or.inl rfl) (pe_op op_mod (pe_callTy call_int1 (by rfl) hI (by decide +kernel) (pa_cons (pe_op op_add (pe_op op_mul (pv 3) pe_int)
          (pe_op op_mod (pe_callTy call_int1 (by rfl) hI (by decide +kernel) (pa_cons (pv 2) pa_nil)) pe_int)) pa_nil)) pe_int))
      (pss_one (ps_ret (pe_lst (pa_cons (pe_ifExp (pt_cmpR op_ge (pe_callB call_abs (by rfl) hA (by decide +kernel) (pa_cons (pv 2) pa_nil)) (pe_op op_pow pe_int pe_int) (nomark _))
          (pe_callB call_abs (by rfl) hA (by decide +kernel) (pa_cons (pv 2) pa_nil)) pe_int) (pa_cons (pv 3) (pa_cons pe_int pa_nil))))))))), ?_⟩
    refine ⟨_, rfl, _, rfl, a, _, rfl, .inl hS, _, _, rfl, rfl, _, rfl, ?_⟩
    refine ite2 (fun c => ?a1) (fun c => ?a2)
    case' a1 =>
      have c1 : t < ((ns.map V.int).length : Int) := of_decide_eq_true c
      rw [List.length_map] at c1
      obtain ⟨z, hz⟩ : ∃ z, ns[t.toNat]? = some z := ⟨_, List.getElem?_eq_getElem (by omega : t.toNat < ns.length)⟩
      have et : t = ((t.toNat : Nat) : Int) := by omega
      refine ⟨_, rfl, _, rfl, a, _, _, V.int z, rfl, rfl, hS, ?_, .inl ⟨_, rfl, ?_⟩⟩
      · rw [et]
        exact atI_nat (by rw [List.getElem?_map, hz]; rfl)
    case' a2 => refine ⟨_, rfl, _, _, rfl, rfl, .inl ⟨by decide, by decide⟩, _, _, rfl, rfl, ?_⟩
    all_goals
      refine ⟨_, rfl, _, _, rfl, rfl, .inl ⟨by decide, by decide⟩, _, _, rfl, rfl, ?_⟩
      refine ⟨_, rfl, 8, rfl, a, _, rfl, hS, fun q hq => ⟨q, rfl, ⟨_, SqL.of upd_same⟩, ?_⟩⟩
      obtain ⟨ms, hms⟩ := cut_ints ns none (some 8)
      refine for_list (K := K) (a := q) (xs := cutV (ns.map V.int) none (some 8)) (fun i σ H' => ∃ (en st : Int) (v : Option V), σ = [some (.ref a), some (.int t), some (.int en), some (.int st), v] ∧ H' = upd H q (.lst (cutV (ns.map V.int) none (some 8))))
        ⟨_, _, none, rfl, rfl⟩ (fun i σ H' _ ⟨_, _, _, _, e⟩ => by rw [e]; exact SqL.of upd_same) ?_ ?_
      · rintro i y σ H' hi ⟨en, st, v, rfl, rfl⟩
        rw [hms] at hi
        obtain ⟨z, _, rfl⟩ := map_int_get hi
        exact ⟨_, rfl, _, _, rfl, rfl, .inr ⟨by decide, by decide⟩, _, rfl, .inl ⟨_, rfl, _, _, rfl, rfl, (by show (0 : Int) < 999979; decide), _, _, rfl, rfl, _, rfl, _, _, rfl, rfl, .inl ⟨_, rfl, _, _, rfl, rfl,
          (by show (0 : Int) < 2147483647; decide), en, _, _, rfl, rfl⟩⟩⟩
      · rintro σ H' ⟨en, st, v, rfl, rfl⟩
        refine ⟨_, rfl, _, _, rfl, rfl, .inr ⟨by decide, by decide⟩, _, rfl, .inl ⟨_, rfl, _, _, rfl, rfl, (by show (0 : Int) < 999979; decide), _, _, rfl, rfl, .inl ⟨_, rfl, _, _, rfl, rfl, (by show (0 : Int) < 2147483647; decide), ?_⟩⟩⟩
        refine ⟨_, rfl, _, rfl, _, _, rfl, rfl, ⟨by decide, by decide, by decide⟩, _, _, rfl, rfl, _, rfl, ?_⟩
        refine ite2 (fun c => ⟨_, rfl, _, rfl, ?_⟩) (fun c => ?_)
        all_goals
          refine ⟨_, rfl, (by show 3 ≤ sizeLine; decide), fun r hr => ?_⟩
          refine k r _ (fun b o e => ?_) ((same_new hq).free hr) ⟨_, _, _, ?_, Int.emod_nonneg _ (by decide), upd_same⟩
          · exact same_new hr b o (same_new hq b o e)
          · first | exact Int.le_refl 0 | (split <;> omega)
end
end My
namespace My
open PySem PySem.Spec PyProof.Rows L2
abbrev sOdd : Stmt := top 37
/-- what the law takes for any values, as data -/
def menu : List PyData := [.none, .bool true, .bool false, .int 0, .int 1, .int (-1), .int 1001, .int (10 ^ 30), .str "", .str "a", .str "last", .str "ends", .str "sets", .str "windows", .str "maa", .str "A", .str "ab>",
  .str "two words", .tuple [], .tuple [.none], .tuple [.str "a"], .list [.str "a"], .list [], .dict [], .dict [(.str "a", .int 1)], .tuple [.str "", .str "a", .str "b", .str ""], .tuple [.tuple []], .tuple [.list []], .str "Last"]
/-- the values of the menu, by where its objects stand -/
def menuV (t0 t1 t2 l2 l3 d0 d1 t3 t5 t6 : Addr) : List V := [.non, .bl true, .bl false, .int 0, .int 1, .int (-1), .int 1001, .int (10 ^ 30), .str "", .str "a", .str "last", .str "ends", .str "sets", .str "windows", .str "maa", .str "A", .str "ab>",
  .str "two words", .ref t0, .ref t1, .ref t2, .ref l2, .ref l3, .ref d0, .ref d1, .ref t3, .ref t5, .ref t6, .str "Last"]
def spOdd (K : PySem.W.Frag) : Sp := fun vs H Q _ => ∃ p : Addr, vs = [.ref p] ∧ Wl H p ∧
  ∀ (v : V) (d : PyData) (H' : Hp), d ∈ menu → Sh K (del H' p) v d → Wl H' p → Same (del H p) (del H' p) → Q v H'
theorem ShAll.get {K : PySem.W.Frag} {H : Hp} : ∀ {xs : List V} {ds : List PyData} {i : Nat} {v : V}, ShAll K H xs ds → xs[i]? = some v → ∃ d, d ∈ ds ∧ Sh K H v d
  | _, _, _, _, .nil, e => by simp at e
  | _, _, 0, _, .cons r _, e => by simp at e; subst e; exact ⟨_, List.mem_cons_self .., r⟩
  | _, _, i + 1, v, .cons _ t, e => by
    obtain ⟨d, h1, h2⟩ := ShAll.get (i := i) (v := v) t (by simpa using e)
    exact ⟨d, List.mem_cons_of_mem _ h1, h2⟩
theorem keep1 {H : Hp} {q t : Addr} {o u : HO} (e : H t = some u) (h : H q = none) : upd H q o t = some u := by
  rw [upd_ne (ne_of_none e h)]
  exact e
theorem delk {H : Hp} {p t : Addr} {o u : HO} (e : H t = some u) (h : t ≠ p) : del (upd H p o) p t = some u := by
  rw [del_ne h, upd_ne h]
  exact e
theorem same_del {H H' : Hp} {p : Addr} (s : Same H H') : Same (del H p) (del H' p) := fun b o e => by
  by_cases hb : b = p
  · rw [hb, del_same] at e; cases e
  · rw [del_ne hb] at e ⊢
    exact s b o e
theorem same_del_upd {H : Hp} {p : Addr} {o : HO} : Same (del H p) (del (upd H p o) p) := fun b u e => by
  by_cases hb : b = p
  · rw [hb, del_same] at e; cases e
  · rw [del_ne hb] at e ⊢
    rw [upd_ne hb]; exact e
theorem odd_end {K : PySem.W.Frag} {H Hn : Hp} {Q : VK} {p l6 t0 t1 t2 l2 l3 d0 d1 t3 t4 t5 l4 t6 : Addr} (hs : Same H Hn) (hW : Wl Hn p) (e6 : Hn l6 = some (.lst (menuV t0 t1 t2 l2 l3 d0 d1 t3 t5 t6)))
    (g2 : Hn t0 = some (.tup []))
    (g3 : Hn t1 = some (.tup [.non]))
    (g4 : Hn t2 = some (.tup [.str "a"]))
    (g5 : Hn l2 = some (.lst [.str "a"]))
    (g6 : Hn l3 = some (.lst []))
    (g7 : Hn d0 = some (.dK []))
    (g8 : Hn d1 = some (.dK [(Sum.inr "a", .int 1)]))
    (g9 : Hn t3 = some (.tup [.str "", .str "a", .str "b", .str ""]))
    (g10 : Hn t4 = some (.tup []))
    (g11 : Hn t5 = some (.tup [.ref t4]))
    (g12 : Hn l4 = some (.lst []))
    (g13 : Hn t6 = some (.tup [.ref l4]))
    (k : ∀ (v : V) (d : PyData) (H' : Hp), d ∈ menu → Sh K (del H' p) v d → Wl H' p → Same (del H p) (del H' p) → Q v H') (d : Int) (o : HO) (b0 : 0 ≤ d) (b1 : d < 29) (hW' : Wl (upd Hn p o) p) :
    rIxL K (.ref l6) (.int d) (upd Hn p o) Q := by
  obtain ⟨w0, w1, w2, a0, a1, ep⟩ := hW
  have ne6 : l6 ≠ p := ne_of e6 ep (by intro z; cases z)
  obtain ⟨j, rfl⟩ := Int.eq_ofNat_of_zero_le b0
  have hj : j < 29 := by omega
  have ei : (menuV t0 t1 t2 l2 l3 d0 d1 t3 t5 t6)[j]? = some ((menuV t0 t1 t2 l2 l3 d0 d1 t3 t5 t6)[j]'hj) := List.getElem?_eq_getElem hj
  refine ⟨l6, menuV t0 t1 t2 l2 l3 d0 d1 t3 t5 t6, _, _, rfl, rfl, SqL.of (by rw [upd_ne ne6]; exact e6), atI_nat ei, ?_⟩
  have f2 := delk (p := p) (o := o) g2 (ne_of g2 ep (by intro z; cases z))
  have f3 := delk (p := p) (o := o) g3 (ne_of g3 ep (by intro z; cases z))
  have f4 := delk (p := p) (o := o) g4 (ne_of g4 ep (by intro z; cases z))
  have f5 := delk (p := p) (o := o) g5 (ne_of g5 ep (by intro z; cases z))
  have f6 := delk (p := p) (o := o) g6 (ne_of g6 ep (by intro z; cases z))
  have f7 := delk (p := p) (o := o) g7 (ne_of g7 ep (by intro z; cases z))
  have f8 := delk (p := p) (o := o) g8 (ne_of g8 ep (by intro z; cases z))
  have f9 := delk (p := p) (o := o) g9 (ne_of g9 ep (by intro z; cases z))
  have f10 := delk (p := p) (o := o) g10 (ne_of g10 ep (by intro z; cases z))
  have f11 := delk (p := p) (o := o) g11 (ne_of g11 ep (by intro z; cases z))
  have f12 := delk (p := p) (o := o) g12 (ne_of g12 ep (by intro z; cases z))
  have f13 := delk (p := p) (o := o) g13 (ne_of g13 ep (by intro z; cases z))
  have all : ShAll K (del (upd Hn p o) p) (menuV t0 t1 t2 l2 l3 d0 d1 t3 t5 t6) menu := by
    refine .cons (.fl .non) (.cons (.fl (.bl true)) (.cons (.fl (.bl false)) (.cons (.fl (.int 0)) (.cons (.fl (.int 1)) (.cons (.fl (.int (-1))) (.cons (.fl (.int 1001)) (.cons (.fl (.int (10 ^ 30)))
      (.cons (.fl (.str _)) (.cons (.fl (.str _)) (.cons (.fl (.str _)) (.cons (.fl (.str _)) (.cons (.fl (.str _)) (.cons (.fl (.str _)) (.cons (.fl (.str _)) (.cons (.fl (.str _)) (.cons (.fl (.str _)) (.cons (.fl (.str _)) ?_)))))))))))))))))
    exact .cons (.tup (SqT.of f2) .nil) (.cons (.tup (SqT.of f3) (.cons (.fl .non) .nil)) (.cons (.tup (SqT.of f4) (.cons (.fl (.str _)) .nil)) (.cons (.lst (SqL.of f5) (.cons (.fl (.str _)) .nil)) (.cons (.lst (SqL.of f6) .nil)
      (.cons (.dic f7 .nil .nil) (.cons (.dic f8 (.cons (.str _) .nil) (.cons (.int _) .nil)) (.cons (.tup (SqT.of f9) (.cons (.fl (.str _)) (.cons (.fl (.str _)) (.cons (.fl (.str _)) (.cons (.fl (.str _)) .nil)))))
      (.cons (.tup (SqT.of f11) (.cons (.tup (SqT.of f10) .nil) .nil)) (.cons (.tup (SqT.of f13) (.cons (.lst (SqL.of f12) .nil) .nil)) (.cons (.fl (.str _)) .nil))))))))))
  obtain ⟨dd, m1, m2⟩ := ShAll.get all ei
  exact k _ dd _ m1 m2 hW' (Same.trans (same_del hs) same_del_upd)
section
variable {P : Program} {w : World} {K : PySem.W.Frag} {mg : Str → Option Value} {base : Heap}
theorem scO : FnScope ["_law_well_here", "_law_some"] ["_law_well_here"] (defScope sOdd) :=
  ⟨rfl, rfl, rfl, by decide +kernel, rfl, by decide +kernel, by decide +kernel⟩
theorem ok_odd {f fD : Addr} {fd fdD : FuncData} (F : Fun K "_law_odd" "_law_odd" sOdd f fd) (GD : FnOk P w K mg base CX0 1 fD fdD ["_law_well_here", "_law_size"] spDip) (bD : Binds K fdD ["_law_well_here", "_law_size"] [])
    (gD : mg "_law_dip" = some (.ref fD)) (kD : PySem.W.keepIn K (.ref fD) = true) (hL : mg "len" = none) : FnOk P w K mg base CX0 2 f fd ["_law_well_here"] (spOdd K) := by
  refine F.ok scO (fun vs H Q E h => ?_) (fun cdv A outer s H vs Q E hr h => ?_)
  · obtain ⟨p, rfl, _⟩ := h
    rfl
  · obtain ⟨p, rfl, hW, k⟩ := h
    refine ⟨_, pss_cons (ps_set (i := 1) scO.nd rfl (Or.inl rfl) (pe_lst (pa_cons pe_non (pa_cons pe_bl (pa_cons pe_bl (pa_cons pe_int (pa_cons pe_int (pa_cons (pe_un un_neg pe_int) (pa_cons pe_int (pa_cons (pe_op op_pow pe_int pe_int)
        (pa_cons pe_str (pa_cons pe_str (pa_cons pe_str (pa_cons pe_str (pa_cons pe_str (pa_cons pe_str (pa_cons pe_str (pa_cons pe_str (pa_cons pe_str pa_nil)))))))))))))))))))
      (pss_cons (ps_set (i := 1) scO.nd rfl (Or.inl rfl) (pe_op op_cat (pv 1) (pe_lst (pa_cons pe_str (pa_cons (pe_tup pa_nil) (pa_cons (pe_tup (pa_cons pe_non pa_nil)) (pa_cons (pe_tup (pa_cons pe_str pa_nil)) (pa_cons (pe_lst (pa_cons pe_str pa_nil))
        (pa_cons (pe_lst pa_nil) (pa_cons pe_dnewK (pa_cons (pe_disp (pps_cons pe_str pe_int pps_nil) (by rfl) (by rfl) (fun z => by cases z) (by decide)) (pa_cons (pe_tup (pa_cons pe_str (pa_cons pe_str (pa_cons pe_str (pa_cons pe_str pa_nil)))))
        (pa_cons (pe_tup (pa_cons (pe_tup pa_nil) pa_nil)) (pa_cons (pe_tup (pa_cons (pe_lst pa_nil) pa_nil)) (pa_cons pe_str pa_nil)))))))))))))))
      (pss_one (ps_ret (pe_ix ix_list (pv 1) (pe_call GD hr rfl gD kD bD .nil pass0 (pa_cons (pv 0) (pa_cons (pe_callB call_len_seq (by rfl) hL PySem.boot_len (pa_cons (pv 1) pa_nil)) pa_nil))) (fun _ _ => rfl))))), ?_⟩
    refine ⟨1, rfl, _, _, rfl, rfl, ⟨by decide, by decide, by decide⟩, (by show 17 ≤ sizeLine; decide), fun l1 h1 => ?_⟩
    refine ⟨_, rfl, (by show 0 ≤ sizeLine; decide), fun t0 h2 => ?_⟩
    refine ⟨(by show 1 ≤ sizeLine; decide), fun t1 h3 => ?_⟩
    refine ⟨(by show 1 ≤ sizeLine; decide), fun t2 h4 => ?_⟩
    refine ⟨(by show 1 ≤ sizeLine; decide), fun l2 h5 => ?_⟩
    refine ⟨(by show 0 ≤ sizeLine; decide), fun l3 h6 => ?_⟩
    refine fun d0 h7 => ?_
    refine fun d1 h8 => ?_
    refine ⟨upd_same, [(Sum.inr "a", .int 1)], rfl, by decide, ?_⟩
    rw [upd_upd]
    refine ⟨(by show 4 ≤ sizeLine; decide), fun t3 h9 => ?_⟩
    refine ⟨(by show 0 ≤ sizeLine; decide), fun t4 h10 => ?_⟩
    refine ⟨(by show 1 ≤ sizeLine; decide), fun t5 h11 => ?_⟩
    refine ⟨(by show 0 ≤ sizeLine; decide), fun l4 h12 => ?_⟩
    refine ⟨(by show 1 ≤ sizeLine; decide), fun t6 h13 => ?_⟩
    refine ⟨(by show 12 ≤ sizeLine; decide), fun l5 h14 => ?_⟩
    refine ⟨l1, l5, _, _, rfl, rfl, (keep1 (keep1 (keep1 (keep1 (keep1 (keep1 (keep1 (keep1 (keep1 (keep1 (keep1 (keep1 (keep1 upd_same h2) h3) h4) h5) h6) h7) h8) h9) h10) h11) h12) h13) h14), upd_same, (by show 29 ≤ sizeLine; decide), fun l6 h15 => ?_⟩
    obtain ⟨w0, w1, w2, a0, a1, hp⟩ := hW
    refine ⟨_, rfl, _, rfl, _, rfl, l6, _, rfl, .inl (SqL.of upd_same), p, _, rfl, ⟨w0, w1, w2, a0, a1, (keep1 (keep1 (keep1 (keep1 (keep1 (keep1 (keep1 (keep1 (keep1 (keep1 (keep1 (keep1 (keep1 (keep1 (keep1 hp h1) h2) h3) h4) h5) h6) h7) h8) h9) h10) h11) h12) h13) h14) h15)⟩, (by show (0 : Int) < 29; decide), (by show (29 : Int) < 1073741824; decide), ?_⟩
    exact odd_end (((((((((((((((same_new h1).trans (same_new h2)).trans (same_new h3)).trans (same_new h4)).trans (same_new h5)).trans (same_new h6)).trans (same_new h7)).trans (same_new h8)).trans (same_new h9)).trans (same_new h10)).trans (same_new h11)).trans (same_new h12)).trans (same_new h13)).trans (same_new h14)).trans (same_new h15)) ⟨w0, w1, w2, a0, a1, (keep1 (keep1 (keep1 (keep1 (keep1 (keep1 (keep1 (keep1 (keep1 (keep1 (keep1 (keep1 (keep1 (keep1 (keep1 hp h1) h2) h3) h4) h5) h6) h7) h8) h9) h10) h11) h12) h13) h14) h15)⟩ upd_same
      (keep1 (keep1 (keep1 (keep1 (keep1 (keep1 (keep1 (keep1 (keep1 (keep1 (keep1 (keep1 (keep1 upd_same h3) h4) h5) h6) h7) h8) h9) h10) h11) h12) h13) h14) h15)
      (keep1 (keep1 (keep1 (keep1 (keep1 (keep1 (keep1 (keep1 (keep1 (keep1 (keep1 (keep1 upd_same h4) h5) h6) h7) h8) h9) h10) h11) h12) h13) h14) h15)
      (keep1 (keep1 (keep1 (keep1 (keep1 (keep1 (keep1 (keep1 (keep1 (keep1 (keep1 upd_same h5) h6) h7) h8) h9) h10) h11) h12) h13) h14) h15)
      (keep1 (keep1 (keep1 (keep1 (keep1 (keep1 (keep1 (keep1 (keep1 (keep1 upd_same h6) h7) h8) h9) h10) h11) h12) h13) h14) h15)
      (keep1 (keep1 (keep1 (keep1 (keep1 (keep1 (keep1 (keep1 (keep1 upd_same h7) h8) h9) h10) h11) h12) h13) h14) h15)
      (keep1 (keep1 (keep1 (keep1 (keep1 (keep1 (keep1 (keep1 upd_same h8) h9) h10) h11) h12) h13) h14) h15)
      (keep1 (keep1 (keep1 (keep1 (keep1 (keep1 (keep1 upd_same h9) h10) h11) h12) h13) h14) h15)
      (keep1 (keep1 (keep1 (keep1 (keep1 (keep1 upd_same h10) h11) h12) h13) h14) h15)
      (keep1 (keep1 (keep1 (keep1 (keep1 upd_same h11) h12) h13) h14) h15)
      (keep1 (keep1 (keep1 (keep1 upd_same h12) h13) h14) h15)
      (keep1 (keep1 (keep1 upd_same h13) h14) h15)
      (keep1 (keep1 upd_same h14) h15) k
end
end My
namespace My
open PySem PySem.Spec PyProof.Rows L2 PySem.GX
abbrev sSorts : Stmt := top 38
abbrev sBases : Stmt := top 39
abbrev sSingle : Stmt := top 40
def nms : List Str := ["InvalidText", "InvalidRow", "InvalidKind", "InvalidNumber", "InvalidMood", "InvalidSign", "InvalidPaper", "InvalidName", "InvalidIndex", "InvalidClaim", "NotARule", "InvalidWishes", "InvalidChanges", "UnknownName", "InUse", "NothingToUndo", "OtherSigns", "TooMany", "Kept", "Broken"]
def bnms : List Str := ["NotRight", "NotKnown", "NotPossible"]
def tnms : List Str := ["ValueError", "LookupError", "ArithmeticError"]
def tstr (j : Nat) : String := ["ValueError", "LookupError", "ArithmeticError"].getD j ""
def part (i : Nat) : Nat := if i < 13 then 0 else if i < 16 then 1 else 2
/-- what the top has written of the classes of errors: c i is the i-th class, b j the j-th base -/
structure Cls (K : PySem.W.Frag) (mg : Str → Option Value) (c b : Nat → Addr) : Prop where
  g : ∀ (i : Nat) (x : Str), nms[i]? = some x → mg x = some (.ref (c i))
  gb : ∀ (i : Nat) (x : Str), bnms[i]? = some x → mg x = some (.ref (b i))
  gt : ∀ (i : Nat) (x : Str), tnms[i]? = some x → mg x = none
  isi : mg "isinstance" = none
  ex : ∀ i, i < 20 → ExcC K (c i)
  kit : ∀ i j, i < 20 → j < 20 → PySem.W.kitOne K (.ref (c i)) (.ref (c j)) = some (decide (i = j))
  kitb : ∀ i j, i < 20 → j < 3 → PySem.W.kitOne K (.ref (c i)) (.ref (b j)) = some (decide (part i = j))
  kitt : ∀ i j, i < 20 → j < 3 → PySem.W.kitOne K (.ref (c i)) (.type (tstr j)) = some (decide (part i = j))
/-- an exception of the i-th class stands at a -/
structure Er (H : Hp) (c : Nat → Addr) (a : Addr) (i : Nat) (od : Option Addr) : Prop where
  lt : i < 20
  ob : H a = some (exo a (c i) od)
  di : ∀ dx, od = some dx → ∃ fs, H dx = some (exd dx fs)
theorem Er.same {H H' : Hp} {c : Nat → Addr} {a : Addr} {i : Nat} {od : Option Addr} (e : Er H c a i od) (s : Same H H') : Er H' c a i od :=
  ⟨e.lt, s _ _ e.ob, fun dx z => by obtain ⟨fs, h⟩ := e.di dx z; exact ⟨fs, s _ _ h⟩⟩
theorem Er.new {H : Hp} {c : Nat → Addr} {a q : Addr} {i : Nat} {od : Option Addr} {o : HO} (e : Er H c a i od) (h : H q = none) : Er (upd H q o) c a i od := e.same (same_new h)
def b1 (i : Nat) : List Bool := [decide (i = 0), decide (i = 1), decide (i = 2), decide (i = 3), decide (i = 4), decide (i = 5), decide (i = 6), decide (i = 7), decide (i = 8), decide (i = 9), decide (i = 10), decide (i = 11), decide (i = 12)]
def b2 (i : Nat) : List Bool := [decide (i = 13), decide (i = 14), decide (i = 15)]
def b3 (i : Nat) : List Bool := [decide (i = 16), decide (i = 17), decide (i = 18), decide (i = 19)]
def bb (i : Nat) : List Bool := [decide (part i = 0), decide (part i = 1), decide (part i = 2)]
def spSorts (c : Nat → Addr) : Sp := fun vs H Q _ => ∃ (a : Addr) (i : Nat) (od : Option Addr), vs = [.ref a] ∧ Er H c a i od ∧
  ∀ (p p1 p2 p3 : Addr) (H' : Hp), Same H H' → H' p = some (.lst [.ref p1, .ref p2, .ref p3]) → H' p1 = some (.lst ((b1 i).map V.bl)) → H' p2 = some (.lst ((b2 i).map V.bl)) → H' p3 = some (.lst ((b3 i).map V.bl)) → Q (.ref p) H'
def spBases (c : Nat → Addr) : Sp := fun vs H Q _ => ∃ (a : Addr) (i : Nat) (od : Option Addr), vs = [.ref a] ∧ Er H c a i od ∧
  ∀ (p p1 p2 : Addr) (H' : Hp), Same H H' → H' p = some (.lst [.ref p1, .ref p2]) → H' p1 = some (.lst ((bb i).map V.bl)) → H' p2 = some (.lst ((bb i).map V.bl)) → Q (.ref p) H'
section
variable {P : Program} {w : World} {K : PySem.W.Frag} {mg : Str → Option Value} {base : Heap} {c b : Nat → Addr}
theorem scS : FnScope ["_law_e", "_law_first", "_law_second", "_law_third"] ["_law_e"] (defScope sSorts) :=
  ⟨rfl, rfl, rfl, by decide +kernel, rfl, by decide +kernel, by decide +kernel⟩
theorem ok_sorts {f : Addr} {fd : FuncData} (F : Fun K "_law_sorts" "_law_sorts" sSorts f fd) (T : Cls K mg c b) : FnOk P w K mg base CX0 1 f fd ["_law_e"] (spSorts c) := by
  refine F.ok scS (fun vs H Q E h => ?_) (fun cdv A outer s H vs Q E hr h => ?_)
  · obtain ⟨a, i, od, rfl, _⟩ := h
    rfl
  · obtain ⟨a, i, od, rfl, er, k⟩ := h
    refine ⟨_, pss_cons (ps_set (i := 1) scS.nd rfl (Or.inl rfl) (pe_lst (pa_cons (pe_callB call_isX (by rfl) T.isi (by decide +kernel) (pa_cons (pv 0) (pa_cons (pe_glob (v := .ref (c 0)) rfl (T.g 0 _ rfl) rfl) pa_nil))) (pa_cons (pe_callB call_isX (by rfl) T.isi (by decide +kernel) (pa_cons (pv 0) (pa_cons (pe_glob (v := .ref (c 1)) rfl (T.g 1 _ rfl) rfl) pa_nil))) (pa_cons (pe_callB call_isX (by rfl) T.isi (by decide +kernel) (pa_cons (pv 0) (pa_cons (pe_glob (v := .ref (c 2)) rfl (T.g 2 _ rfl) rfl) pa_nil))) pa_nil)))))
      (pss_cons (ps_set (i := 1) scS.nd rfl (Or.inl rfl) (pe_op op_cat (pv 1) (pe_lst (pa_cons (pe_callB call_isX (by rfl) T.isi (by decide +kernel) (pa_cons (pv 0) (pa_cons (pe_glob (v := .ref (c 3)) rfl (T.g 3 _ rfl) rfl) pa_nil))) (pa_cons (pe_callB call_isX (by rfl) T.isi (by decide +kernel) (pa_cons (pv 0) (pa_cons (pe_glob (v := .ref (c 4)) rfl (T.g 4 _ rfl) rfl) pa_nil))) (pa_cons (pe_callB call_isX (by rfl) T.isi (by decide +kernel) (pa_cons (pv 0) (pa_cons (pe_glob (v := .ref (c 5)) rfl (T.g 5 _ rfl) rfl) pa_nil))) pa_nil))))))
      (pss_cons (ps_set (i := 1) scS.nd rfl (Or.inl rfl) (pe_op op_cat (pv 1) (pe_lst (pa_cons (pe_callB call_isX (by rfl) T.isi (by decide +kernel) (pa_cons (pv 0) (pa_cons (pe_glob (v := .ref (c 6)) rfl (T.g 6 _ rfl) rfl) pa_nil))) (pa_cons (pe_callB call_isX (by rfl) T.isi (by decide +kernel) (pa_cons (pv 0) (pa_cons (pe_glob (v := .ref (c 7)) rfl (T.g 7 _ rfl) rfl) pa_nil))) (pa_cons (pe_callB call_isX (by rfl) T.isi (by decide +kernel) (pa_cons (pv 0) (pa_cons (pe_glob (v := .ref (c 8)) rfl (T.g 8 _ rfl) rfl) pa_nil))) pa_nil))))))
      (pss_cons (ps_set (i := 1) scS.nd rfl (Or.inl rfl) (pe_op op_cat (pv 1) (pe_lst (pa_cons (pe_callB call_isX (by rfl) T.isi (by decide +kernel) (pa_cons (pv 0) (pa_cons (pe_glob (v := .ref (c 9)) rfl (T.g 9 _ rfl) rfl) pa_nil))) (pa_cons (pe_callB call_isX (by rfl) T.isi (by decide +kernel) (pa_cons (pv 0) (pa_cons (pe_glob (v := .ref (c 10)) rfl (T.g 10 _ rfl) rfl) pa_nil))) (pa_cons (pe_callB call_isX (by rfl) T.isi (by decide +kernel) (pa_cons (pv 0) (pa_cons (pe_glob (v := .ref (c 11)) rfl (T.g 11 _ rfl) rfl) pa_nil))) pa_nil))))))
      (pss_cons (ps_expr (pe_bm PySem.F.plainAttrs_list PySem.F.slot_list_append PySem.F.type_list_append mt_append (pv 1) (pa_cons (pe_callB call_isX (by rfl) T.isi (by decide +kernel) (pa_cons (pv 0) (pa_cons (pe_glob (v := .ref (c 12)) rfl (T.g 12 _ rfl) rfl) pa_nil))) pa_nil)))
      (pss_cons (ps_set (i := 2) scS.nd rfl (Or.inl rfl) (pe_lst (pa_cons (pe_callB call_isX (by rfl) T.isi (by decide +kernel) (pa_cons (pv 0) (pa_cons (pe_glob (v := .ref (c 13)) rfl (T.g 13 _ rfl) rfl) pa_nil))) (pa_cons (pe_callB call_isX (by rfl) T.isi (by decide +kernel) (pa_cons (pv 0) (pa_cons (pe_glob (v := .ref (c 14)) rfl (T.g 14 _ rfl) rfl) pa_nil))) (pa_cons (pe_callB call_isX (by rfl) T.isi (by decide +kernel) (pa_cons (pv 0) (pa_cons (pe_glob (v := .ref (c 15)) rfl (T.g 15 _ rfl) rfl) pa_nil))) pa_nil)))))
      (pss_cons (ps_set (i := 3) scS.nd rfl (Or.inl rfl) (pe_lst (pa_cons (pe_callB call_isX (by rfl) T.isi (by decide +kernel) (pa_cons (pv 0) (pa_cons (pe_glob (v := .ref (c 16)) rfl (T.g 16 _ rfl) rfl) pa_nil))) (pa_cons (pe_callB call_isX (by rfl) T.isi (by decide +kernel) (pa_cons (pv 0) (pa_cons (pe_glob (v := .ref (c 17)) rfl (T.g 17 _ rfl) rfl) pa_nil))) (pa_cons (pe_callB call_isX (by rfl) T.isi (by decide +kernel) (pa_cons (pv 0) (pa_cons (pe_glob (v := .ref (c 18)) rfl (T.g 18 _ rfl) rfl) pa_nil))) (pa_cons (pe_callB call_isX (by rfl) T.isi (by decide +kernel) (pa_cons (pv 0) (pa_cons (pe_glob (v := .ref (c 19)) rfl (T.g 19 _ rfl) rfl) pa_nil))) pa_nil))))))
      (pss_one (ps_ret (pe_lst (pa_cons (pv 1) (pa_cons (pv 2) (pa_cons (pv 3) pa_nil)))))))))))), ?_⟩
    refine ⟨_, rfl, a, _, od, _, _, _, rfl, T.ex i er.lt, er.ob, er.di, .own _, T.kit i 0 er.lt (by decide), _, rfl, a, _, od, _, _, _, rfl, T.ex i er.lt, er.ob, er.di, .own _, T.kit i 1 er.lt (by decide), _, rfl, a, _, od, _, _, _, rfl, T.ex i er.lt, er.ob, er.di, .own _, T.kit i 2 er.lt (by decide), (by show 3 ≤ sizeLine; decide), fun q1 h1 => ?_⟩
    have er1 := fun o => er.new (o := o) h1
    refine ⟨_, rfl, _, rfl, a, _, od, _, _, _, rfl, T.ex i er.lt, (er1 _).ob, (er1 _).di, .own _, T.kit i 3 er.lt (by decide), _, rfl, a, _, od, _, _, _, rfl, T.ex i er.lt, (er1 _).ob, (er1 _).di, .own _, T.kit i 4 er.lt (by decide), _, rfl, a, _, od, _, _, _, rfl, T.ex i er.lt, (er1 _).ob, (er1 _).di, .own _, T.kit i 5 er.lt (by decide), (by show 3 ≤ sizeLine; decide), fun q2 h2 => ?_⟩
    have er2 := fun o => (er1 _).new (o := o) h2
    refine ⟨q1, q2, _, _, rfl, rfl, keep1 upd_same h2, upd_same, (by show 6 ≤ sizeLine; decide), fun q3 h3 => ?_⟩
    have er3 := fun o => (er2 _).new (o := o) h3
    refine ⟨_, rfl, _, rfl, a, _, od, _, _, _, rfl, T.ex i er.lt, (er3 _).ob, (er3 _).di, .own _, T.kit i 6 er.lt (by decide), _, rfl, a, _, od, _, _, _, rfl, T.ex i er.lt, (er3 _).ob, (er3 _).di, .own _, T.kit i 7 er.lt (by decide), _, rfl, a, _, od, _, _, _, rfl, T.ex i er.lt, (er3 _).ob, (er3 _).di, .own _, T.kit i 8 er.lt (by decide), (by show 3 ≤ sizeLine; decide), fun q4 h4 => ?_⟩
    have er4 := fun o => (er3 _).new (o := o) h4
    refine ⟨q3, q4, _, _, rfl, rfl, keep1 upd_same h4, upd_same, (by show 9 ≤ sizeLine; decide), fun q5 h5 => ?_⟩
    have er5 := fun o => (er4 _).new (o := o) h5
    refine ⟨_, rfl, _, rfl, a, _, od, _, _, _, rfl, T.ex i er.lt, (er5 _).ob, (er5 _).di, .own _, T.kit i 9 er.lt (by decide), _, rfl, a, _, od, _, _, _, rfl, T.ex i er.lt, (er5 _).ob, (er5 _).di, .own _, T.kit i 10 er.lt (by decide), _, rfl, a, _, od, _, _, _, rfl, T.ex i er.lt, (er5 _).ob, (er5 _).di, .own _, T.kit i 11 er.lt (by decide), (by show 3 ≤ sizeLine; decide), fun q6 h6 => ?_⟩
    have er6 := fun o => (er5 _).new (o := o) h6
    refine ⟨q5, q6, _, _, rfl, rfl, keep1 upd_same h6, upd_same, (by show 12 ≤ sizeLine; decide), fun q7 h7 => ?_⟩
    have er7 := fun o => (er6 _).new (o := o) h7
    refine ⟨_, rfl, .inl ⟨rfl, _, SqL.of upd_same⟩, _, rfl, a, _, od, _, _, _, rfl, T.ex i er.lt, (er7 _).ob, (er7 _).di, .own _, T.kit i 12 er.lt (by decide), q7, _, _, rfl, rfl, upd_same, (by show 12 < sizeLine; decide), ?_⟩
    rw [upd_upd]
    have er8 := fun o => (er6 _).new (o := o) h7
    refine ⟨_, rfl, a, _, od, _, _, _, rfl, T.ex i er.lt, (er8 _).ob, (er8 _).di, .own _, T.kit i 13 er.lt (by decide), _, rfl, a, _, od, _, _, _, rfl, T.ex i er.lt, (er8 _).ob, (er8 _).di, .own _, T.kit i 14 er.lt (by decide), _, rfl, a, _, od, _, _, _, rfl, T.ex i er.lt, (er8 _).ob, (er8 _).di, .own _, T.kit i 15 er.lt (by decide), (by show 3 ≤ sizeLine; decide), fun q8 h8 => ?_⟩
    have er9 := fun o => (er8 _).new (o := o) h8
    refine ⟨_, rfl, a, _, od, _, _, _, rfl, T.ex i er.lt, (er9 _).ob, (er9 _).di, .own _, T.kit i 16 er.lt (by decide), _, rfl, a, _, od, _, _, _, rfl, T.ex i er.lt, (er9 _).ob, (er9 _).di, .own _, T.kit i 17 er.lt (by decide), _, rfl, a, _, od, _, _, _, rfl, T.ex i er.lt, (er9 _).ob, (er9 _).di, .own _, T.kit i 18 er.lt (by decide), _, rfl, a, _, od, _, _, _, rfl, T.ex i er.lt, (er9 _).ob, (er9 _).di, .own _, T.kit i 19 er.lt (by decide), (by show 4 ≤ sizeLine; decide), fun q9 h9 => ?_⟩
    refine ⟨_, rfl, _, rfl, _, rfl, (by show 3 ≤ sizeLine; decide), fun q10 h10 => ?_⟩
    exact k q10 q7 q8 q9 _ ((((((((((same_new h1).trans (same_new h2)).trans (same_new h3)).trans (same_new h4)).trans (same_new h5)).trans (same_new h6)).trans (same_new h7)).trans (same_new h8)).trans (same_new h9)).trans (same_new h10)) upd_same (keep1 (keep1 (keep1 upd_same h8) h9) h10) (keep1 (keep1 upd_same h9) h10) (keep1 upd_same h10)
theorem scB : FnScope ["_law_e", "_law_mine"] ["_law_e"] (defScope sBases) :=
  ⟨rfl, rfl, rfl, by decide +kernel, rfl, by decide +kernel, by decide +kernel⟩
theorem ok_bases {f : Addr} {fd : FuncData} (F : Fun K "_law_bases" "_law_bases" sBases f fd) (T : Cls K mg c b) : FnOk P w K mg base CX0 1 f fd ["_law_e"] (spBases c) := by
  refine F.ok scB (fun vs H Q E h => ?_) (fun cdv A outer s H vs Q E hr h => ?_)
  · obtain ⟨a, i, od, rfl, _⟩ := h
    rfl
  · obtain ⟨a, i, od, rfl, er, k⟩ := h
    refine ⟨_, pss_cons (ps_set (i := 1) scB.nd rfl (Or.inl rfl) (pe_lst (pa_cons (pe_callB call_isX (by rfl) T.isi (by decide +kernel) (pa_cons (pv 0) (pa_cons (pe_glob (v := .ref (b 0)) rfl (T.gb 0 _ rfl) rfl) pa_nil))) (pa_cons (pe_callB call_isX (by rfl) T.isi (by decide +kernel) (pa_cons (pv 0) (pa_cons (pe_glob (v := .ref (b 1)) rfl (T.gb 1 _ rfl) rfl) pa_nil))) (pa_cons (pe_callB call_isX (by rfl) T.isi (by decide +kernel) (pa_cons (pv 0) (pa_cons (pe_glob (v := .ref (b 2)) rfl (T.gb 2 _ rfl) rfl) pa_nil))) pa_nil)))))
      (pss_one (ps_ret (pe_lst (pa_cons (pv 1) (pa_cons (pe_lst (pa_cons (pe_callB call_isX (by rfl) T.isi (by decide +kernel) (pa_cons (pv 0) (pa_cons (pe_bltn (v := .ty "ValueError") (by rfl) (T.gt 0 _ rfl) (by decide +kernel) rfl) pa_nil))) (pa_cons (pe_callB call_isX (by rfl) T.isi (by decide +kernel) (pa_cons (pv 0) (pa_cons (pe_bltn (v := .ty "LookupError") (by rfl) (T.gt 1 _ rfl) (by decide +kernel) rfl) pa_nil))) (pa_cons (pe_callB call_isX (by rfl) T.isi (by decide +kernel) (pa_cons (pv 0) (pa_cons (pe_bltn (v := .ty "ArithmeticError") (by rfl) (T.gt 2 _ rfl) (by decide +kernel) rfl) pa_nil))) pa_nil)))) pa_nil))))), ?_⟩
    refine ⟨_, rfl, a, _, od, _, _, _, rfl, T.ex i er.lt, er.ob, er.di, .own _, T.kitb i 0 er.lt (by decide), _, rfl, a, _, od, _, _, _, rfl, T.ex i er.lt, er.ob, er.di, .own _, T.kitb i 1 er.lt (by decide), _, rfl, a, _, od, _, _, _, rfl, T.ex i er.lt, er.ob, er.di, .own _, T.kitb i 2 er.lt (by decide), (by show 3 ≤ sizeLine; decide), fun q1 h1 => ?_⟩
    have er1 := fun o => er.new (o := o) h1
    refine ⟨_, rfl, _, rfl, a, _, od, _, _, _, rfl, T.ex i er.lt, (er1 _).ob, (er1 _).di, .ty _, T.kitt i 0 er.lt (by decide), _, rfl, a, _, od, _, _, _, rfl, T.ex i er.lt, (er1 _).ob, (er1 _).di, .ty _, T.kitt i 1 er.lt (by decide), _, rfl, a, _, od, _, _, _, rfl, T.ex i er.lt, (er1 _).ob, (er1 _).di, .ty _, T.kitt i 2 er.lt (by decide), (by show 3 ≤ sizeLine; decide), fun q2 h2 => ?_⟩
    refine ⟨(by show 2 ≤ sizeLine; decide), fun q3 h3 => ?_⟩
    exact k q3 q1 q2 _ (((same_new h1).trans (same_new h2)).trans (same_new h3)) upd_same (keep1 (keep1 upd_same h2) h3) (keep1 upd_same h3)
end
end My
namespace My
open PySem PySem.Spec PyProof.Rows L2 PySem.GX
/-- where the part of the i-th class begins -/
def off (i : Nat) : Nat := if i < 13 then 0 else if i < 16 then 13 else 16
def spSingle (c : Nat → Addr) : Sp := fun vs H Q _ => ∃ (a : Addr) (i : Nat) (od : Option Addr), vs = [.ref a, .int (part i : Nat), .int (i - off i : Nat)] ∧ Er H c a i od ∧ ∀ H' : Hp, Same H H' → Q (.bl true) H'
theorem set13 : ∀ j, j < 13 → ((List.replicate 13 (V.bl false)).set j (V.bl true)) = (b1 j).map V.bl := by decide
theorem set3 : ∀ j, j < 3 → ((List.replicate 3 (V.bl false)).set j (V.bl true)) = (b2 (13 + j)).map V.bl := by decide
theorem set4 : ∀ j, j < 4 → ((List.replicate 4 (V.bl false)).set j (V.bl true)) = (b3 (16 + j)).map V.bl := by decide
theorem none13 : ∀ j, j < 20 → 13 ≤ j → (List.replicate 13 (V.bl false)) = (b1 j).map V.bl := by decide
theorem none3 : ∀ j, j < 20 → (j < 13 ∨ 16 ≤ j) → (List.replicate 3 (V.bl false)) = (b2 j).map V.bl := by decide
theorem none4 : ∀ j, j < 16 → (List.replicate 4 (V.bl false)) = (b3 j).map V.bl := by decide
theorem base3 : ∀ j, j < 20 → ((List.range 3).map fun (k : Nat) => V.bl (decide (V.int (0 + (k : Int)) = V.int (part j : Nat)))) = (bb j).map V.bl := by decide
theorem ixN_nat {n j : Nat} (h : j < n) : ixN n (j : Int) = some j := by
  unfold ixN
  rw [if_pos (by omega), if_pos (by omega)]
  simp
theorem dpBls {K : PySem.W.Frag} {H : Hp} : ∀ bs : List Bool, DpAll K H (bs.map V.bl) (bs.map PyData.bool)
  | [] => .nil
  | b :: bs => .cons (.bl b) (dpBls bs)
theorem dp3 {K : PySem.W.Frag} {H : Hp} {p p1 p2 p3 : Addr} {x y z : List Bool} (h : H p = some (.lst [.ref p1, .ref p2, .ref p3])) (h1 : H p1 = some (.lst (x.map V.bl))) (h2 : H p2 = some (.lst (y.map V.bl))) (h3 : H p3 = some (.lst (z.map V.bl))) :
    Dp K H (.ref p) (.list [.list (x.map PyData.bool), .list (y.map PyData.bool), .list (z.map PyData.bool)]) :=
  .lst (SqL.of h) (.cons (.lst (SqL.of h1) (dpBls x)) (.cons (.lst (SqL.of h2) (dpBls y)) (.cons (.lst (SqL.of h3) (dpBls z)) .nil)))
theorem dp2 {K : PySem.W.Frag} {H : Hp} {p p1 p2 : Addr} {x y : List Bool} (h : H p = some (.lst [.ref p1, .ref p2])) (h1 : H p1 = some (.lst (x.map V.bl))) (h2 : H p2 = some (.lst (y.map V.bl))) :
    Dp K H (.ref p) (.list [.list (x.map PyData.bool), .list (y.map PyData.bool)]) :=
  .lst (SqL.of h) (.cons (.lst (SqL.of h1) (dpBls x)) (.cons (.lst (SqL.of h2) (dpBls y)) .nil))
theorem shp3 : ∀ i, i < 20 → SeqAt.shaped (.list [.list ((b1 i).map PyData.bool), .list ((b2 i).map PyData.bool), .list ((b3 i).map PyData.bool)]) = true := by decide +kernel
theorem shp2 : ∀ i, i < 20 → SeqAt.shaped (.list [.list ((bb i).map PyData.bool), .list ((bb i).map PyData.bool)]) = true := by decide +kernel
theorem rIxL_mono {K : PySem.W.Frag} {x y : V} {H : Hp} {Q Q' : VK} (h : rIxL K x y H Q) (m : ∀ v H1, Q v H1 → Q' v H1) : rIxL K x y H Q' := by
  obtain ⟨p, xs, i, v, e1, e2, e3, e4, q⟩ := h
  exact ⟨p, xs, i, v, e1, e2, e3, e4, m _ _ q⟩
/-- behind sorts_here[part][at] = True -/
theorem single_end {K : PySem.W.Frag} {H Hn : Hp} {c : Nat → Addr} {G : Hp → Prop} {a D q2 q4 q6 q7 : Addr} {i : Nat} {od : Option Addr} (hs : Same H Hn) (er : Er Hn c a i od) (eD : Hn D = some (.lst ((bb i).map V.bl)))
    (e2 : Hn q2 = some (.lst (List.replicate 13 (V.bl false)))) (e4 : Hn q4 = some (.lst (List.replicate 3 (V.bl false)))) (e6 : Hn q6 = some (.lst (List.replicate 4 (V.bl false)))) (e7 : Hn q7 = some (.lst [V.ref q2, V.ref q4, V.ref q6]))
    (n2 : H q2 = none) (n4 : H q4 = none) (n6 : H q6 = none) (d24 : q2 ≠ q4) (d26 : q2 ≠ q6) (d46 : q4 ≠ q6) (d27 : q2 ≠ q7) (d47 : q4 ≠ q7) (d67 : q6 ≠ q7) (dD2 : D ≠ q2) (dD4 : D ≠ q4) (dD6 : D ≠ q6)
    (k : ∀ H' : Hp, Same H H' → Er H' c a i od → H' D = some (.lst ((bb i).map V.bl)) → H' q7 = some (.lst [V.ref q2, V.ref q4, V.ref q6]) → H' q2 = some (.lst ((b1 i).map V.bl)) → H' q4 = some (.lst ((b2 i).map V.bl)) → H' q6 = some (.lst ((b3 i).map V.bl)) → G H') :
    rIxL K (.ref q7) (.int (part i : Nat)) Hn fun v H1 => rSetL v (.int (i - off i : Nat)) (.bl true) H1 G := by
  have ll := er.lt
  have nb : ∀ {q : Addr} {xs ys : List V}, Hn q = some (.lst xs) → H q = none → Same H (upd Hn q (.lst ys)) ∧ Er (upd Hn q (.lst ys)) c a i od := fun {q xs ys} e n => by
    refine ⟨fun b o z => ?_, er.lt, ?_, fun dx z => ?_⟩
    · rw [upd_ne (ne_of_none z n)]
      exact hs b o z
    · rw [upd_ne (ne_of er.ob e (by intro z; cases z))]
      exact er.ob
    · obtain ⟨fs, h⟩ := er.di dx z
      exact ⟨fs, by rw [upd_ne (ne_of h e (by intro z; cases z))]; exact h⟩
  by_cases c1 : i < 13
  · have ep : part i = 0 := by unfold part; rw [if_pos c1]
    have eo : off i = 0 := by unfold off; rw [if_pos c1]
    refine ⟨q7, _, _, .ref q2, rfl, rfl, SqL.of e7, by rw [ep]; rfl, q2, _, _, i - off i, rfl, rfl, e2, ixN_nat (by rw [eo, List.length_replicate]; omega), ?_⟩
    obtain ⟨s1, e1⟩ := nb (ys := (List.replicate 13 (V.bl false)).set (i - off i) (V.bl true)) e2 n2
    refine k _ s1 e1 (by rw [upd_ne dD2]; exact eD) (by rw [upd_ne d27.symm]; exact e7) ?_ (by rw [upd_ne d24.symm, e4, none3 i ll (.inl c1)]) (by rw [upd_ne d26.symm, e6, none4 i (by omega)])
    rw [upd_same, eo, Nat.sub_zero, set13 i c1]
  · by_cases c2 : i < 16
    · have ep : part i = 1 := by unfold part; rw [if_neg c1, if_pos c2]
      have eo : off i = 13 := by unfold off; rw [if_neg c1, if_pos c2]
      refine ⟨q7, _, _, .ref q4, rfl, rfl, SqL.of e7, by rw [ep]; rfl, q4, _, _, i - off i, rfl, rfl, e4, ixN_nat (by rw [eo, List.length_replicate]; omega), ?_⟩
      obtain ⟨s1, e1⟩ := nb (ys := (List.replicate 3 (V.bl false)).set (i - off i) (V.bl true)) e4 n4
      refine k _ s1 e1 (by rw [upd_ne dD4]; exact eD) (by rw [upd_ne d47.symm]; exact e7) (by rw [upd_ne d24, e2, none13 i ll (by omega)]) ?_ (by rw [upd_ne d46.symm, e6, none4 i c2])
      rw [upd_same, eo, set3 (i - 13) (by omega), show 13 + (i - 13) = i by omega]
    · have ep : part i = 2 := by unfold part; rw [if_neg c1, if_neg c2]
      have eo : off i = 16 := by unfold off; rw [if_neg c1, if_neg c2]
      refine ⟨q7, _, _, .ref q6, rfl, rfl, SqL.of e7, by rw [ep]; rfl, q6, _, _, i - off i, rfl, rfl, e6, ixN_nat (by rw [eo, List.length_replicate]; omega), ?_⟩
      obtain ⟨s1, e1⟩ := nb (ys := (List.replicate 4 (V.bl false)).set (i - off i) (V.bl true)) e6 n6
      refine k _ s1 e1 (by rw [upd_ne dD6]; exact eD) (by rw [upd_ne d67.symm]; exact e7) (by rw [upd_ne d26, e2, none13 i ll (by omega)]) (by rw [upd_ne d46, e4, none3 i ll (.inr (by omega))]) ?_
      rw [upd_same, eo, set4 (i - 16) (by omega), show 16 + (i - 16) = i by omega]
section
variable {P : Program} {w : World} {K : PySem.W.Frag} {mg : Str → Option Value} {base : Heap} {c b : Nat → Addr}
theorem scG : FnScope ["_law_e", "_law_part", "_law_at", "_law_base", "_law_sorts_here", "_law_k"] ["_law_e", "_law_part", "_law_at"] (defScope sSingle) :=
  ⟨rfl, rfl, rfl, by decide +kernel, rfl, by decide +kernel, by decide +kernel⟩
theorem ok_single {f fS fB : Addr} {fd fdS fdB : FuncData} (F : Fun K "_law_single" "_law_single" sSingle f fd) (GS : FnOk P w K mg base CX0 1 fS fdS ["_law_e"] (spSorts c)) (bS : Binds K fdS ["_law_e"] []) (gS : mg "_law_sorts" = some (.ref fS)) (kS : PySem.W.keepIn K (.ref fS) = true)
    (GB : FnOk P w K mg base CX0 1 fB fdB ["_law_e"] (spBases c)) (bB : Binds K fdB ["_law_e"] []) (gB : mg "_law_bases" = some (.ref fB)) (kB : PySem.W.keepIn K (.ref fB) = true) (hR : mg "range" = none) :
    FnOk P w K mg base CX0 2 f fd ["_law_e", "_law_part", "_law_at"] (spSingle c) := by
  refine F.ok scG (fun vs H Q E h => ?_) (fun cdv A outer s H vs Q E hr h => ?_)
  · obtain ⟨a, i, od, rfl, _⟩ := h
    rfl
  · obtain ⟨a, i, od, rfl, er, k⟩ := h
    refine ⟨_, pss_cons (ps_setLc (i := 3) (own := [("_law_k", 5)]) (g := gName 5) (tt := tYes) rfl scG.nd rfl rfl (sw_true rfl rfl rfl (by decide +kernel)) (pi_range1 rfl hR (pa_cons pe_int pa_nil))
        (blkOk_by (N := ["_law_e", "_law_part", "_law_at", "_law_base", "_law_sorts_here", "_law_k"]) (sc := defScope sSingle) (by decide +kernel))
        (fun _ _ _ _ _ => pg_name (i := 5) scG.nd rfl (Or.inl rfl)) (fun _ _ _ _ _ => pts_nil) (fun _ _ _ _ _ => pe_cmpR op_eq (pv 5) (pv 1) (nomark _)))
      (pss_cons (ps_set (i := 4) scG.nd rfl (Or.inl rfl) (pe_lst (pa_cons (pe_op op_rep (pe_lst (pa_cons pe_bl pa_nil)) pe_int) (pa_cons (pe_op op_rep (pe_lst (pa_cons pe_bl pa_nil)) pe_int) (pa_cons (pe_op op_rep (pe_lst (pa_cons pe_bl pa_nil)) pe_int) pa_nil)))))
      (pss_cons (ps_asg pe_bl (pg_sub (pe_ix ix_list (pv 4) (pv 1) (fun _ _ => rfl)) (pv 2) set_list))
      (pss_one (ps_ret (pe_and (pe_cmpR (op_eqD hr.units) (pe_call GS hr rfl gS kS bS .nil pass0 (pa_cons (pv 0) pa_nil)) (pv 4) (nomark _))
        (pe_one (pe_cmpR (op_eqD hr.units) (pe_call GB hr rfl gB kB bB .nil pass0 (pa_cons (pv 0) pa_nil)) (pe_lst (pa_cons (pv 3) (pa_cons (pv 3) pa_nil))) (nomark _)))))))), ?_⟩
    refine ⟨3, rfl, by decide, by decide, fun D hD => ?_⟩
    refine lc_range (lo := 0) (n := 3) (fun j H' => H' = upd H D (.lst ((List.range j).map fun (k : Nat) => V.bl (decide (V.int (0 + (k : Int)) = V.int (part i : Nat)))))) rfl (fun j H' hj e => ?_) (fun H' e => ?_)
    · subst e
      refine ⟨rfl, ?_⟩
      refine ⟨_, rfl, _, rfl, rfl, _, upd_same, ?_, ?_⟩
      · rw [List.length_map, List.length_range]
        exact Nat.lt_of_lt_of_le hj (by decide)
      · rw [upd_upd, List.range_succ, List.map_append]
        rfl
    · subst e
      rw [base3 i er.lt]
      have er0 := er.new (o := .lst ((bb i).map V.bl)) hD
      refine ⟨(by show 1 ≤ sizeLine; decide), fun q1 h1 => ⟨q1, _, _, rfl, rfl, upd_same, by decide, by decide, (by show 13 ≤ sizeLine; decide), fun q2 h2 => ?_⟩⟩
      refine ⟨(by show 1 ≤ sizeLine; decide), fun q3 h3 => ⟨q3, _, _, rfl, rfl, upd_same, by decide, by decide, (by show 3 ≤ sizeLine; decide), fun q4 h4 => ?_⟩⟩
      refine ⟨(by show 1 ≤ sizeLine; decide), fun q5 h5 => ⟨q5, _, _, rfl, rfl, upd_same, by decide, by decide, (by show 4 ≤ sizeLine; decide), fun q6 h6 => ?_⟩⟩
      refine ⟨(by show 3 ≤ sizeLine; decide), fun q7 h7 => ?_⟩
      have ll := er.lt
      have f1 := (same_new hD).free h1
      have n2 : H q2 = none := ((same_new hD).trans (same_new h1)).free h2
      have n4 : H q4 = none := ((((same_new hD).trans (same_new h1)).trans (same_new h2)).trans (same_new h3)).free h4
      have n6 : H q6 = none := ((((((same_new hD).trans (same_new h1)).trans (same_new h2)).trans (same_new h3)).trans (same_new h4)).trans (same_new h5)).free h6
      have d24 : q2 ≠ q4 := ne_of_none (keep1 upd_same h3) h4
      have d26 : q2 ≠ q6 := ne_of_none (keep1 (keep1 (keep1 upd_same h3) h4) h5) h6
      have d46 : q4 ≠ q6 := ne_of_none (keep1 upd_same h5) h6
      have d27 : q2 ≠ q7 := ne_of_none (keep1 (keep1 (keep1 (keep1 upd_same h3) h4) h5) h6) h7
      have d47 : q4 ≠ q7 := ne_of_none (keep1 (keep1 upd_same h5) h6) h7
      have d67 : q6 ≠ q7 := ne_of_none upd_same h7
      have dD2 : D ≠ q2 := ne_of_none (keep1 upd_same h1) h2
      have dD4 : D ≠ q4 := ne_of_none (keep1 (keep1 (keep1 upd_same h1) h2) h3) h4
      have dD6 : D ≠ q6 := ne_of_none (keep1 (keep1 (keep1 (keep1 (keep1 upd_same h1) h2) h3) h4) h5) h6
      refine ⟨_, rfl, _, rfl, rIxL_mono ?_ (fun v H1 h => ⟨_, rfl, h⟩)⟩
      refine single_end (K := K) (Hn := _) ((((((((same_new hD).trans (same_new h1)).trans (same_new h2)).trans (same_new h3)).trans (same_new h4)).trans (same_new h5)).trans (same_new h6)).trans (same_new h7)) (er.same ((((((((same_new hD).trans (same_new h1)).trans (same_new h2)).trans (same_new h3)).trans (same_new h4)).trans (same_new h5)).trans (same_new h6)).trans (same_new h7))) (keep1 (keep1 (keep1 (keep1 (keep1 (keep1 (keep1 upd_same h1) h2) h3) h4) h5) h6) h7) (keep1 (keep1 (keep1 (keep1 (keep1 upd_same h3) h4) h5) h6) h7) (keep1 (keep1 (keep1 upd_same h5) h6) h7) (keep1 upd_same h7) upd_same n2 n4 n6 d24 d26 d46 d27 d47 d67 dD2 dD4 dD6 ?_
      intro H2 s2 er2 f0 f7 f2 f4 f6
      have sh3 := shp3 i ll
      have sh2 := shp2 i ll
      refine ⟨_, rfl, a, i, od, rfl, er2, fun p p1 p2 p3 H3 s3 g g1 g2 g3 => ?_⟩
      refine ⟨_, rfl, _, _, dp3 g g1 g2 g3, dp3 (s3 _ _ f7) (s3 _ _ f2) (s3 _ _ f4) (s3 _ _ f6), sh3, sh3, _, rfl, ?_⟩
      rw [SeqAt.eqv_refl _ (SeqAt.canLay_of_shaped sh3)]
      refine iteT ?_
      refine ⟨_, rfl, a, i, od, rfl, er2.same s3, fun r r1 r2 H4 s4 k0 k1 k2 => ?_⟩
      have fD := s4 _ _ (s3 _ _ f0)
      refine ⟨_, rfl, _, rfl, (by show 2 ≤ sizeLine; decide), fun q8 h8 => ?_⟩
      refine ⟨_, _, dp2 (keep1 k0 h8) (keep1 k1 h8) (keep1 k2 h8), dp2 upd_same (keep1 fD h8) (keep1 fD h8), sh2, sh2, ?_⟩
      show Q (.bl (PyData.eqv _ _)) _
      rw [SeqAt.eqv_refl _ (SeqAt.canLay_of_shaped sh2)]
      exact k _ (((s2.trans s3).trans s4).trans (same_new h8))
end
end My
namespace My
open PySem PySem.Spec PyProof.Rows L2 PySem.GX
theorem PE_imp {X : Cx} {e : Expr} {t t' : TE} (h : PE X e t) (m : ∀ σ H Q, t' σ H Q → t σ H Q) : PE X e t' := ⟨fun pins s σ H Q I q => h.run pins s σ H Q I (m σ H Q q)⟩
/-- __init__ with one field -/
def spI1 (C : Addr) (f : Str) : Sp := fun vs H Q _ => ∃ (a : Addr) (v : V), vs = [.ref a, v] ∧ H a = some (exo a C none) ∧
  ∀ d, H d = none → d ≠ a → Q .non (upd (upd H d (exd d [(f, v)])) a (exo a C (some d)))
/-- __init__ with two fields -/
def spI2 (C : Addr) (f g : Str) : Sp := fun vs H Q _ => ∃ (a : Addr) (v u : V), vs = [.ref a, v, u] ∧ H a = some (exo a C none) ∧
  ∀ d, H d = none → d ≠ a → Q .non (upd (upd (upd H d (exd d [(f, v)])) a (exo a C (some d))) d (exd d [(g, u), (f, v)]))
/-- the class x at C, whose __init__ keeps its one argument as f -/
structure Mk1 (P : Program) (w : World) (K : PySem.W.Frag) (mg : Str → Option Value) (base : Heap) (x : Str) (C : Addr) (f : Str) : Prop where
  ex : ExG K C
  gC : mg x = some (.ref C)
  ini : ∃ (fI : Addr) (fd : FuncData), PySem.W.findIn K (.ref C) "__init__" = some (some (.ref fI)) ∧ PySem.W.typeIn K (.ref fI) = some (.type "function") ∧ FnOk P w K mg base CX0 1 fI fd ["self", f] (spI1 C f) ∧
    KBn K fd ["self", f] 2 [] (fun us _ => us) (fun vs _ => vs) ∧ KBn K fd ["self", f] 1 [f] (fun us ws => us ++ ws) (fun vs zs => vs ++ zs)
structure Mk2 (P : Program) (w : World) (K : PySem.W.Frag) (mg : Str → Option Value) (base : Heap) (x : Str) (C : Addr) (f g : Str) : Prop where
  ex : ExG K C
  gC : mg x = some (.ref C)
  ini : ∃ (fI : Addr) (fd : FuncData), PySem.W.findIn K (.ref C) "__init__" = some (some (.ref fI)) ∧ PySem.W.typeIn K (.ref fI) = some (.type "function") ∧ FnOk P w K mg base CX0 1 fI fd ["self", f, g] (spI2 C f g) ∧
    KBn K fd ["self", f, g] 3 [] (fun us _ => us) (fun vs _ => vs) ∧ KBn K fd ["self", f, g] 1 [g, f] (fun us ws => us ++ ws.reverse) (fun vs zs => vs ++ zs.reverse)
def tMk1 (C : Addr) (f : Str) (ta : TA) : TE := fun σ H Q => ta σ H fun vs H1 => ∃ v, vs = [v] ∧ ∀ (a d : Addr) (H2 : Hp), H1 a = none → Same H1 H2 → ExAt H2 a C d [(f, v)] → Q (.ref a) H2
def tMk2 (C : Addr) (f g : Str) (ta : TA) : TE := fun σ H Q => ta σ H fun vs H1 => ∃ v u, vs = [v, u] ∧ ∀ (a d : Addr) (H2 : Hp), H1 a = none → Same H1 H2 → ExAt H2 a C d [(g, u), (f, v)] → Q (.ref a) H2
/-- the heap behind the making -/
theorem mk1_heap {H : Hp} {a d C : Addr} {f : Str} {v : V} (ha : H a = none) (hd : upd H a (exo a C none) d = none) (ne : d ≠ a) :
    Same H (upd (upd (upd H a (exo a C none)) d (exd d [(f, v)])) a (exo a C (some d))) ∧ ExAt (upd (upd (upd H a (exo a C none)) d (exd d [(f, v)])) a (exo a C (some d))) a C d [(f, v)] := by
  refine ⟨fun b o e => ?_, upd_same, by rw [upd_ne ne, upd_same]⟩
  have hd' : H d = none := by rw [upd_ne ne] at hd; exact hd
  rw [upd_ne (ne_of_none e ha), upd_ne (ne_of_none e hd'), upd_ne (ne_of_none e ha)]
  exact e
theorem mk2_heap {H : Hp} {a d C : Addr} {f g : Str} {v u : V} (ha : H a = none) (hd : upd H a (exo a C none) d = none) (ne : d ≠ a) :
    Same H (upd (upd (upd (upd H a (exo a C none)) d (exd d [(f, v)])) a (exo a C (some d))) d (exd d [(g, u), (f, v)])) ∧
      ExAt (upd (upd (upd (upd H a (exo a C none)) d (exd d [(f, v)])) a (exo a C (some d))) d (exd d [(g, u), (f, v)])) a C d [(g, u), (f, v)] := by
  refine ⟨fun b o e => ?_, by rw [upd_ne ne.symm, upd_same], upd_same⟩
  have hd' : H d = none := by rw [upd_ne ne] at hd; exact hd
  rw [upd_ne (ne_of_none e hd'), upd_ne (ne_of_none e ha), upd_ne (ne_of_none e hd'), upd_ne (ne_of_none e ha)]
  exact e
section
variable {X : Cx} {x f g : Str} {C : Addr} {e : Expr} {es : List Expr} {kws : List Keyword} {ta tk : TA} {p pos : Pos}
theorem pe_mk1 (M : Mk1 X.prog X.w X.K X.mg X.base x C f) (hr : Room 2 X.A) (hg : Gl X x) (ha : PA X (e :: es) ta)
    (hdb : (x == ("__debug__" : Str)) = false := by decide) (he : starEach (e :: es) X.env = (false, eval e X.env) :: starEach es X.env := by rfl) (hpl : (backTo pos (starEach es X.env)).any (·.1) = false := by rfl) :
    PE X (.Call (.Name x p) (e :: es) [] pos) (tMk1 C f ta) := by
  obtain ⟨fI, fd, iC, tI, F1, kb, _⟩ := M.ini
  refine ⟨fun pins s σ H Q I h => wpAny_Call_Name_kw (ld_glob I hg M.gC ?_ hdb)⟩
  refine PySem.W.callWith_K (h₀ := X.base) I.ok.mod.kin M.ex.kC (thn (ha.run pos pins s σ H _ I h) fun us s1 ⟨vs, H1, I1, r, v, ev, q⟩ => ⟨I1.kIn, ?_⟩) he hpl
  subst ev
  refine run_mkG (n := 1) (ks := []) (ws := []) (zs := []) M.ex iC tI F1 hr kb pass0 I1 r .nil rfl rfl (by show 1 ≤ 1000; decide) fun a na => ⟨a, v, rfl, upd_same, fun d nd ne => ⟨rfl, ?_⟩⟩
  obtain ⟨z1, z2⟩ := mk1_heap (f := f) (v := v) na nd ne
  exact q a d _ na z1 z2
theorem pe_mk1K (M : Mk1 X.prog X.w X.K X.mg X.base x C f) (hr : Room 2 X.A) (hg : Gl X x) (hkw : PK X kws tk)
    (hall : (backToKw pos (keywordEach kws X.env)).all (·.1.isSome) = true := by rfl) (hks : (backToKw pos (keywordEach kws X.env)).filterMap (·.1) = [f] := by rfl) (hdb : (x == ("__debug__" : Str)) = false := by decide)
    (hpl : ((backTo pos (starEach [] X.env)).any (·.1) || (backToKw pos (keywordEach kws X.env)).any (·.1.isNone)) = false := by rfl) :
    PE X (.Call (.Name x p) [] kws pos) (tMk1 C f tk) := by
  obtain ⟨fI, fd, iC, tI, F1, _, kb⟩ := M.ini
  refine ⟨fun pins s σ H Q I h => wpAny_Call_Name_kw (ld_glob I hg M.gC ?_ hdb)⟩
  refine PySem.W.callWith_KW0 (h₀ := X.base) I.ok.mod.kin M.ex.kC hall ?_ hpl
  refine thn (hkw.run pos pins s σ H _ I h) fun ws s2 ⟨zs, H1, I1, rz, v, ev, q⟩ => ⟨I1.kIn, ?_⟩
  subst ev
  rw [hks]
  refine run_mkG (n := 0) (ks := [f]) (us := []) (vs := []) M.ex iC tI F1 hr kb pass0 I1 .nil rz rfl rfl (by decide) fun a na => ⟨a, v, rfl, upd_same, fun d nd ne => ⟨rfl, ?_⟩⟩
  obtain ⟨z1, z2⟩ := mk1_heap (f := f) (v := v) na nd ne
  exact q a d _ na z1 z2
theorem pe_mk2 (M : Mk2 X.prog X.w X.K X.mg X.base x C f g) (hr : Room 2 X.A) (hg : Gl X x) (ha : PA X (e :: es) ta)
    (hdb : (x == ("__debug__" : Str)) = false := by decide) (he : starEach (e :: es) X.env = (false, eval e X.env) :: starEach es X.env := by rfl) (hpl : (backTo pos (starEach es X.env)).any (·.1) = false := by rfl) :
    PE X (.Call (.Name x p) (e :: es) [] pos) (tMk2 C f g ta) := by
  obtain ⟨fI, fd, iC, tI, F1, kb, _⟩ := M.ini
  refine ⟨fun pins s σ H Q I h => wpAny_Call_Name_kw (ld_glob I hg M.gC ?_ hdb)⟩
  refine PySem.W.callWith_K (h₀ := X.base) I.ok.mod.kin M.ex.kC (thn (ha.run pos pins s σ H _ I h) fun us s1 ⟨vs, H1, I1, r, v, u, ev, q⟩ => ⟨I1.kIn, ?_⟩) he hpl
  subst ev
  refine run_mkG (n := 2) (ks := []) (ws := []) (zs := []) M.ex iC tI F1 hr kb pass0 I1 r .nil rfl rfl (by show 2 ≤ 1000; decide) fun a na => ⟨a, v, u, rfl, upd_same, fun d nd ne => ⟨rfl, ?_⟩⟩
  obtain ⟨z1, z2⟩ := mk2_heap (f := f) (g := g) (v := v) (u := u) na nd ne
  exact q a d _ na z1 z2
/-- by keywords, the second one first -/
theorem pe_mk2K (M : Mk2 X.prog X.w X.K X.mg X.base x C f g) (hr : Room 2 X.A) (hg : Gl X x) (hkw : PK X kws tk)
    (hall : (backToKw pos (keywordEach kws X.env)).all (·.1.isSome) = true := by rfl) (hks : (backToKw pos (keywordEach kws X.env)).filterMap (·.1) = [g, f] := by rfl) (hdb : (x == ("__debug__" : Str)) = false := by decide)
    (hpl : ((backTo pos (starEach [] X.env)).any (·.1) || (backToKw pos (keywordEach kws X.env)).any (·.1.isNone)) = false := by rfl) :
    PE X (.Call (.Name x p) [] kws pos) (fun σ H Q => tk σ H fun vs H1 => ∃ v u, vs = [u, v] ∧ ∀ (a d : Addr) (H2 : Hp), H1 a = none → Same H1 H2 → ExAt H2 a C d [(g, u), (f, v)] → Q (.ref a) H2) := by
  obtain ⟨fI, fd, iC, tI, F1, _, kb⟩ := M.ini
  refine ⟨fun pins s σ H Q I h => wpAny_Call_Name_kw (ld_glob I hg M.gC ?_ hdb)⟩
  refine PySem.W.callWith_KW0 (h₀ := X.base) I.ok.mod.kin M.ex.kC hall ?_ hpl
  refine thn (hkw.run pos pins s σ H _ I h) fun ws s2 ⟨zs, H1, I1, rz, v, u, ev, q⟩ => ⟨I1.kIn, ?_⟩
  subst ev
  rw [hks]
  refine run_mkG (n := 0) (ks := [g, f]) (us := []) (vs := []) M.ex iC tI F1 hr kb pass0 I1 .nil rz rfl rfl (by decide) fun a na => ⟨a, v, u, rfl, upd_same, fun d nd ne => ⟨rfl, ?_⟩⟩
  obtain ⟨z1, z2⟩ := mk2_heap (f := f) (g := g) (v := v) (u := u) na nd ne
  exact q a d _ na z1 z2
end
section
variable {P : Program} {w : World} {K : PySem.W.Frag} {mg : Str → Option Value} {base : Heap} {C : Addr}
theorem mk_0 {fI : Addr} {fd : FuncData} (F : Fun K "__init__" "InvalidText.__init__" (inClass (top 2) 0) fI fd) (T : ExG K C) (no : PySem.W.findIn K (.ref C) "given" = some none) (gC : mg "InvalidText" = some (.ref C))
    (iC : PySem.W.findIn K (.ref C) "__init__" = some (some (.ref fI))) (tI : PySem.W.typeIn K (.ref fI) = some (.type "function")) : Mk1 P w K mg base "InvalidText" C "given" := by
  have S : FnScope ["self", "given"] ["self", "given"] (defScope (inClass (top 2) 0)) := ⟨rfl, rfl, rfl, by decide +kernel, rfl, by decide +kernel, by decide +kernel⟩
  refine ⟨T, gC, fI, fd, iC, tI, ?_, ?_, ?_⟩
  · refine F.ok S (fun vs H Q E h => by obtain ⟨a, v, rfl, _⟩ := h; rfl) (fun cdv A outer s H vs Q E hr h => ?_)
    obtain ⟨a, v, rfl, ha, k⟩ := h
    exact ⟨_, pss_one (ps_osG (pv 0) (pv 1)), _, rfl, _, rfl, a, C, rfl, T, no, .inl ⟨ha, k⟩⟩
  · obtain ⟨oc, od, kV, doc, pm, an, cdv, ct, osl, rfl, lk, hcd⟩ := F.ex
    exact ⟨fun s us ws _ hu hw => match us, ws, hu, hw with | [_, _], [], _, _ => .of_eq rfl, fun r _ => r⟩
  · obtain ⟨oc, od, kV, doc, pm, an, cdv, ct, osl, rfl, lk, hcd⟩ := F.ex
    exact ⟨fun s us ws _ hu hw => match us, ws, hu, hw with | [_], [_], _, _ => .of_eq rfl, fun r q => r.append q⟩
theorem mk_1 {fI : Addr} {fd : FuncData} (F : Fun K "__init__" "InvalidRow.__init__" (inClass (top 3) 0) fI fd) (T : ExG K C) (no : PySem.W.findIn K (.ref C) "given" = some none) (gC : mg "InvalidRow" = some (.ref C))
    (iC : PySem.W.findIn K (.ref C) "__init__" = some (some (.ref fI))) (tI : PySem.W.typeIn K (.ref fI) = some (.type "function")) : Mk1 P w K mg base "InvalidRow" C "given" := by
  have S : FnScope ["self", "given"] ["self", "given"] (defScope (inClass (top 3) 0)) := ⟨rfl, rfl, rfl, by decide +kernel, rfl, by decide +kernel, by decide +kernel⟩
  refine ⟨T, gC, fI, fd, iC, tI, ?_, ?_, ?_⟩
  · refine F.ok S (fun vs H Q E h => by obtain ⟨a, v, rfl, _⟩ := h; rfl) (fun cdv A outer s H vs Q E hr h => ?_)
    obtain ⟨a, v, rfl, ha, k⟩ := h
    exact ⟨_, pss_one (ps_osG (pv 0) (pv 1)), _, rfl, _, rfl, a, C, rfl, T, no, .inl ⟨ha, k⟩⟩
  · obtain ⟨oc, od, kV, doc, pm, an, cdv, ct, osl, rfl, lk, hcd⟩ := F.ex
    exact ⟨fun s us ws _ hu hw => match us, ws, hu, hw with | [_, _], [], _, _ => .of_eq rfl, fun r _ => r⟩
  · obtain ⟨oc, od, kV, doc, pm, an, cdv, ct, osl, rfl, lk, hcd⟩ := F.ex
    exact ⟨fun s us ws _ hu hw => match us, ws, hu, hw with | [_], [_], _, _ => .of_eq rfl, fun r q => r.append q⟩
theorem mk_2 {fI : Addr} {fd : FuncData} (F : Fun K "__init__" "InvalidKind.__init__" (inClass (top 4) 0) fI fd) (T : ExG K C) (no : PySem.W.findIn K (.ref C) "given" = some none) (gC : mg "InvalidKind" = some (.ref C))
    (iC : PySem.W.findIn K (.ref C) "__init__" = some (some (.ref fI))) (tI : PySem.W.typeIn K (.ref fI) = some (.type "function")) : Mk1 P w K mg base "InvalidKind" C "given" := by
  have S : FnScope ["self", "given"] ["self", "given"] (defScope (inClass (top 4) 0)) := ⟨rfl, rfl, rfl, by decide +kernel, rfl, by decide +kernel, by decide +kernel⟩
  refine ⟨T, gC, fI, fd, iC, tI, ?_, ?_, ?_⟩
  · refine F.ok S (fun vs H Q E h => by obtain ⟨a, v, rfl, _⟩ := h; rfl) (fun cdv A outer s H vs Q E hr h => ?_)
    obtain ⟨a, v, rfl, ha, k⟩ := h
    exact ⟨_, pss_one (ps_osG (pv 0) (pv 1)), _, rfl, _, rfl, a, C, rfl, T, no, .inl ⟨ha, k⟩⟩
  · obtain ⟨oc, od, kV, doc, pm, an, cdv, ct, osl, rfl, lk, hcd⟩ := F.ex
    exact ⟨fun s us ws _ hu hw => match us, ws, hu, hw with | [_, _], [], _, _ => .of_eq rfl, fun r _ => r⟩
  · obtain ⟨oc, od, kV, doc, pm, an, cdv, ct, osl, rfl, lk, hcd⟩ := F.ex
    exact ⟨fun s us ws _ hu hw => match us, ws, hu, hw with | [_], [_], _, _ => .of_eq rfl, fun r q => r.append q⟩
theorem mk_3 {fI : Addr} {fd : FuncData} (F : Fun K "__init__" "InvalidNumber.__init__" (inClass (top 5) 0) fI fd) (T : ExG K C) (no : PySem.W.findIn K (.ref C) "given" = some none) (gC : mg "InvalidNumber" = some (.ref C))
    (iC : PySem.W.findIn K (.ref C) "__init__" = some (some (.ref fI))) (tI : PySem.W.typeIn K (.ref fI) = some (.type "function")) : Mk1 P w K mg base "InvalidNumber" C "given" := by
  have S : FnScope ["self", "given"] ["self", "given"] (defScope (inClass (top 5) 0)) := ⟨rfl, rfl, rfl, by decide +kernel, rfl, by decide +kernel, by decide +kernel⟩
  refine ⟨T, gC, fI, fd, iC, tI, ?_, ?_, ?_⟩
  · refine F.ok S (fun vs H Q E h => by obtain ⟨a, v, rfl, _⟩ := h; rfl) (fun cdv A outer s H vs Q E hr h => ?_)
    obtain ⟨a, v, rfl, ha, k⟩ := h
    exact ⟨_, pss_one (ps_osG (pv 0) (pv 1)), _, rfl, _, rfl, a, C, rfl, T, no, .inl ⟨ha, k⟩⟩
  · obtain ⟨oc, od, kV, doc, pm, an, cdv, ct, osl, rfl, lk, hcd⟩ := F.ex
    exact ⟨fun s us ws _ hu hw => match us, ws, hu, hw with | [_, _], [], _, _ => .of_eq rfl, fun r _ => r⟩
  · obtain ⟨oc, od, kV, doc, pm, an, cdv, ct, osl, rfl, lk, hcd⟩ := F.ex
    exact ⟨fun s us ws _ hu hw => match us, ws, hu, hw with | [_], [_], _, _ => .of_eq rfl, fun r q => r.append q⟩
theorem mk_4 {fI : Addr} {fd : FuncData} (F : Fun K "__init__" "InvalidMood.__init__" (inClass (top 6) 0) fI fd) (T : ExG K C) (no : PySem.W.findIn K (.ref C) "given" = some none) (gC : mg "InvalidMood" = some (.ref C))
    (iC : PySem.W.findIn K (.ref C) "__init__" = some (some (.ref fI))) (tI : PySem.W.typeIn K (.ref fI) = some (.type "function")) : Mk1 P w K mg base "InvalidMood" C "given" := by
  have S : FnScope ["self", "given"] ["self", "given"] (defScope (inClass (top 6) 0)) := ⟨rfl, rfl, rfl, by decide +kernel, rfl, by decide +kernel, by decide +kernel⟩
  refine ⟨T, gC, fI, fd, iC, tI, ?_, ?_, ?_⟩
  · refine F.ok S (fun vs H Q E h => by obtain ⟨a, v, rfl, _⟩ := h; rfl) (fun cdv A outer s H vs Q E hr h => ?_)
    obtain ⟨a, v, rfl, ha, k⟩ := h
    exact ⟨_, pss_one (ps_osG (pv 0) (pv 1)), _, rfl, _, rfl, a, C, rfl, T, no, .inl ⟨ha, k⟩⟩
  · obtain ⟨oc, od, kV, doc, pm, an, cdv, ct, osl, rfl, lk, hcd⟩ := F.ex
    exact ⟨fun s us ws _ hu hw => match us, ws, hu, hw with | [_, _], [], _, _ => .of_eq rfl, fun r _ => r⟩
  · obtain ⟨oc, od, kV, doc, pm, an, cdv, ct, osl, rfl, lk, hcd⟩ := F.ex
    exact ⟨fun s us ws _ hu hw => match us, ws, hu, hw with | [_], [_], _, _ => .of_eq rfl, fun r q => r.append q⟩
theorem mk_5 {fI : Addr} {fd : FuncData} (F : Fun K "__init__" "InvalidSign.__init__" (inClass (top 7) 0) fI fd) (T : ExG K C) (no : PySem.W.findIn K (.ref C) "given" = some none) (gC : mg "InvalidSign" = some (.ref C))
    (iC : PySem.W.findIn K (.ref C) "__init__" = some (some (.ref fI))) (tI : PySem.W.typeIn K (.ref fI) = some (.type "function")) : Mk1 P w K mg base "InvalidSign" C "given" := by
  have S : FnScope ["self", "given"] ["self", "given"] (defScope (inClass (top 7) 0)) := ⟨rfl, rfl, rfl, by decide +kernel, rfl, by decide +kernel, by decide +kernel⟩
  refine ⟨T, gC, fI, fd, iC, tI, ?_, ?_, ?_⟩
  · refine F.ok S (fun vs H Q E h => by obtain ⟨a, v, rfl, _⟩ := h; rfl) (fun cdv A outer s H vs Q E hr h => ?_)
    obtain ⟨a, v, rfl, ha, k⟩ := h
    exact ⟨_, pss_one (ps_osG (pv 0) (pv 1)), _, rfl, _, rfl, a, C, rfl, T, no, .inl ⟨ha, k⟩⟩
  · obtain ⟨oc, od, kV, doc, pm, an, cdv, ct, osl, rfl, lk, hcd⟩ := F.ex
    exact ⟨fun s us ws _ hu hw => match us, ws, hu, hw with | [_, _], [], _, _ => .of_eq rfl, fun r _ => r⟩
  · obtain ⟨oc, od, kV, doc, pm, an, cdv, ct, osl, rfl, lk, hcd⟩ := F.ex
    exact ⟨fun s us ws _ hu hw => match us, ws, hu, hw with | [_], [_], _, _ => .of_eq rfl, fun r q => r.append q⟩
theorem mk_6 {fI : Addr} {fd : FuncData} (F : Fun K "__init__" "InvalidPaper.__init__" (inClass (top 8) 0) fI fd) (T : ExG K C) (no : PySem.W.findIn K (.ref C) "given" = some none) (gC : mg "InvalidPaper" = some (.ref C))
    (iC : PySem.W.findIn K (.ref C) "__init__" = some (some (.ref fI))) (tI : PySem.W.typeIn K (.ref fI) = some (.type "function")) : Mk1 P w K mg base "InvalidPaper" C "given" := by
  have S : FnScope ["self", "given"] ["self", "given"] (defScope (inClass (top 8) 0)) := ⟨rfl, rfl, rfl, by decide +kernel, rfl, by decide +kernel, by decide +kernel⟩
  refine ⟨T, gC, fI, fd, iC, tI, ?_, ?_, ?_⟩
  · refine F.ok S (fun vs H Q E h => by obtain ⟨a, v, rfl, _⟩ := h; rfl) (fun cdv A outer s H vs Q E hr h => ?_)
    obtain ⟨a, v, rfl, ha, k⟩ := h
    exact ⟨_, pss_one (ps_osG (pv 0) (pv 1)), _, rfl, _, rfl, a, C, rfl, T, no, .inl ⟨ha, k⟩⟩
  · obtain ⟨oc, od, kV, doc, pm, an, cdv, ct, osl, rfl, lk, hcd⟩ := F.ex
    exact ⟨fun s us ws _ hu hw => match us, ws, hu, hw with | [_, _], [], _, _ => .of_eq rfl, fun r _ => r⟩
  · obtain ⟨oc, od, kV, doc, pm, an, cdv, ct, osl, rfl, lk, hcd⟩ := F.ex
    exact ⟨fun s us ws _ hu hw => match us, ws, hu, hw with | [_], [_], _, _ => .of_eq rfl, fun r q => r.append q⟩
theorem mk_7 {fI : Addr} {fd : FuncData} (F : Fun K "__init__" "InvalidName.__init__" (inClass (top 9) 0) fI fd) (T : ExG K C) (no : PySem.W.findIn K (.ref C) "given" = some none) (gC : mg "InvalidName" = some (.ref C))
    (iC : PySem.W.findIn K (.ref C) "__init__" = some (some (.ref fI))) (tI : PySem.W.typeIn K (.ref fI) = some (.type "function")) : Mk1 P w K mg base "InvalidName" C "given" := by
  have S : FnScope ["self", "given"] ["self", "given"] (defScope (inClass (top 9) 0)) := ⟨rfl, rfl, rfl, by decide +kernel, rfl, by decide +kernel, by decide +kernel⟩
  refine ⟨T, gC, fI, fd, iC, tI, ?_, ?_, ?_⟩
  · refine F.ok S (fun vs H Q E h => by obtain ⟨a, v, rfl, _⟩ := h; rfl) (fun cdv A outer s H vs Q E hr h => ?_)
    obtain ⟨a, v, rfl, ha, k⟩ := h
    exact ⟨_, pss_one (ps_osG (pv 0) (pv 1)), _, rfl, _, rfl, a, C, rfl, T, no, .inl ⟨ha, k⟩⟩
  · obtain ⟨oc, od, kV, doc, pm, an, cdv, ct, osl, rfl, lk, hcd⟩ := F.ex
    exact ⟨fun s us ws _ hu hw => match us, ws, hu, hw with | [_, _], [], _, _ => .of_eq rfl, fun r _ => r⟩
  · obtain ⟨oc, od, kV, doc, pm, an, cdv, ct, osl, rfl, lk, hcd⟩ := F.ex
    exact ⟨fun s us ws _ hu hw => match us, ws, hu, hw with | [_], [_], _, _ => .of_eq rfl, fun r q => r.append q⟩
theorem mk_8 {fI : Addr} {fd : FuncData} (F : Fun K "__init__" "InvalidIndex.__init__" (inClass (top 10) 0) fI fd) (T : ExG K C) (no : PySem.W.findIn K (.ref C) "given" = some none) (gC : mg "InvalidIndex" = some (.ref C))
    (iC : PySem.W.findIn K (.ref C) "__init__" = some (some (.ref fI))) (tI : PySem.W.typeIn K (.ref fI) = some (.type "function")) : Mk1 P w K mg base "InvalidIndex" C "given" := by
  have S : FnScope ["self", "given"] ["self", "given"] (defScope (inClass (top 10) 0)) := ⟨rfl, rfl, rfl, by decide +kernel, rfl, by decide +kernel, by decide +kernel⟩
  refine ⟨T, gC, fI, fd, iC, tI, ?_, ?_, ?_⟩
  · refine F.ok S (fun vs H Q E h => by obtain ⟨a, v, rfl, _⟩ := h; rfl) (fun cdv A outer s H vs Q E hr h => ?_)
    obtain ⟨a, v, rfl, ha, k⟩ := h
    exact ⟨_, pss_one (ps_osG (pv 0) (pv 1)), _, rfl, _, rfl, a, C, rfl, T, no, .inl ⟨ha, k⟩⟩
  · obtain ⟨oc, od, kV, doc, pm, an, cdv, ct, osl, rfl, lk, hcd⟩ := F.ex
    exact ⟨fun s us ws _ hu hw => match us, ws, hu, hw with | [_, _], [], _, _ => .of_eq rfl, fun r _ => r⟩
  · obtain ⟨oc, od, kV, doc, pm, an, cdv, ct, osl, rfl, lk, hcd⟩ := F.ex
    exact ⟨fun s us ws _ hu hw => match us, ws, hu, hw with | [_], [_], _, _ => .of_eq rfl, fun r q => r.append q⟩
theorem mk_9 {fI : Addr} {fd : FuncData} (F : Fun K "__init__" "InvalidClaim.__init__" (inClass (top 11) 0) fI fd) (T : ExG K C) (no : PySem.W.findIn K (.ref C) "given" = some none) (gC : mg "InvalidClaim" = some (.ref C))
    (iC : PySem.W.findIn K (.ref C) "__init__" = some (some (.ref fI))) (tI : PySem.W.typeIn K (.ref fI) = some (.type "function")) : Mk1 P w K mg base "InvalidClaim" C "given" := by
  have S : FnScope ["self", "given"] ["self", "given"] (defScope (inClass (top 11) 0)) := ⟨rfl, rfl, rfl, by decide +kernel, rfl, by decide +kernel, by decide +kernel⟩
  refine ⟨T, gC, fI, fd, iC, tI, ?_, ?_, ?_⟩
  · refine F.ok S (fun vs H Q E h => by obtain ⟨a, v, rfl, _⟩ := h; rfl) (fun cdv A outer s H vs Q E hr h => ?_)
    obtain ⟨a, v, rfl, ha, k⟩ := h
    exact ⟨_, pss_one (ps_osG (pv 0) (pv 1)), _, rfl, _, rfl, a, C, rfl, T, no, .inl ⟨ha, k⟩⟩
  · obtain ⟨oc, od, kV, doc, pm, an, cdv, ct, osl, rfl, lk, hcd⟩ := F.ex
    exact ⟨fun s us ws _ hu hw => match us, ws, hu, hw with | [_, _], [], _, _ => .of_eq rfl, fun r _ => r⟩
  · obtain ⟨oc, od, kV, doc, pm, an, cdv, ct, osl, rfl, lk, hcd⟩ := F.ex
    exact ⟨fun s us ws _ hu hw => match us, ws, hu, hw with | [_], [_], _, _ => .of_eq rfl, fun r q => r.append q⟩
theorem mk_10 {fI : Addr} {fd : FuncData} (F : Fun K "__init__" "NotARule.__init__" (inClass (top 12) 0) fI fd) (T : ExG K C) (no : PySem.W.findIn K (.ref C) "given" = some none) (gC : mg "NotARule" = some (.ref C))
    (iC : PySem.W.findIn K (.ref C) "__init__" = some (some (.ref fI))) (tI : PySem.W.typeIn K (.ref fI) = some (.type "function")) : Mk1 P w K mg base "NotARule" C "given" := by
  have S : FnScope ["self", "given"] ["self", "given"] (defScope (inClass (top 12) 0)) := ⟨rfl, rfl, rfl, by decide +kernel, rfl, by decide +kernel, by decide +kernel⟩
  refine ⟨T, gC, fI, fd, iC, tI, ?_, ?_, ?_⟩
  · refine F.ok S (fun vs H Q E h => by obtain ⟨a, v, rfl, _⟩ := h; rfl) (fun cdv A outer s H vs Q E hr h => ?_)
    obtain ⟨a, v, rfl, ha, k⟩ := h
    exact ⟨_, pss_one (ps_osG (pv 0) (pv 1)), _, rfl, _, rfl, a, C, rfl, T, no, .inl ⟨ha, k⟩⟩
  · obtain ⟨oc, od, kV, doc, pm, an, cdv, ct, osl, rfl, lk, hcd⟩ := F.ex
    exact ⟨fun s us ws _ hu hw => match us, ws, hu, hw with | [_, _], [], _, _ => .of_eq rfl, fun r _ => r⟩
  · obtain ⟨oc, od, kV, doc, pm, an, cdv, ct, osl, rfl, lk, hcd⟩ := F.ex
    exact ⟨fun s us ws _ hu hw => match us, ws, hu, hw with | [_], [_], _, _ => .of_eq rfl, fun r q => r.append q⟩
theorem mk_11 {fI : Addr} {fd : FuncData} (F : Fun K "__init__" "InvalidWishes.__init__" (inClass (top 13) 0) fI fd) (T : ExG K C) (no : PySem.W.findIn K (.ref C) "index" = some none) (gC : mg "InvalidWishes" = some (.ref C))
    (iC : PySem.W.findIn K (.ref C) "__init__" = some (some (.ref fI))) (tI : PySem.W.typeIn K (.ref fI) = some (.type "function")) : Mk1 P w K mg base "InvalidWishes" C "index" := by
  have S : FnScope ["self", "index"] ["self", "index"] (defScope (inClass (top 13) 0)) := ⟨rfl, rfl, rfl, by decide +kernel, rfl, by decide +kernel, by decide +kernel⟩
  refine ⟨T, gC, fI, fd, iC, tI, ?_, ?_, ?_⟩
  · refine F.ok S (fun vs H Q E h => by obtain ⟨a, v, rfl, _⟩ := h; rfl) (fun cdv A outer s H vs Q E hr h => ?_)
    obtain ⟨a, v, rfl, ha, k⟩ := h
    exact ⟨_, pss_one (ps_osG (pv 0) (pv 1)), _, rfl, _, rfl, a, C, rfl, T, no, .inl ⟨ha, k⟩⟩
  · obtain ⟨oc, od, kV, doc, pm, an, cdv, ct, osl, rfl, lk, hcd⟩ := F.ex
    exact ⟨fun s us ws _ hu hw => match us, ws, hu, hw with | [_, _], [], _, _ => .of_eq rfl, fun r _ => r⟩
  · obtain ⟨oc, od, kV, doc, pm, an, cdv, ct, osl, rfl, lk, hcd⟩ := F.ex
    exact ⟨fun s us ws _ hu hw => match us, ws, hu, hw with | [_], [_], _, _ => .of_eq rfl, fun r q => r.append q⟩
theorem mk_12 {fI : Addr} {fd : FuncData} (F : Fun K "__init__" "InvalidChanges.__init__" (inClass (top 14) 0) fI fd) (T : ExG K C) (no : PySem.W.findIn K (.ref C) "index" = some none) (gC : mg "InvalidChanges" = some (.ref C))
    (iC : PySem.W.findIn K (.ref C) "__init__" = some (some (.ref fI))) (tI : PySem.W.typeIn K (.ref fI) = some (.type "function")) : Mk1 P w K mg base "InvalidChanges" C "index" := by
  have S : FnScope ["self", "index"] ["self", "index"] (defScope (inClass (top 14) 0)) := ⟨rfl, rfl, rfl, by decide +kernel, rfl, by decide +kernel, by decide +kernel⟩
  refine ⟨T, gC, fI, fd, iC, tI, ?_, ?_, ?_⟩
  · refine F.ok S (fun vs H Q E h => by obtain ⟨a, v, rfl, _⟩ := h; rfl) (fun cdv A outer s H vs Q E hr h => ?_)
    obtain ⟨a, v, rfl, ha, k⟩ := h
    exact ⟨_, pss_one (ps_osG (pv 0) (pv 1)), _, rfl, _, rfl, a, C, rfl, T, no, .inl ⟨ha, k⟩⟩
  · obtain ⟨oc, od, kV, doc, pm, an, cdv, ct, osl, rfl, lk, hcd⟩ := F.ex
    exact ⟨fun s us ws _ hu hw => match us, ws, hu, hw with | [_, _], [], _, _ => .of_eq rfl, fun r _ => r⟩
  · obtain ⟨oc, od, kV, doc, pm, an, cdv, ct, osl, rfl, lk, hcd⟩ := F.ex
    exact ⟨fun s us ws _ hu hw => match us, ws, hu, hw with | [_], [_], _, _ => .of_eq rfl, fun r q => r.append q⟩
theorem mk_13 {fI : Addr} {fd : FuncData} (F : Fun K "__init__" "UnknownName.__init__" (inClass (top 16) 0) fI fd) (T : ExG K C) (no : PySem.W.findIn K (.ref C) "given" = some none) (gC : mg "UnknownName" = some (.ref C))
    (iC : PySem.W.findIn K (.ref C) "__init__" = some (some (.ref fI))) (tI : PySem.W.typeIn K (.ref fI) = some (.type "function")) : Mk1 P w K mg base "UnknownName" C "given" := by
  have S : FnScope ["self", "given"] ["self", "given"] (defScope (inClass (top 16) 0)) := ⟨rfl, rfl, rfl, by decide +kernel, rfl, by decide +kernel, by decide +kernel⟩
  refine ⟨T, gC, fI, fd, iC, tI, ?_, ?_, ?_⟩
  · refine F.ok S (fun vs H Q E h => by obtain ⟨a, v, rfl, _⟩ := h; rfl) (fun cdv A outer s H vs Q E hr h => ?_)
    obtain ⟨a, v, rfl, ha, k⟩ := h
    exact ⟨_, pss_one (ps_osG (pv 0) (pv 1)), _, rfl, _, rfl, a, C, rfl, T, no, .inl ⟨ha, k⟩⟩
  · obtain ⟨oc, od, kV, doc, pm, an, cdv, ct, osl, rfl, lk, hcd⟩ := F.ex
    exact ⟨fun s us ws _ hu hw => match us, ws, hu, hw with | [_, _], [], _, _ => .of_eq rfl, fun r _ => r⟩
  · obtain ⟨oc, od, kV, doc, pm, an, cdv, ct, osl, rfl, lk, hcd⟩ := F.ex
    exact ⟨fun s us ws _ hu hw => match us, ws, hu, hw with | [_], [_], _, _ => .of_eq rfl, fun r q => r.append q⟩
theorem mk_14 {fI : Addr} {fd : FuncData} (F : Fun K "__init__" "InUse.__init__" (inClass (top 17) 0) fI fd) (T : ExG K C) (no : PySem.W.findIn K (.ref C) "index" = some none) (gC : mg "InUse" = some (.ref C))
    (iC : PySem.W.findIn K (.ref C) "__init__" = some (some (.ref fI))) (tI : PySem.W.typeIn K (.ref fI) = some (.type "function")) : Mk1 P w K mg base "InUse" C "index" := by
  have S : FnScope ["self", "index"] ["self", "index"] (defScope (inClass (top 17) 0)) := ⟨rfl, rfl, rfl, by decide +kernel, rfl, by decide +kernel, by decide +kernel⟩
  refine ⟨T, gC, fI, fd, iC, tI, ?_, ?_, ?_⟩
  · refine F.ok S (fun vs H Q E h => by obtain ⟨a, v, rfl, _⟩ := h; rfl) (fun cdv A outer s H vs Q E hr h => ?_)
    obtain ⟨a, v, rfl, ha, k⟩ := h
    exact ⟨_, pss_one (ps_osG (pv 0) (pv 1)), _, rfl, _, rfl, a, C, rfl, T, no, .inl ⟨ha, k⟩⟩
  · obtain ⟨oc, od, kV, doc, pm, an, cdv, ct, osl, rfl, lk, hcd⟩ := F.ex
    exact ⟨fun s us ws _ hu hw => match us, ws, hu, hw with | [_, _], [], _, _ => .of_eq rfl, fun r _ => r⟩
  · obtain ⟨oc, od, kV, doc, pm, an, cdv, ct, osl, rfl, lk, hcd⟩ := F.ex
    exact ⟨fun s us ws _ hu hw => match us, ws, hu, hw with | [_], [_], _, _ => .of_eq rfl, fun r q => r.append q⟩
theorem mk_17 {fI : Addr} {fd : FuncData} (F : Fun K "__init__" "TooMany.__init__" (inClass (top 21) 0) fI fd) (T : ExG K C) (no : PySem.W.findIn K (.ref C) "limit" = some none) (gC : mg "TooMany" = some (.ref C))
    (iC : PySem.W.findIn K (.ref C) "__init__" = some (some (.ref fI))) (tI : PySem.W.typeIn K (.ref fI) = some (.type "function")) : Mk1 P w K mg base "TooMany" C "limit" := by
  have S : FnScope ["self", "limit"] ["self", "limit"] (defScope (inClass (top 21) 0)) := ⟨rfl, rfl, rfl, by decide +kernel, rfl, by decide +kernel, by decide +kernel⟩
  refine ⟨T, gC, fI, fd, iC, tI, ?_, ?_, ?_⟩
  · refine F.ok S (fun vs H Q E h => by obtain ⟨a, v, rfl, _⟩ := h; rfl) (fun cdv A outer s H vs Q E hr h => ?_)
    obtain ⟨a, v, rfl, ha, k⟩ := h
    exact ⟨_, pss_one (ps_osG (pv 0) (pv 1)), _, rfl, _, rfl, a, C, rfl, T, no, .inl ⟨ha, k⟩⟩
  · obtain ⟨oc, od, kV, doc, pm, an, cdv, ct, osl, rfl, lk, hcd⟩ := F.ex
    exact ⟨fun s us ws _ hu hw => match us, ws, hu, hw with | [_, _], [], _, _ => .of_eq rfl, fun r _ => r⟩
  · obtain ⟨oc, od, kV, doc, pm, an, cdv, ct, osl, rfl, lk, hcd⟩ := F.ex
    exact ⟨fun s us ws _ hu hw => match us, ws, hu, hw with | [_], [_], _, _ => .of_eq rfl, fun r q => r.append q⟩
theorem paired_reverse : ∀ {xs : List V} {us : List Value}, Vals xs us → Vals xs.reverse us.reverse
  | _, _, .nil => .nil
  | _, _, .cons r t => by rw [List.reverse_cons, List.reverse_cons]; exact (paired_reverse t).append (.cons r .nil)
theorem mk_19 {fI : Addr} {fd : FuncData} (F : Fun K "__init__" "Broken.__init__" (inClass (top 23) 0) fI fd) (T : ExG K C) (no : PySem.W.findIn K (.ref C) "index" = some none) (no2 : PySem.W.findIn K (.ref C) "shown" = some none) (gC : mg "Broken" = some (.ref C))
    (iC : PySem.W.findIn K (.ref C) "__init__" = some (some (.ref fI))) (tI : PySem.W.typeIn K (.ref fI) = some (.type "function")) : Mk2 P w K mg base "Broken" C "index" "shown" := by
  have S : FnScope ["self", "index", "shown"] ["self", "index", "shown"] (defScope (inClass (top 23) 0)) := ⟨rfl, rfl, rfl, by decide +kernel, rfl, by decide +kernel, by decide +kernel⟩
  refine ⟨T, gC, fI, fd, iC, tI, ?_, ?_, ?_⟩
  · refine F.ok S (fun vs H Q E h => by obtain ⟨a, v, u, rfl, _⟩ := h; rfl) (fun cdv A outer s H vs Q E hr h => ?_)
    obtain ⟨a, v, u, rfl, ha, k⟩ := h
    refine ⟨_, pss_cons (ps_osG (pv 0) (pv 1)) (pss_one (ps_osG (pv 0) (pv 2))), _, rfl, _, rfl, a, C, rfl, T, no, .inl ⟨ha, fun d nd ne => ?_⟩⟩
    exact ⟨_, rfl, _, rfl, a, C, rfl, T, no2, .inr ⟨d, _, upd_same, by rw [upd_ne ne, upd_same], (by show 1 ≤ 900; decide), k d nd ne⟩⟩
  · obtain ⟨oc, od, kV, doc, pm, an, cdv, ct, osl, rfl, lk, hcd⟩ := F.ex
    exact ⟨fun s us ws _ hu hw => match us, ws, hu, hw with | [_, _, _], [], _, _ => .of_eq rfl, fun r _ => r⟩
  · obtain ⟨oc, od, kV, doc, pm, an, cdv, ct, osl, rfl, lk, hcd⟩ := F.ex
    exact ⟨fun s us ws _ hu hw => match us, ws, hu, hw with | [_], [_, _], _, _ => .of_eq rfl, fun r q => r.append (paired_reverse q)⟩
end
end My
namespace My
open PySem PySem.Spec PyProof.Rows L2 PySem.GX
theorem menu_ok : ∀ d ∈ menu, d.showable = true ∧ d.shown.length ≤ 60 ∧ d.depth ≤ 3 := by decide +kernel
theorem piled_le : ∀ ts : List Str, (∀ t ∈ ts, t.length ≤ 60) → piled ts ≤ 62 * ts.length
  | [], _ => Nat.le_refl _
  | t :: r, h => by
    have h1 := h t (List.mem_cons_self ..)
    have h2 := piled_le r fun u hu => h u (List.mem_cons_of_mem _ hu)
    rw [piled_cons, List.length_cons]
    omega
theorem listText_le : ∀ ts : List Str, (∀ t ∈ ts, t.length ≤ 60) → (listText ts).length ≤ 62 * ts.length + 2
  | [], _ => by rw [listText_nil]; decide
  | t :: r, h => by
    have h1 := h t (List.mem_cons_self ..)
    have h2 := piled_le r fun u hu => h u (List.mem_cons_of_mem _ hu)
    have e1 : (listText (t :: r)).length = (textFrom 1 (("[" : Str) ++ (if (0 : Nat) > 0 then ", " else "" : String) ++ t) r).length + 1 := by
      show (textFrom 0 "[" (t :: r) ++ "]").length = _
      rw [strLen_append]
      rfl
    have e2 : ((("[" : Str) ++ (if (0 : Nat) > 0 then ", " else "" : String) ++ t)).length = 1 + t.length := by
      rw [strLen_append, strLen_append]
      rfl
    rw [e1, textFrom_length_pos r 1 _ (Nat.succ_pos 0), e2, List.length_cons]
    omega
theorem shownAll_len : ∀ ds : List PyData, (PyData.shownAll ds).length = ds.length
  | [] => by simp only [PyData.shownAll, List.length_nil]
  | d :: ds => by simp only [PyData.shownAll, List.length_cons, shownAll_len ds]
theorem shownAll_mem : ∀ {ds : List PyData} {t : Str}, t ∈ PyData.shownAll ds → ∃ d ∈ ds, t = d.shown
  | [], t, h => by simp only [PyData.shownAll, List.not_mem_nil] at h
  | d :: ds, t, h => by
    simp only [PyData.shownAll, List.mem_cons] at h
    rcases h with h | h
    · exact ⟨d, List.mem_cons_self .., h⟩
    · obtain ⟨e, h1, h2⟩ := shownAll_mem h
      exact ⟨e, List.mem_cons_of_mem _ h1, h2⟩
theorem showableAll_of : ∀ ds : List PyData, (∀ d ∈ ds, d ∈ menu) → PyData.showableAll ds = true
  | [], _ => by simp only [PyData.showableAll]
  | d :: ds, h => by
    simp only [PyData.showableAll, Bool.and_eq_true]
    exact ⟨(menu_ok d (h d (List.mem_cons_self ..))).1, showableAll_of ds fun e he => h e (List.mem_cons_of_mem _ he)⟩
theorem depthAll_of : ∀ ds : List PyData, (∀ d ∈ ds, d ∈ menu) → PyData.depthAll ds ≤ 3
  | [], _ => by simp only [PyData.depthAll]; decide
  | d :: ds, h => by
    simp only [PyData.depthAll]
    exact Nat.max_le.mpr ⟨(menu_ok d (h d (List.mem_cons_self ..))).2.2, depthAll_of ds fun e he => h e (List.mem_cons_of_mem _ he)⟩
theorem repr_ok {ds : List PyData} (h : ∀ d ∈ ds, d ∈ menu) (hl : ds.length ≤ 100) : PyData.showableAll ds = true ∧ (PyData.list ds).shown.length ≤ sizeLine ∧ (PyData.list ds).depth ≤ 60 := by
  refine ⟨showableAll_of ds h, ?_, ?_⟩
  · simp only [PyData.shown]
    have := listText_le (PyData.shownAll ds) fun t ht => by
      obtain ⟨d, h1, rfl⟩ := shownAll_mem ht
      exact (menu_ok d (h d h1)).2.1
    rw [shownAll_len] at this
    refine Nat.le_trans this (Nat.le_trans (m := 62 * 100 + 2) (by omega) (by decide))
  · simp only [PyData.depth]
    have := depthAll_of ds h
    omega
mutual
theorem Sh.mono {K : PySem.W.Frag} {H H' : Hp} (s : Same H H') : ∀ {v : V} {d : PyData}, Sh K H v d → Sh K H' v d
  | _, _, .fl f => .fl f
  | _, _, .lst h t => .lst (s.seq h) (ShAll.mono s t)
  | _, _, .tup h t => .tup (by
      rcases h with (h | ⟨o, h⟩) | h
      · exact .inl (.inl (s _ _ h))
      · exact .inl (.inr ⟨o, s _ _ h⟩)
      · exact .inr h) (ShAll.mono s t)
  | _, _, .dic h a b => .dic (s _ _ h) a b
theorem ShAll.mono {K : PySem.W.Frag} {H H' : Hp} (s : Same H H') : ∀ {vs : List V} {ds : List PyData}, ShAll K H vs ds → ShAll K H' vs ds
  | _, _, .nil => .nil
  | _, _, .cons a b => .cons (Sh.mono s a) (ShAll.mono s b)
end
theorem same_of_del {H : Hp} {p : Addr} : Same (del H p) H := fun b o e => by
  by_cases hb : b = p
  · rw [hb, del_same] at e; cases e
  · rw [del_ne hb] at e; exact e
theorem shRep {K : PySem.W.Frag} {H : Hp} {v : V} {d : PyData} (h : Sh K H v d) : ∀ n, ShAll K H (List.replicate n v) (List.replicate n d)
  | 0 => .nil
  | n + 1 => .cons h (shRep h n)
theorem ExAt.same {H H' : Hp} {a C d : Addr} {fs : List (Str × V)} (x : ExAt H a C d fs) (s : Same H H') : ExAt H' a C d fs := ⟨s _ _ x.ob, s _ _ x.di⟩
theorem ExAt.er {H : Hp} {c : Nat → Addr} {a d : Addr} {i : Nat} {fs : List (Str × V)} (x : ExAt H a (c i) d fs) (hi : i < 20) : Er H c a i (some d) := ⟨hi, x.ob, fun dx z => by cases z; exact ⟨fs, x.di⟩⟩
/-- the items xs are exceptions of the classes is, the i-th with its field v -/
def ExL (H : Hp) (c : Nat → Addr) (f : Str) (v : V) (xs : List V) (is : List Nat) : Prop := Paired (fun (x : V) (i : Nat) => i < 20 ∧ ∃ a d, x = .ref a ∧ ExAt H a (c i) d [(f, v)]) xs is
theorem ExL.same {H H' : Hp} {c : Nat → Addr} {f : Str} {v : V} (s : Same H H') : ∀ {xs : List V} {is : List Nat}, ExL H c f v xs is → ExL H' c f v xs is
  | _, _, .nil => .nil
  | _, _, .cons ⟨h, a, d, e, x⟩ t => .cons ⟨h, a, d, e, ExAt.same x s⟩ (ExL.same s t)
theorem ExL.get {H : Hp} {c : Nat → Addr} {f : Str} {v : V} : ∀ {xs : List V} {is : List Nat} {j : Nat} {x : V}, ExL H c f v xs is → xs[j]? = some x → ∃ i ∈ is, i < 20 ∧ ∃ a d, x = .ref a ∧ ExAt H a (c i) d [(f, v)]
  | _, _, _, _, .nil, e => by simp at e
  | _, _, 0, _, .cons r _, e => by simp at e; subst e; exact ⟨_, List.mem_cons_self .., r⟩
  | _, _, j + 1, x, .cons _ t, e => by
    obtain ⟨i, h1, h2⟩ := ExL.get (j := j) (x := x) t (by simpa using e)
    exact ⟨i, List.mem_cons_of_mem _ h1, h2⟩
end My
namespace My
open PySem PySem.Spec PyProof.Rows L2 PySem.GX
theorem if_false_of {c : Bool} {A B : Prop} (hc : c = false) (h : B) : if c = true then A else B := by
  rw [hc, if_neg Bool.false_ne_true]
  exact h
theorem ne_self (x : V) : (!decide (x = x)) = false := by simp
def tRp (K : PySem.W.Frag) (e : TE) : TE := tCB (rRepr K) (tCons e tNil)
def tLF (K : PySem.W.Frag) (f : Str) (lo hi : TO) : TE := tLc (iList K (tSl (rSlL K) (tVar 3) lo hi)) (gName 7) tYes (tXf K f (tVar 7)) [7]
def tLS (K : PySem.W.Frag) (c : Nat → Addr) (slot : Nat) (pt n : Int) : TE := tCB (rAll K) (tCons (tLc (iRng1 (tCons (tC (.int n)) tNil)) (gName 8) tYes
  (tCall (spSingle c) [] E0 (tCons (tOp (rIxL K) (tVar slot) (tVar 8)) (tCons (tC (.int pt)) (tCons (tVar 8) tNil)))) [8]) tNil)
theorem all_rep (n : Nat) : (List.replicate n true).all id = true := by
  induction n with
  | zero => rfl
  | succ n ih => rw [List.replicate_succ, List.all_cons, ih]; rfl
theorem rep_snoc {α : Type} (n : Nat) (x : α) : List.replicate n x ++ [x] = List.replicate (n + 1) x := by
  rw [List.replicate_succ']
/-- [e.f for e in first[lo:hi]] -/
theorem LF {K : PySem.W.Frag} {H : Hp} {σ : L2.St} {Q : VK} {f : Str} {v : V} {q : Addr} {xs cut : List V} {lo hi : Option Int} {tl th : TO} (hq : H q = some (.lst xs)) (ec : cutV xs lo hi = cut)
    (htl : ∀ σ H Q, Q lo H → tl σ H Q) (hth : ∀ σ H Q, Q hi H → th σ H Q) (hx : ∀ (j : Nat) (x : V), cut[j]? = some x → ∃ a C d, x = .ref a ∧ ExcC K C ∧ ExAt H a C d [(f, v)] ∧ PySem.W.findIn K (.ref C) f = some none)
    (h3 : σ[3]? = some (some (.ref q))) (h7 : ∀ x, ((wipe σ [7]).set 7 (some x))[7]? = some (some x)) (hw : ∀ x, wipe ((wipe σ [7]).set 7 (some x)) [7] = wipe σ [7]) (hz : cut.length ≤ 1000)
    (k : ∀ (D : Addr) (H' : Hp), Same H H' → H' D = some (.lst (List.replicate cut.length v)) → Q (.ref D) H') : tLF K f tl th σ H Q := by
  refine ⟨_, h3, htl _ _ _ (hth _ _ _ ⟨q, xs, rfl, SqL.of hq, fun r hr => ⟨r, rfl, ⟨_, SqL.of upd_same⟩, fun D hD => ?_⟩⟩)⟩
  rw [ec] at hD ⊢
  refine lc_list (K := K) (a := r) (xs := cut) (fun j H' => H' = upd (upd H r (.lst cut)) D (.lst (List.replicate j v))) rfl (fun j H' hj e => ?_) (fun j x H' hj e => ?_) (fun H' e => ?_)
  · subst e
    exact SqL.of (keep1 upd_same hD)
  · subst e
    obtain ⟨a, C, d, rfl, T, xa, no⟩ := hx j x hj
    have jl : j < cut.length := (List.getElem?_eq_some_iff.mp hj).1
    refine ⟨hw _, ?_⟩
    refine ⟨_, h7 _, a, C, d, _, v, rfl, T, ExAt.same xa ((same_new hr).trans (same_new hD)), no, by simp [List.lookup], _, upd_same, ?_, ?_⟩
    · rw [List.length_replicate]
      exact small1000 (by omega)
    · rw [upd_upd, rep_snoc]
  · subst e
    exact k D _ ((same_new hr).trans (same_new hD)) upd_same
/-- all([single(xs[k], part, k) for k in range(n)]) -/
theorem LS {K : PySem.W.Frag} {c : Nat → Addr} {H : Hp} {σ : L2.St} {Q : VK} {q : Addr} {xs : List V} {slot pt n : Nat} (hn : n ≤ 100) (hq : H q = some (.lst xs))
    (hx : ∀ j, j < n → ∃ a i od, xs[j]? = some (.ref a) ∧ Er H c a i od ∧ part i = pt ∧ i - off i = j)
    (h3 : ∀ x, ((wipe σ [8]).set 8 (some x))[slot]? = some (some (.ref q))) (h8 : ∀ x, ((wipe σ [8]).set 8 (some x))[8]? = some (some x)) (hw : ∀ x, wipe ((wipe σ [8]).set 8 (some x)) [8] = wipe σ [8])
    (k : ∀ H' : Hp, Same H H' → Q (.bl true) H') : tLS K c slot pt n σ H Q := by
  refine ⟨n, rfl, by omega, by omega, fun D hD => ?_⟩
  refine lc_range (lo := 0) (n := n) (fun j H' => Same H H' ∧ H' D = some (.lst (List.replicate j (V.bl true)))) ⟨same_new hD, upd_same⟩ (fun j H' hj ⟨sH, eD⟩ => ?_) (fun H' ⟨sH, eD⟩ => ?_)
  · obtain ⟨a, i, od, hg, er, e1, e2⟩ := hx j hj
    refine ⟨hw _, ?_⟩
    refine ⟨_, h3 _, _, h8 _, q, xs, _, .ref a, rfl, rfl, SqL.of (sH _ _ hq), by rw [Int.zero_add]; exact atI_nat hg, _, h8 _, a, i, od, ?_, er.same sH, fun H2 s2 => ⟨_, s2 _ _ eD, ?_, ?_, ?_⟩⟩
    · rw [e1, e2, Int.zero_add]
      rfl
    · rw [List.length_replicate]
      exact small1000 (by omega)
    · intro b o e
      rw [upd_ne (ne_of_none e hD)]
      exact s2 _ _ (sH _ _ e)
    · rw [upd_same, rep_snoc]
  · have eD' : H' D = some (.lst (List.replicate n (V.bl true))) := eD
    refine ⟨D, List.replicate n true, rfl, SqL.of (by rw [List.map_replicate]; exact eD'), ?_⟩
    rw [all_rep]
    exact k H' sH
end My
namespace My
open PySem PySem.Spec PyProof.Rows L2 PySem.GX
theorem no_lo : ∀ (σ : L2.St) (H : Hp) (Q : Option Int → Hp → Prop), Q none H → tNoPart σ H Q := fun _ _ _ h => h
theorem some_lo (i : Int) : ∀ (σ : L2.St) (H : Hp) (Q : Option Int → Hp → Prop), Q (some i) H → tPart (tC (.int i)) σ H Q := fun _ _ _ h => ⟨i, rfl, h⟩
theorem rep_menu {d : PyData} {n : Nat} (h : d ∈ menu) : ∀ e ∈ List.replicate n d, e ∈ menu := fun e he => by
  rw [(List.mem_replicate.mp he).2]
  exact h
def t6 (K : PySem.W.Frag) : TS := tIfS (tTest (tOp rNe (tRp K (tOp rCat (tLF K "given" tNoPart (tPart (tC (.int 11)))) (tLF K "index" (tPart (tC (.int 11))) tNoPart)))
  (tRp K (tOp rRep (tLst (tCons (tVar 1) tNil)) (tC (.int 13)))))) (tRet (tC (.bl false))) tNext
theorem t6_ok {K : PySem.W.Frag} {H : Hp} {D : Ends} {p q : Addr} {v u r0 r1 r2 r3 r4 r5 r6 r7 r8 r9 r10 r11 r12 : V} {dv : PyData} (mv : dv ∈ menu) (sh : Sh K H v dv)
    (hq : H q = some (.lst [r0, r1, r2, r3, r4, r5, r6, r7, r8, r9, r10, r11, r12]))
    (hx : ∀ (j : Nat) (x : V), [r0, r1, r2, r3, r4, r5, r6, r7, r8, r9, r10][j]? = some x → ∃ a C d, x = .ref a ∧ ExcC K C ∧ ExAt H a C d [("given", v)] ∧ PySem.W.findIn K (.ref C) "given" = some none)
    (hy : ∀ (j : Nat) (x : V), [r11, r12][j]? = some x → ∃ a C d, x = .ref a ∧ ExcC K C ∧ ExAt H a C d [("index", v)] ∧ PySem.W.findIn K (.ref C) "index" = some none)
    (k : ∀ H' : Hp, Same H H' → D.nx [some (.ref p), some v, some u, some (.ref q), none, none, none, none, none] H') :
    t6 K D [some (.ref p), some v, some u, some (.ref q), none, none, none, none, none] H := by
  have ro := repr_ok (ds := List.replicate 13 dv) (rep_menu mv) (by rw [List.length_replicate]; decide)
  delta t6 tIfS tTest tRp tOp tCB tCons
  refine LF (σ := [some (.ref p), some v, some u, some (.ref q), none, none, none, none, none]) hq rfl no_lo (some_lo 11) hx rfl (fun _ => rfl) (fun _ => rfl) (by show 11 ≤ 1000; decide) (fun D1 H1 s1 e1 => ?_)
  refine LF (σ := [some (.ref p), some v, some u, some (.ref q), none, none, none, none, none]) (v := v) (cut := [r11, r12]) (s1 _ _ hq) rfl (some_lo 11) no_lo (fun j x h => ?_) rfl (fun _ => rfl) (fun _ => rfl) (by show 2 ≤ 1000; decide) (fun D2 H2 s2 e2 => ?_)
  · obtain ⟨a, C, d, e, T, xa, no⟩ := hy j x h
    exact ⟨a, C, d, e, T, ExAt.same xa s1, no⟩
  · refine ⟨D1, D2, _, _, rfl, rfl, s2 _ _ e1, e2, (by show 13 ≤ sizeLine; decide), fun l3 h3 => ?_⟩
    have s3 := (s1.trans s2).trans (same_new (o := .lst (List.replicate 13 v)) h3)
    refine ⟨l3, List.replicate 13 dv, rfl, .lst (SqL.of upd_same) (shRep (n := 13) (Sh.mono s3 sh)), ro.1, ro.2.1, ro.2.2, ?_⟩
    refine ⟨_, rfl, (by show 1 ≤ sizeLine; decide), fun l4 h4 => ⟨l4, 13, _, rfl, rfl, upd_same, by decide, by decide, (by show 13 ≤ sizeLine; decide), fun l5 h5 => ?_⟩⟩
    have s5 := (s3.trans (same_new (o := .lst [v]) h4)).trans (same_new (o := .lst (List.replicate 13 v)) h5)
    refine ⟨l5, List.replicate 13 dv, rfl, .lst (SqL.of upd_same) (shRep (n := 13) (Sh.mono s5 sh)), ro.1, ro.2.1, ro.2.2, rfl, _, rfl, ?_⟩
    exact if_false_of (ne_self _) (k _ s5)
end My
namespace My
open PySem PySem.Spec PyProof.Rows L2 PySem.GX
def tX0 (C : Addr) : TE := fun _ H Q => ∀ a, H a = none → Q (.ref a) (upd H a (exo a C none))
def tM2K (C : Addr) : TE := fun σ H Q => tCons (tVar 2) (tCons (tVar 1) tNil) σ H fun vs H1 => ∃ v u, vs = [u, v] ∧ ∀ (a d : Addr) (H2 : Hp), H1 a = none → Same H1 H2 → ExAt H2 a C d [("shown", u), ("index", v)] → Q (.ref a) H2
def t7 (K : PySem.W.Frag) (c : Nat → Addr) : TS := tAsg (tTup (tCons (tLst (tCons (tMk1 (c 13) "given" (tCons (tVar 1) tNil)) (tCons (tMk1 (c 14) "index" (tCons (tVar 1) tNil)) (tCons (tX0 (c 15)) tNil))))
  (tCons (tLst (tCons (tX0 (c 16)) (tCons (tMk1 (c 17) "limit" (tCons (tVar 1) tNil)) tNil))) tNil))) (gTup K 2 (gCons (gName 4) (gCons (gName 5) gNil)))
def t8 (c : Nat → Addr) : TS := tAsg (tOp rCat (tVar 5) (tLst (tCons (tX0 (c 18)) (tCons (tM2K (c 19)) tNil)))) (gName 5)
def tIt (K : PySem.W.Frag) (slot : Nat) (j : Int) : TE := tOp (rIxL K) (tVar slot) (tC (.int j))
def t9 (K : PySem.W.Frag) (c : Nat → Addr) : TS := tAsg (tLst (tCons (tXf K "given" (tIt K 4 0)) (tCons (tXf K "index" (tIt K 4 1)) (tCons (tXf K "limit" (tIt K 5 1)) (tCons (tXf K "index" (tIt K 5 3)) (tCons (tXf K "shown" (tIt K 5 3))
  (tCons (tXf K "index" (tMk2 (c 19) "index" "shown" (tCons (tVar 2) (tCons (tVar 1) tNil)))) tNil))))))) (gName 6)
def t10 (K : PySem.W.Frag) : TS := tIfS (tTest (tOp rNe (tRp K (tVar 6)) (tRp K (tLst (tCons (tVar 1) (tCons (tVar 1) (tCons (tVar 1) (tCons (tVar 1) (tCons (tVar 2) (tCons (tVar 2) tNil)))))))))) (tRet (tC (.bl false))) tNext
def t11 (K : PySem.W.Frag) (c : Nat → Addr) : TS := tIfS (tOr (tNot (tB (tLS K c 3 0 13))) (tNot (tB (tLS K c 4 1 3)))) (tRet (tC (.bl false))) tNext
def t12 (K : PySem.W.Frag) (c : Nat → Addr) : TS := tRet (tLS K c 5 2 4)
theorem lk1 {f : Str} {v : V} : ([(f, v)] : List (Str × V)).lookup f = some v := by rw [lookup_put, if_pos rfl]
theorem lk2 {v u : V} : ([("shown", u), ("index", v)] : List (Str × V)).lookup ("index" : Str) = some v := by rw [lookup_put, if_neg (by decide), lookup_put, if_pos rfl]
theorem lk3 {v u : V} : ([("shown", u), ("index", v)] : List (Str × V)).lookup ("shown" : Str) = some u := by rw [lookup_put, if_pos rfl]
/-- what t9 to t12 need -/
structure S9 (K : PySem.W.Frag) (c : Nat → Addr) (H : Hp) (v u : V) (q l1 l4 a13 a14 a15 a16 a17 a18 a19 d13 d14 d17 d19 : Addr) (xs : List V) : Prop where
  eq : H q = some (.lst xs)
  hF : ∀ j, j < 13 → ∃ a i od, xs[j]? = some (.ref a) ∧ Er H c a i od ∧ part i = 0 ∧ i - off i = j
  e4 : H l1 = some (.lst [.ref a13, .ref a14, .ref a15])
  e5 : H l4 = some (.lst [.ref a16, .ref a17, .ref a18, .ref a19])
  y13 : ExAt H a13 (c 13) d13 [("given", v)]
  y14 : ExAt H a14 (c 14) d14 [("index", v)]
  y15 : H a15 = some (exo a15 (c 15) none)
  y16 : H a16 = some (exo a16 (c 16) none)
  y17 : ExAt H a17 (c 17) d17 [("limit", v)]
  y18 : H a18 = some (exo a18 (c 18) none)
  y19 : ExAt H a19 (c 19) d19 [("shown", u), ("index", v)]
section
variable {K : PySem.W.Frag} {c : Nat → Addr} {H : Hp} {v u : V} {p q l1 l4 a13 a14 a15 a16 a17 a18 a19 d13 d14 d17 d19 : Addr} {xs : List V} {dv du : PyData} {D : Ends}
theorem S9.same {H' : Hp} (S : S9 K c H v u q l1 l4 a13 a14 a15 a16 a17 a18 a19 d13 d14 d17 d19 xs) (s : Same H H') : S9 K c H' v u q l1 l4 a13 a14 a15 a16 a17 a18 a19 d13 d14 d17 d19 xs :=
  ⟨s _ _ S.eq, fun j hj => by obtain ⟨a, i, od, h1, h2, h3⟩ := S.hF j hj; exact ⟨a, i, od, h1, h2.same s, h3⟩, s _ _ S.e4, s _ _ S.e5, ExAt.same S.y13 s, ExAt.same S.y14 s, s _ _ S.y15, s _ _ S.y16, ExAt.same S.y17 s, s _ _ S.y18, ExAt.same S.y19 s⟩
theorem er0 {a : Addr} {i : Nat} (h : H a = some (exo a (c i) none)) (hi : i < 20) : Er H c a i none := ⟨hi, h, fun _ z => nomatch z⟩
theorem S9.sec (S : S9 K c H v u q l1 l4 a13 a14 a15 a16 a17 a18 a19 d13 d14 d17 d19 xs) : ∀ j, j < 3 → ∃ a i od, [V.ref a13, V.ref a14, V.ref a15][j]? = some (.ref a) ∧ Er H c a i od ∧ part i = 1 ∧ i - off i = j
  | 0, _ => ⟨a13, 13, _, rfl, ExAt.er S.y13 (by decide), rfl, rfl⟩
  | 1, _ => ⟨a14, 14, _, rfl, ExAt.er S.y14 (by decide), rfl, rfl⟩
  | 2, _ => ⟨a15, 15, _, rfl, er0 S.y15 (by decide), rfl, rfl⟩
  | n + 3, h => absurd h (by omega)
theorem S9.thi (S : S9 K c H v u q l1 l4 a13 a14 a15 a16 a17 a18 a19 d13 d14 d17 d19 xs) : ∀ j, j < 4 → ∃ a i od, [V.ref a16, V.ref a17, V.ref a18, V.ref a19][j]? = some (.ref a) ∧ Er H c a i od ∧ part i = 2 ∧ i - off i = j
  | 0, _ => ⟨a16, 16, _, rfl, er0 S.y16 (by decide), rfl, rfl⟩
  | 1, _ => ⟨a17, 17, _, rfl, ExAt.er S.y17 (by decide), rfl, rfl⟩
  | 2, _ => ⟨a18, 18, _, rfl, er0 S.y18 (by decide), rfl, rfl⟩
  | 3, _ => ⟨a19, 19, _, rfl, ExAt.er S.y19 (by decide), rfl, rfl⟩
  | n + 4, h => absurd h (by omega)
theorem t9_ok (ex : ∀ i, i < 20 → ExcC K (c i)) (no13 : PySem.W.findIn K (.ref (c 13)) "given" = some none) (no14 : PySem.W.findIn K (.ref (c 14)) "index" = some none) (no17 : PySem.W.findIn K (.ref (c 17)) "limit" = some none)
    (no19 : PySem.W.findIn K (.ref (c 19)) "index" = some none) (no19s : PySem.W.findIn K (.ref (c 19)) "shown" = some none) (mv : dv ∈ menu) (mu : du ∈ menu) (sv : Sh K H v dv) (su : Sh K H u du)
    (S : S9 K c H v u q l1 l4 a13 a14 a15 a16 a17 a18 a19 d13 d14 d17 d19 xs) (k : ∀ H' : Hp, Same H H' → D.rt (.bl true) H') :
    tSeq (t9 K c) (tSeq (t10 K) (tSeq (t11 K c) (t12 K c))) D [some (.ref p), some v, some u, some (.ref q), some (.ref l1), some (.ref l4), none, none, none] H := by
  refine ⟨_, rfl, l1, _, _, _, rfl, rfl, SqL.of S.e4, atI_nat (j := 0) rfl, a13, c 13, d13, _, v, rfl, ex 13 (by decide), S.y13, no13, lk1, ?_⟩
  refine ⟨_, rfl, l1, _, _, _, rfl, rfl, SqL.of S.e4, atI_nat (j := 1) rfl, a14, c 14, d14, _, v, rfl, ex 14 (by decide), S.y14, no14, lk1, ?_⟩
  refine ⟨_, rfl, l4, _, _, _, rfl, rfl, SqL.of S.e5, atI_nat (j := 1) rfl, a17, c 17, d17, _, v, rfl, ex 17 (by decide), S.y17, no17, lk1, ?_⟩
  refine ⟨_, rfl, l4, _, _, _, rfl, rfl, SqL.of S.e5, atI_nat (j := 3) rfl, a19, c 19, d19, _, v, rfl, ex 19 (by decide), S.y19, no19, lk2, ?_⟩
  refine ⟨_, rfl, l4, _, _, _, rfl, rfl, SqL.of S.e5, atI_nat (j := 3) rfl, a19, c 19, d19, _, u, rfl, ex 19 (by decide), S.y19, no19s, lk3, ?_⟩
  refine ⟨_, rfl, _, rfl, u, v, rfl, fun a d H2 na s2 x2 => ⟨a, c 19, d, _, u, rfl, ex 19 (by decide), x2, no19, lk2, ?_⟩⟩
  refine ⟨(by show 6 ≤ sizeLine; decide), fun l5 h5 => ?_⟩
  have mm : ∀ e ∈ [dv, dv, dv, dv, du, du], e ∈ menu := by
    intro e he
    simp only [List.mem_cons, List.not_mem_nil, or_false] at he
    rcases he with h | h | h | h | h | h <;> rw [h] <;> assumption
  have ro := repr_ok mm (by show 6 ≤ 100; decide)
  have sh6 : ∀ {H' : Hp} {l : Addr}, Same H H' → H' l = some (.lst [v, v, v, v, u, u]) → Sh K H' (.ref l) (.list [dv, dv, dv, dv, du, du]) := fun {H' l} s e => by
    have a1 := Sh.mono s sv
    have a2 := Sh.mono s su
    exact .lst (SqL.of e) (.cons a1 (.cons a1 (.cons a1 (.cons a1 (.cons a2 (.cons a2 .nil))))))
  have s5 := s2.trans (same_new (o := .lst [v, v, v, v, u, u]) h5)
  refine ⟨_, rfl, l5, [dv, dv, dv, dv, du, du], rfl, sh6 s5 upd_same, ro.1, ro.2.1, ro.2.2, ?_⟩
  refine ⟨_, rfl, _, rfl, _, rfl, _, rfl, _, rfl, _, rfl, (by show 6 ≤ sizeLine; decide), fun l6 h6 => ?_⟩
  have s6 := s5.trans (same_new (o := .lst [v, v, v, v, u, u]) h6)
  refine ⟨l6, [dv, dv, dv, dv, du, du], rfl, sh6 s6 upd_same, ro.1, ro.2.1, ro.2.2, rfl, _, rfl, ?_⟩
  refine if_false_of (ne_self _) ?_
  have S6 := S.same s6
  show t11 K c _ _ _
  refine LS (σ := [some (.ref p), some v, some u, some (.ref q), some (.ref l1), some (.ref l4), some (.ref l5), none, none]) (slot := 3) (pt := 0) (n := 13) (by decide) S6.eq S6.hF (fun _ => rfl) (fun _ => rfl) (fun _ => rfl) (fun H7 s7 => ⟨_, rfl, ?_⟩)
  refine if_false_of rfl ?_
  have S7 := S6.same s7
  refine LS (σ := [some (.ref p), some v, some u, some (.ref q), some (.ref l1), some (.ref l4), some (.ref l5), none, none]) (slot := 4) (pt := 1) (n := 3) (by decide) S7.e4 S7.sec (fun _ => rfl) (fun _ => rfl) (fun _ => rfl) (fun H8 s8 => ⟨_, rfl, ?_⟩)
  refine if_false_of rfl ?_
  have S8 := S7.same s8
  refine LS (σ := [some (.ref p), some v, some u, some (.ref q), some (.ref l1), some (.ref l4), some (.ref l5), none, none]) (slot := 5) (pt := 2) (n := 4) (by decide) S8.e5 S8.thi (fun _ => rfl) (fun _ => rfl) (fun _ => rfl) (fun H9 s9 => ?_)
  exact k _ (((s6.trans s7).trans s8).trans s9)
end
end My
namespace My
open PySem PySem.Spec PyProof.Rows L2 PySem.GX
section
variable {K : PySem.W.Frag} {c : Nat → Addr} {H : Hp} {v u : V} {p q : Addr} {xs : List V} {D : Ends} {R : TS}
theorem t7_ok (eq : H q = some (.lst xs)) (hF : ∀ j, j < 13 → ∃ a i od, xs[j]? = some (.ref a) ∧ Er H c a i od ∧ part i = 0 ∧ i - off i = j)
    (k : ∀ (H' : Hp) (l1 l4 a13 a14 a15 a16 a17 a18 a19 d13 d14 d17 d19 : Addr), Same H H' → S9 K c H' v u q l1 l4 a13 a14 a15 a16 a17 a18 a19 d13 d14 d17 d19 xs →
      R D [some (.ref p), some v, some u, some (.ref q), some (.ref l1), some (.ref l4), none, none, none] H') :
    tSeq (t7 K c) (tSeq (t8 c) R) D [some (.ref p), some v, some u, some (.ref q), none, none, none, none, none] H := by
  refine ⟨_, rfl, v, rfl, fun a13 d13 G13 n13 s13 x13 => ⟨_, rfl, v, rfl, fun a14 d14 G14 n14 s14 x14 => ?_⟩⟩
  refine fun a15 n15 => ⟨(by show 3 ≤ sizeLine; decide), fun l1 h1 => ?_⟩
  refine fun a16 n16 => ⟨_, rfl, v, rfl, fun a17 d17 G17 n17 s17 x17 => ⟨(by show 2 ≤ sizeLine; decide), fun l2 h2 => ?_⟩⟩
  refine ⟨(by show 2 ≤ sizeLine; decide), fun t ht => ⟨t, _, rfl, SqT.of upd_same, rfl, _, _, rfl, _, _, rfl, rfl, ?_⟩⟩
  refine ⟨_, rfl, ?_⟩
  refine fun a18 n18 => ⟨_, rfl, _, rfl, v, u, rfl, fun a19 d19 G19 n19 s19 x19 => ⟨(by show 2 ≤ sizeLine; decide), fun l3 h3 => ?_⟩⟩
  refine ⟨l2, l3, _, _, rfl, rfl, keep1 (s19 _ _ (keep1 (keep1 upd_same ht) n18)) h3, upd_same, (by show 4 ≤ sizeLine; decide), fun l4 h4 => ?_⟩
  have c34 := (same_new (o := .lst [.ref a18, .ref a19]) h3).trans (same_new (o := .lst [.ref a16, .ref a17, .ref a18, .ref a19]) h4)
  have c18 := ((same_new (o := exo a18 (c 18) none) n18).trans s19).trans c34
  have ct := (same_new (o := .tup [.ref l1, .ref l2]) ht).trans c18
  have c2 := (same_new (o := .lst [.ref a16, .ref a17]) h2).trans ct
  have c16 := ((same_new (o := exo a16 (c 16) none) n16).trans s17).trans c2
  have c1 := (same_new (o := .lst [.ref a13, .ref a14, .ref a15]) h1).trans c16
  have c15 := (same_new (o := exo a15 (c 15) none) n15).trans c1
  have all := (s13.trans s14).trans c15
  refine k _ l1 l4 a13 a14 a15 a16 a17 a18 a19 d13 d14 d17 d19 all ⟨all _ _ eq, fun j hj => ?_, c16 _ _ upd_same, upd_same, ExAt.same x13 (s14.trans c15), ExAt.same x14 c15, c1 _ _ upd_same, (s17.trans c2) _ _ upd_same, ExAt.same x17 c2, (s19.trans c34) _ _ upd_same, ExAt.same x19 c34⟩
  obtain ⟨a, i, od, g1, g2, g3⟩ := hF j hj
  exact ⟨a, i, od, g1, g2.same all, g3⟩
end
end My
namespace My
open PySem PySem.Spec PyProof.Rows L2 PySem.GX
abbrev sRight : Stmt := top 41
structure Rt (P : Program) (w : World) (K : PySem.W.Frag) (mg : Str → Option Value) (base : Heap) (c b : Nat → Addr) : Prop where
  T : Cls K mg c b
  m0 : Mk1 P w K mg base "InvalidText" (c 0) "given"
  m1 : Mk1 P w K mg base "InvalidRow" (c 1) "given"
  m2 : Mk1 P w K mg base "InvalidKind" (c 2) "given"
  m3 : Mk1 P w K mg base "InvalidNumber" (c 3) "given"
  m4 : Mk1 P w K mg base "InvalidMood" (c 4) "given"
  m5 : Mk1 P w K mg base "InvalidSign" (c 5) "given"
  m6 : Mk1 P w K mg base "InvalidPaper" (c 6) "given"
  m7 : Mk1 P w K mg base "InvalidName" (c 7) "given"
  m8 : Mk1 P w K mg base "InvalidIndex" (c 8) "given"
  m9 : Mk1 P w K mg base "InvalidClaim" (c 9) "given"
  m10 : Mk1 P w K mg base "NotARule" (c 10) "given"
  m11 : Mk1 P w K mg base "InvalidWishes" (c 11) "index"
  m12 : Mk1 P w K mg base "InvalidChanges" (c 12) "index"
  m13 : Mk1 P w K mg base "UnknownName" (c 13) "given"
  m14 : Mk1 P w K mg base "InUse" (c 14) "index"
  m17 : Mk1 P w K mg base "TooMany" (c 17) "limit"
  m19 : Mk2 P w K mg base "Broken" (c 19) "index" "shown"
  no0 : ∀ i ∈ [0, 1, 2, 3, 4, 5, 6, 7, 8, 9, 10], PySem.W.findIn K (.ref (c i)) "given" = some none
  no1 : ∀ i ∈ [11, 12], PySem.W.findIn K (.ref (c i)) "index" = some none
  no13 : PySem.W.findIn K (.ref (c 13)) "given" = some none
  no14 : PySem.W.findIn K (.ref (c 14)) "index" = some none
  no17 : PySem.W.findIn K (.ref (c 17)) "limit" = some none
  no19 : PySem.W.findIn K (.ref (c 19)) "index" = some none
  no19s : PySem.W.findIn K (.ref (c 19)) "shown" = some none
  x15 : PySem.W.excIn K (c 15) (tailOf "LookupError") "LookupError.__new__" = true
  x16 : PySem.W.excIn K (c 16) (tailOf "ArithmeticError") "ArithmeticError.__new__" = true
  x18 : PySem.W.excIn K (c 18) (tailOf "ArithmeticError") "ArithmeticError.__new__" = true
  k15 : PySem.W.keepIn K (.ref (c 15)) = true
  k16 : PySem.W.keepIn K (.ref (c 16)) = true
  k18 : PySem.W.keepIn K (.ref (c 18)) = true
  hRepr : mg "repr" = none
  hAll : mg "all" = none
  hRange : mg "range" = none
def spRight (K : PySem.W.Frag) : Sp := fun vs H Q _ => ∃ p : Addr, vs = [.ref p] ∧ Wl H p ∧ ∀ H' : Hp, Same (del H p) (del H' p) → Q (.bl true) H'
section
variable {P : Program} {w : World} {K : PySem.W.Frag} {mg : Str → Option Value} {base : Heap} {c b : Nat → Addr}
abbrev NR : List Str := ["_law_well_here", "_law_thing", "_law_more", "_law_first", "_law_second", "_law_third", "_law_told", "_law_e", "_law_k"]
theorem scR : FnScope NR ["_law_well_here"] (defScope sRight) :=
  ⟨rfl, rfl, rfl, by decide +kernel, rfl, by decide +kernel, by decide +kernel⟩
theorem ok_right {f fO fG : Addr} {fd fdO fdG : FuncData} (F : Fun K "_law_right" "_law_right" sRight f fd) (R : Rt P w K mg base c b)
    (GO : FnOk P w K mg base CX0 2 fO fdO ["_law_well_here"] (spOdd K)) (bO : Binds K fdO ["_law_well_here"] []) (gO : mg "_law_odd" = some (.ref fO)) (kO : PySem.W.keepIn K (.ref fO) = true)
    (GG : FnOk P w K mg base CX0 2 fG fdG ["_law_e", "_law_part", "_law_at"] (spSingle c)) (bG : Binds K fdG ["_law_e", "_law_part", "_law_at"] []) (gG : mg "_law_single" = some (.ref fG)) (kG : PySem.W.keepIn K (.ref fG) = true) :
    FnG P w K mg base CX0 3 f fd ["_law_well_here"] (spRight K) := by
  refine F.okG scR (fun vs H Q E h => ?_) (fun cdv A outer s H vs Q E hgd hr h => ?_)
  · obtain ⟨p, rfl, _⟩ := h
    rfl
  · obtain ⟨p, rfl, hW, k⟩ := h
    refine ⟨_, pss_cons (ps_par (i := 1) (j := 2) rfl scR.nd rfl rfl (by decide) rfl rfl (pa_cons (pe_call GO hr rfl gO kO bO .nil pass0 (pa_cons (pv 0) pa_nil)) (pa_cons (pe_call GO hr rfl gO kO bO .nil pass0 (pa_cons (pv 0) pa_nil)) pa_nil)) (by rfl))
      (pss_cons (ps_set (i := 3) scR.nd rfl (Or.inr rfl) (pe_lst (pa_cons (pe_mk1 R.m0 hr rfl (pa_cons (pv 1) pa_nil)) (pa_cons (pe_mk1K R.m1 hr rfl (pk_cons (pv 1) pk_nil)) (pa_cons (pe_mk1 R.m2 hr rfl (pa_cons (pv 1) pa_nil)) (pa_cons (pe_mk1K R.m3 hr rfl (pk_cons (pv 1) pk_nil)) pa_nil))))))
      (pss_cons (ps_set (i := 3) scR.nd rfl (Or.inr rfl) (pe_op op_cat (pv 3) (pe_lst (pa_cons (pe_mk1 R.m4 hr rfl (pa_cons (pv 1) pa_nil)) (pa_cons (pe_mk1K R.m5 hr rfl (pk_cons (pv 1) pk_nil)) (pa_cons (pe_mk1 R.m6 hr rfl (pa_cons (pv 1) pa_nil)) (pa_cons (pe_mk1K R.m7 hr rfl (pk_cons (pv 1) pk_nil)) pa_nil)))))))
      (pss_cons (ps_set (i := 3) scR.nd rfl (Or.inr rfl) (pe_op op_cat (pv 3) (pe_lst (pa_cons (pe_mk1 R.m8 hr rfl (pa_cons (pv 1) pa_nil)) (pa_cons (pe_mk1K R.m9 hr rfl (pk_cons (pv 1) pk_nil)) (pa_cons (pe_mk1K R.m10 hr rfl (pk_cons (pv 1) pk_nil)) pa_nil))))))
      (pss_cons (ps_set (i := 3) scR.nd rfl (Or.inr rfl) (pe_op op_cat (pv 3) (pe_lst (pa_cons (pe_mk1 R.m11 hr rfl (pa_cons (pv 1) pa_nil)) (pa_cons (pe_mk1K R.m12 hr rfl (pk_cons (pv 1) pk_nil)) pa_nil)))))
      (pss_cons (ps_if (pt_cmpR op_ne (pe_callB (call_reprL hgd hr.units) (by rfl) R.hRepr (by decide +kernel) (pa_cons (pe_op op_cat (pe_lc (own := [("_law_e", 7)]) (g := gName 7) (tt := tYes) (te := tXf K "given" (tVar 7)) rfl scR.nd (pi_list (pe_slice sl_list (pv 3) po_none (po_some pe_int))) (blkOk_by (N := NR) (sc := defScope sRight) (by decide +kernel)) (fun _ _ _ _ _ => pg_name (i := 7) scR.nd rfl (Or.inl rfl)) (fun _ _ _ _ _ => pts_nil) (fun _ _ _ _ _ => pe_xf (pv 7))) (pe_lc (own := [("_law_e", 7)]) (g := gName 7) (tt := tYes) (te := tXf K "index" (tVar 7)) rfl scR.nd (pi_list (pe_slice sl_list (pv 3) (po_some pe_int) po_none)) (blkOk_by (N := NR) (sc := defScope sRight) (by decide +kernel)) (fun _ _ _ _ _ => pg_name (i := 7) scR.nd rfl (Or.inl rfl)) (fun _ _ _ _ _ => pts_nil) (fun _ _ _ _ _ => pe_xf (pv 7)))) pa_nil)) (pe_callB (call_reprL hgd hr.units) (by rfl) R.hRepr (by decide +kernel) (pa_cons (pe_op op_rep (pe_lst (pa_cons (pv 1) pa_nil)) pe_int) pa_nil)) (nomark _)) (pss_one (ps_ret pe_bl)) pss_nil)
      (pss_cons (ps_asg (pe_tup (pa_cons (pe_lst (pa_cons (pe_mk1 R.m13 hr rfl (pa_cons (pv 1) pa_nil)) (pa_cons (pe_mk1K R.m14 hr rfl (pk_cons (pv 1) pk_nil)) (pa_cons (pe_exc0G PySem.F.excBase_LookupError R.x15 (R.T.g 15 _ rfl) R.k15 rfl) pa_nil)))) (pa_cons (pe_lst (pa_cons (pe_exc0G PySem.F.excBase_ArithmeticError R.x16 (R.T.g 16 _ rfl) R.k16 rfl) (pa_cons (pe_mk1K R.m17 hr rfl (pk_cons (pv 1) pk_nil)) pa_nil))) pa_nil))) (pg_tup rfl (pgs_cons (pg_name (i := 4) scR.nd rfl (Or.inr rfl)) (pgs_cons (pg_name (i := 5) scR.nd rfl (Or.inr rfl)) pgs_nil))))
      (pss_cons (ps_set (i := 5) scR.nd rfl (Or.inr rfl) (pe_op op_cat (pv 5) (pe_lst (pa_cons (pe_exc0G PySem.F.excBase_ArithmeticError R.x18 (R.T.g 18 _ rfl) R.k18 rfl) (pa_cons (pe_mk2K R.m19 hr rfl (pk_cons (pv 2) (pk_cons (pv 1) pk_nil))) pa_nil)))))
      (pss_cons (ps_set (i := 6) scR.nd rfl (Or.inl rfl) (pe_lst (pa_cons (pe_xf (pe_ix ix_list (pv 4) pe_int (fun _ _ => rfl))) (pa_cons (pe_xf (pe_ix ix_list (pv 4) pe_int (fun _ _ => rfl))) (pa_cons (pe_xf (pe_ix ix_list (pv 5) pe_int (fun _ _ => rfl))) (pa_cons (pe_xf (pe_ix ix_list (pv 5) pe_int (fun _ _ => rfl))) (pa_cons (pe_xf (pe_ix ix_list (pv 5) pe_int (fun _ _ => rfl))) (pa_cons (pe_xf (pe_mk2 R.m19 hr rfl (pa_cons (pv 2) (pa_cons (pv 1) pa_nil)))) pa_nil))))))))
      (pss_cons (ps_if (pt_cmpR op_ne (pe_callB (call_reprL hgd hr.units) (by rfl) R.hRepr (by decide +kernel) (pa_cons (pv 6) pa_nil)) (pe_callB (call_reprL hgd hr.units) (by rfl) R.hRepr (by decide +kernel) (pa_cons (pe_lst (pa_cons (pv 1) (pa_cons (pv 1) (pa_cons (pv 1) (pa_cons (pv 1) (pa_cons (pv 2) (pa_cons (pv 2) pa_nil))))))) pa_nil)) (nomark _)) (pss_one (ps_ret pe_bl)) pss_nil)
      (pss_cons (ps_if (PW.pt (pw_or (pt_not (pt_val (pe_callB (cr_all rfl) (by rfl) R.hAll (by decide +kernel) (pa_cons (pe_lc (own := [("_law_k", 8)]) (g := gName 8) (tt := tYes) (te := tCall (spSingle c) [] E0 (tCons (tOp (rIxL K) (tVar 3) (tVar 8)) (tCons (tC (.int 0)) (tCons (tVar 8) tNil)))) rfl scR.nd (pi_range1 rfl R.hRange (pa_cons pe_int pa_nil)) (blkOk_by (N := NR) (sc := defScope sRight) (by decide +kernel)) (fun _ _ _ _ _ => pg_name (i := 8) scR.nd rfl (Or.inl rfl)) (fun _ _ _ _ _ => pts_nil) (fun _ _ _ _ _ => pe_call GG hr rfl gG kG bG .nil pass0 (pa_cons (pe_ix ix_list (pv 3) (pv 8) (fun _ _ => rfl)) (pa_cons pe_int (pa_cons (pv 8) pa_nil))))) pa_nil)))) (pw_or1 (pt_not (pt_val (pe_callB (cr_all rfl) (by rfl) R.hAll (by decide +kernel) (pa_cons (pe_lc (own := [("_law_k", 8)]) (g := gName 8) (tt := tYes) (te := tCall (spSingle c) [] E0 (tCons (tOp (rIxL K) (tVar 4) (tVar 8)) (tCons (tC (.int 1)) (tCons (tVar 8) tNil)))) rfl scR.nd (pi_range1 rfl R.hRange (pa_cons pe_int pa_nil)) (blkOk_by (N := NR) (sc := defScope sRight) (by decide +kernel)) (fun _ _ _ _ _ => pg_name (i := 8) scR.nd rfl (Or.inl rfl)) (fun _ _ _ _ _ => pts_nil) (fun _ _ _ _ _ => pe_call GG hr rfl gG kG bG .nil pass0 (pa_cons (pe_ix ix_list (pv 4) (pv 8) (fun _ _ => rfl)) (pa_cons pe_int (pa_cons (pv 8) pa_nil))))) pa_nil))))))) (pss_one (ps_ret pe_bl)) pss_nil)
      (pss_one (ps_ret (pe_callB (cr_all rfl) (by rfl) R.hAll (by decide +kernel) (pa_cons (pe_lc (own := [("_law_k", 8)]) (g := gName 8) (tt := tYes) (te := tCall (spSingle c) [] E0 (tCons (tOp (rIxL K) (tVar 5) (tVar 8)) (tCons (tC (.int 2)) (tCons (tVar 8) tNil)))) rfl scR.nd (pi_range1 rfl R.hRange (pa_cons pe_int pa_nil)) (blkOk_by (N := NR) (sc := defScope sRight) (by decide +kernel)) (fun _ _ _ _ _ => pg_name (i := 8) scR.nd rfl (Or.inl rfl)) (fun _ _ _ _ _ => pts_nil) (fun _ _ _ _ _ => pe_call GG hr rfl gG kG bG .nil pass0 (pa_cons (pe_ix ix_list (pv 5) (pv 8) (fun _ _ => rfl)) (pa_cons pe_int (pa_cons (pv 8) pa_nil))))) pa_nil)))))))))))))), ?_⟩
    refine ⟨_, rfl, p, rfl, hW, fun v dv Ha mv shv hWa sa => ⟨_, rfl, p, rfl, hWa, fun u du Hb mu shu hWb sb => ⟨v, u, rfl, ?_⟩⟩⟩
    have shV : Sh K Hb v dv := Sh.mono same_of_del (Sh.mono sb shv)
    have shU : Sh K Hb u du := Sh.mono same_of_del shu
    refine ⟨_, rfl, v, rfl, fun a0 d0 G0 n0 s0 x0 => ?_⟩
    refine ⟨_, rfl, v, rfl, fun a1 d1 G1 n1 s1 x1 => ?_⟩
    refine ⟨_, rfl, v, rfl, fun a2 d2 G2 n2 s2 x2 => ?_⟩
    refine ⟨_, rfl, v, rfl, fun a3 d3 G3 n3 s3 x3 => ?_⟩
    refine ⟨(by show 4 ≤ sizeLine; decide), fun q1 h1 => ?_⟩
    refine ⟨_, rfl, ?_⟩
    refine ⟨_, rfl, v, rfl, fun a4 d4 G4 n4 s4 x4 => ?_⟩
    refine ⟨_, rfl, v, rfl, fun a5 d5 G5 n5 s5 x5 => ?_⟩
    refine ⟨_, rfl, v, rfl, fun a6 d6 G6 n6 s6 x6 => ?_⟩
    refine ⟨_, rfl, v, rfl, fun a7 d7 G7 n7 s7 x7 => ?_⟩
    refine ⟨(by show 4 ≤ sizeLine; decide), fun q2a h2a => ?_⟩
    refine ⟨q1, q2a, _, _, rfl, rfl, (((((s4).trans s5).trans s6).trans s7).trans (same_new h2a)) _ _ upd_same, upd_same, (by show 8 ≤ sizeLine; decide), fun q2 h2 => ?_⟩
    refine ⟨_, rfl, ?_⟩
    refine ⟨_, rfl, v, rfl, fun a8 d8 G8 n8 s8 x8 => ?_⟩
    refine ⟨_, rfl, v, rfl, fun a9 d9 G9 n9 s9 x9 => ?_⟩
    refine ⟨_, rfl, v, rfl, fun a10 d10 G10 n10 s10 x10 => ?_⟩
    refine ⟨(by show 3 ≤ sizeLine; decide), fun q3a h3a => ?_⟩
    refine ⟨q2, q3a, _, _, rfl, rfl, ((((s8).trans s9).trans s10).trans (same_new h3a)) _ _ upd_same, upd_same, (by show 11 ≤ sizeLine; decide), fun q3 h3 => ?_⟩
    refine ⟨_, rfl, ?_⟩
    refine ⟨_, rfl, v, rfl, fun a11 d11 G11 n11 s11 x11 => ?_⟩
    refine ⟨_, rfl, v, rfl, fun a12 d12 G12 n12 s12 x12 => ?_⟩
    refine ⟨(by show 2 ≤ sizeLine; decide), fun q4a h4a => ?_⟩
    refine ⟨q3, q4a, _, _, rfl, rfl, (((s11).trans s12).trans (same_new h4a)) _ _ upd_same, upd_same, (by show 13 ≤ sizeLine; decide), fun q4 h4 => ?_⟩
    have sBn := ((((((((((((((((((((s0).trans s1).trans s2).trans s3).trans (same_new h1)).trans s4).trans s5).trans s6).trans s7).trans (same_new h2a)).trans (same_new h2)).trans s8).trans s9).trans s10).trans (same_new h3a)).trans (same_new h3)).trans s11).trans s12).trans (same_new h4a)).trans (same_new (o := .lst [V.ref a0, V.ref a1, V.ref a2, V.ref a3, V.ref a4, V.ref a5, V.ref a6, V.ref a7, V.ref a8, V.ref a9, V.ref a10, V.ref a11, V.ref a12]) h4))
    have y0 := ExAt.same x0 (((((((((((((((((((s1).trans s2).trans s3).trans (same_new h1)).trans s4).trans s5).trans s6).trans s7).trans (same_new h2a)).trans (same_new h2)).trans s8).trans s9).trans s10).trans (same_new h3a)).trans (same_new h3)).trans s11).trans s12).trans (same_new h4a)).trans (same_new (o := .lst [V.ref a0, V.ref a1, V.ref a2, V.ref a3, V.ref a4, V.ref a5, V.ref a6, V.ref a7, V.ref a8, V.ref a9, V.ref a10, V.ref a11, V.ref a12]) h4))
    have y1 := ExAt.same x1 ((((((((((((((((((s2).trans s3).trans (same_new h1)).trans s4).trans s5).trans s6).trans s7).trans (same_new h2a)).trans (same_new h2)).trans s8).trans s9).trans s10).trans (same_new h3a)).trans (same_new h3)).trans s11).trans s12).trans (same_new h4a)).trans (same_new (o := .lst [V.ref a0, V.ref a1, V.ref a2, V.ref a3, V.ref a4, V.ref a5, V.ref a6, V.ref a7, V.ref a8, V.ref a9, V.ref a10, V.ref a11, V.ref a12]) h4))
    have y2 := ExAt.same x2 (((((((((((((((((s3).trans (same_new h1)).trans s4).trans s5).trans s6).trans s7).trans (same_new h2a)).trans (same_new h2)).trans s8).trans s9).trans s10).trans (same_new h3a)).trans (same_new h3)).trans s11).trans s12).trans (same_new h4a)).trans (same_new (o := .lst [V.ref a0, V.ref a1, V.ref a2, V.ref a3, V.ref a4, V.ref a5, V.ref a6, V.ref a7, V.ref a8, V.ref a9, V.ref a10, V.ref a11, V.ref a12]) h4))
    have y3 := ExAt.same x3 (((((((((((((((((same_new h1)).trans s4).trans s5).trans s6).trans s7).trans (same_new h2a)).trans (same_new h2)).trans s8).trans s9).trans s10).trans (same_new h3a)).trans (same_new h3)).trans s11).trans s12).trans (same_new h4a)).trans (same_new (o := .lst [V.ref a0, V.ref a1, V.ref a2, V.ref a3, V.ref a4, V.ref a5, V.ref a6, V.ref a7, V.ref a8, V.ref a9, V.ref a10, V.ref a11, V.ref a12]) h4))
    have y4 := ExAt.same x4 ((((((((((((((s5).trans s6).trans s7).trans (same_new h2a)).trans (same_new h2)).trans s8).trans s9).trans s10).trans (same_new h3a)).trans (same_new h3)).trans s11).trans s12).trans (same_new h4a)).trans (same_new (o := .lst [V.ref a0, V.ref a1, V.ref a2, V.ref a3, V.ref a4, V.ref a5, V.ref a6, V.ref a7, V.ref a8, V.ref a9, V.ref a10, V.ref a11, V.ref a12]) h4))
    have y5 := ExAt.same x5 (((((((((((((s6).trans s7).trans (same_new h2a)).trans (same_new h2)).trans s8).trans s9).trans s10).trans (same_new h3a)).trans (same_new h3)).trans s11).trans s12).trans (same_new h4a)).trans (same_new (o := .lst [V.ref a0, V.ref a1, V.ref a2, V.ref a3, V.ref a4, V.ref a5, V.ref a6, V.ref a7, V.ref a8, V.ref a9, V.ref a10, V.ref a11, V.ref a12]) h4))
    have y6 := ExAt.same x6 ((((((((((((s7).trans (same_new h2a)).trans (same_new h2)).trans s8).trans s9).trans s10).trans (same_new h3a)).trans (same_new h3)).trans s11).trans s12).trans (same_new h4a)).trans (same_new (o := .lst [V.ref a0, V.ref a1, V.ref a2, V.ref a3, V.ref a4, V.ref a5, V.ref a6, V.ref a7, V.ref a8, V.ref a9, V.ref a10, V.ref a11, V.ref a12]) h4))
    have y7 := ExAt.same x7 ((((((((((((same_new h2a)).trans (same_new h2)).trans s8).trans s9).trans s10).trans (same_new h3a)).trans (same_new h3)).trans s11).trans s12).trans (same_new h4a)).trans (same_new (o := .lst [V.ref a0, V.ref a1, V.ref a2, V.ref a3, V.ref a4, V.ref a5, V.ref a6, V.ref a7, V.ref a8, V.ref a9, V.ref a10, V.ref a11, V.ref a12]) h4))
    have y8 := ExAt.same x8 ((((((((s9).trans s10).trans (same_new h3a)).trans (same_new h3)).trans s11).trans s12).trans (same_new h4a)).trans (same_new (o := .lst [V.ref a0, V.ref a1, V.ref a2, V.ref a3, V.ref a4, V.ref a5, V.ref a6, V.ref a7, V.ref a8, V.ref a9, V.ref a10, V.ref a11, V.ref a12]) h4))
    have y9 := ExAt.same x9 (((((((s10).trans (same_new h3a)).trans (same_new h3)).trans s11).trans s12).trans (same_new h4a)).trans (same_new (o := .lst [V.ref a0, V.ref a1, V.ref a2, V.ref a3, V.ref a4, V.ref a5, V.ref a6, V.ref a7, V.ref a8, V.ref a9, V.ref a10, V.ref a11, V.ref a12]) h4))
    have y10 := ExAt.same x10 (((((((same_new h3a)).trans (same_new h3)).trans s11).trans s12).trans (same_new h4a)).trans (same_new (o := .lst [V.ref a0, V.ref a1, V.ref a2, V.ref a3, V.ref a4, V.ref a5, V.ref a6, V.ref a7, V.ref a8, V.ref a9, V.ref a10, V.ref a11, V.ref a12]) h4))
    have y11 := ExAt.same x11 (((s12).trans (same_new h4a)).trans (same_new (o := .lst [V.ref a0, V.ref a1, V.ref a2, V.ref a3, V.ref a4, V.ref a5, V.ref a6, V.ref a7, V.ref a8, V.ref a9, V.ref a10, V.ref a11, V.ref a12]) h4))
    have y12 := ExAt.same x12 (((same_new h4a)).trans (same_new (o := .lst [V.ref a0, V.ref a1, V.ref a2, V.ref a3, V.ref a4, V.ref a5, V.ref a6, V.ref a7, V.ref a8, V.ref a9, V.ref a10, V.ref a11, V.ref a12]) h4))
    have shVn := Sh.mono sBn shV
    have shUn := Sh.mono sBn shU
    refine t6_ok (K := K) (p := p) (q := q4) (v := v) (u := u) (dv := dv) mv shVn upd_same (fun j x e => ?_) (fun j x e => ?_) (fun H6 s6 => ?_)
    · match j, e with
      | 0, e => cases e; exact ⟨a0, c 0, d0, rfl, R.T.ex 0 (by decide), y0, R.no0 0 (by decide)⟩
      | 1, e => cases e; exact ⟨a1, c 1, d1, rfl, R.T.ex 1 (by decide), y1, R.no0 1 (by decide)⟩
      | 2, e => cases e; exact ⟨a2, c 2, d2, rfl, R.T.ex 2 (by decide), y2, R.no0 2 (by decide)⟩
      | 3, e => cases e; exact ⟨a3, c 3, d3, rfl, R.T.ex 3 (by decide), y3, R.no0 3 (by decide)⟩
      | 4, e => cases e; exact ⟨a4, c 4, d4, rfl, R.T.ex 4 (by decide), y4, R.no0 4 (by decide)⟩
      | 5, e => cases e; exact ⟨a5, c 5, d5, rfl, R.T.ex 5 (by decide), y5, R.no0 5 (by decide)⟩
      | 6, e => cases e; exact ⟨a6, c 6, d6, rfl, R.T.ex 6 (by decide), y6, R.no0 6 (by decide)⟩
      | 7, e => cases e; exact ⟨a7, c 7, d7, rfl, R.T.ex 7 (by decide), y7, R.no0 7 (by decide)⟩
      | 8, e => cases e; exact ⟨a8, c 8, d8, rfl, R.T.ex 8 (by decide), y8, R.no0 8 (by decide)⟩
      | 9, e => cases e; exact ⟨a9, c 9, d9, rfl, R.T.ex 9 (by decide), y9, R.no0 9 (by decide)⟩
      | 10, e => cases e; exact ⟨a10, c 10, d10, rfl, R.T.ex 10 (by decide), y10, R.no0 10 (by decide)⟩
      | n + 11, e => simp at e
    · match j, e with
      | 0, e => cases e; exact ⟨a11, c 11, d11, rfl, R.T.ex 11 (by decide), y11, R.no1 11 (by decide)⟩
      | 1, e => cases e; exact ⟨a12, c 12, d12, rfl, R.T.ex 12 (by decide), y12, R.no1 12 (by decide)⟩
      | n + 2, e => simp at e
    · refine t7_ok (K := K) (c := c) (v := v) (u := u) (p := p) (q := q4) (xs := [V.ref a0, V.ref a1, V.ref a2, V.ref a3, V.ref a4, V.ref a5, V.ref a6, V.ref a7, V.ref a8, V.ref a9, V.ref a10, V.ref a11, V.ref a12]) (s6 _ _ upd_same) (fun j hj => ?_) (fun H8 l1 l4 a13 a14 a15 a16 a17 a18 a19 d13 d14 d17 d19 s8 S => ?_)
      · match j, hj with
        | 0, _ => exact ⟨a0, 0, some d0, rfl, (ExAt.er y0 (by decide)).same s6, rfl, rfl⟩
        | 1, _ => exact ⟨a1, 1, some d1, rfl, (ExAt.er y1 (by decide)).same s6, rfl, rfl⟩
        | 2, _ => exact ⟨a2, 2, some d2, rfl, (ExAt.er y2 (by decide)).same s6, rfl, rfl⟩
        | 3, _ => exact ⟨a3, 3, some d3, rfl, (ExAt.er y3 (by decide)).same s6, rfl, rfl⟩
        | 4, _ => exact ⟨a4, 4, some d4, rfl, (ExAt.er y4 (by decide)).same s6, rfl, rfl⟩
        | 5, _ => exact ⟨a5, 5, some d5, rfl, (ExAt.er y5 (by decide)).same s6, rfl, rfl⟩
        | 6, _ => exact ⟨a6, 6, some d6, rfl, (ExAt.er y6 (by decide)).same s6, rfl, rfl⟩
        | 7, _ => exact ⟨a7, 7, some d7, rfl, (ExAt.er y7 (by decide)).same s6, rfl, rfl⟩
        | 8, _ => exact ⟨a8, 8, some d8, rfl, (ExAt.er y8 (by decide)).same s6, rfl, rfl⟩
        | 9, _ => exact ⟨a9, 9, some d9, rfl, (ExAt.er y9 (by decide)).same s6, rfl, rfl⟩
        | 10, _ => exact ⟨a10, 10, some d10, rfl, (ExAt.er y10 (by decide)).same s6, rfl, rfl⟩
        | 11, _ => exact ⟨a11, 11, some d11, rfl, (ExAt.er y11 (by decide)).same s6, rfl, rfl⟩
        | 12, _ => exact ⟨a12, 12, some d12, rfl, (ExAt.er y12 (by decide)).same s6, rfl, rfl⟩
        | n + 13, h => exact absurd h (by omega)
      · have sBe := (sBn.trans s6).trans s8
        refine t9_ok (dv := dv) (du := du) R.T.ex R.no13 R.no14 R.no17 R.no19 R.no19s mv mu (Sh.mono sBe shV) (Sh.mono sBe shU) S (fun H9 s9 => ?_)
        exact k H9 ((sa.trans sb).trans (same_del (sBe.trans s9)))
end
end My
namespace My
open PySem PySem.Spec PyProof.Rows L2 PySem.GX
abbrev sLaw : Stmt := top 42
abbrev NL : List Str := ["_law_script", "_law_told", "_law_turn"]
def spLaw (K : PySem.W.Frag) : Sp := fun vs H Q _ => ∃ (a : Addr) (ns : List Int), vs = [.ref a] ∧ SqL K H a (ns.map V.int) ∧ ns.length ≤ 63 ∧ ∀ H', Q (.bl true) H'
def mosts : List Int := [3, 300, 1000, 1000, 5, 300, 3000, 3000, 3000, 6]
structure Ms (mg : Str → Option Value) : Prop where
  m0 : ∃ t, mg "MOST_SIGNS" = some (.int 3 t)
  m1 : ∃ t, mg "MOST_MOODS" = some (.int 300 t)
  m2 : ∃ t, mg "MOST_ROW" = some (.int 1000 t)
  m3 : ∃ t, mg "MOST_LOOK" = some (.int 1000 t)
  m4 : ∃ t, mg "MOST_PIECE" = some (.int 5 t)
  m5 : ∃ t, mg "MOST_MOVINGS" = some (.int 300 t)
  m6 : ∃ t, mg "MOST_TRIPLES" = some (.int 3000 t)
  m7 : ∃ t, mg "MOST_PAIRS" = some (.int 3000 t)
  m8 : ∃ t, mg "MOST_LOTS" = some (.int 3000 t)
  m9 : ∃ t, mg "MOST_CHANGES" = some (.int 6 t)
theorem shInts {K : PySem.W.Frag} {H : Hp} : ∀ ns : List Int, ShAll K H (ns.map V.int) (ns.map PyData.int)
  | [] => .nil
  | n :: ns => .cons (.fl (.int n)) (shInts ns)
theorem mosts_ok : PyData.showableAll (mosts.map PyData.int) = true ∧ (PyData.list (mosts.map PyData.int)).shown.length ≤ sizeLine ∧ (PyData.list (mosts.map PyData.int)).depth ≤ 60 := by decide +kernel
section
variable {P : Program} {w : World} {K : PySem.W.Frag} {mg : Str → Option Value} {base : Heap} {c b : Nat → Addr}
theorem scL : FnScope NL ["_law_script"] (defScope sLaw) := ⟨rfl, rfl, rfl, by decide +kernel, rfl, by decide +kernel, by decide +kernel⟩
theorem ok_law {f fW fR : Addr} {fd fdW fdR : FuncData} (F : Fun K "law" "law" sLaw f fd) (M : Ms mg) (hRepr : mg "repr" = none) (hAll : mg "all" = none) (hRange : mg "range" = none) (hMax : mg "max" = none) (hMin : mg "min" = none) (hL : mg "len" = none)
    (GW : FnOk P w K mg base CX0 1 fW fdW ["_law_script", "_law_turn"] (spWell K)) (bW : Binds K fdW ["_law_script", "_law_turn"] []) (gW : mg "_law_well" = some (.ref fW)) (kW : PySem.W.keepIn K (.ref fW) = true)
    (GR : FnG P w K mg base CX0 3 fR fdR ["_law_well_here"] (spRight K)) (bR : Binds K fdR ["_law_well_here"] []) (gR : mg "_law_right" = some (.ref fR)) (kR : PySem.W.keepIn K (.ref fR) = true) :
    FnG P w K mg base CX0 4 f fd ["_law_script"] (spLaw K) := by
  obtain ⟨⟨u0, m0⟩, ⟨u1, m1⟩, ⟨u2, m2⟩, ⟨u3, m3⟩, ⟨u4, m4⟩, ⟨u5, m5⟩, ⟨u6, m6⟩, ⟨u7, m7⟩, ⟨u8, m8⟩, ⟨u9, m9⟩⟩ := M
  refine F.okG scL (fun vs H Q E h => ?_) (fun cdv A outer s H vs Q E hgd hr h => ?_)
  · obtain ⟨a, ns, rfl, _⟩ := h
    rfl
  · obtain ⟨a, ns, rfl, hS, hl, k⟩ := h
    have hr1 : Room 1 _ := hr.mono (by decide)
    refine ⟨_, pss_cons (ps_set (i := 1) scL.nd rfl (Or.inl rfl) (pe_lst (pa_cons (pe_glob (v := .int 3) rfl m0 ⟨_, rfl⟩) (pa_cons (pe_glob (v := .int 300) rfl m1 ⟨_, rfl⟩) (pa_cons (pe_glob (v := .int 1000) rfl m2 ⟨_, rfl⟩) (pa_cons (pe_glob (v := .int 1000) rfl m3 ⟨_, rfl⟩)
        (pa_cons (pe_glob (v := .int 5) rfl m4 ⟨_, rfl⟩) (pa_cons (pe_glob (v := .int 300) rfl m5 ⟨_, rfl⟩) (pa_cons (pe_glob (v := .int 3000) rfl m6 ⟨_, rfl⟩) (pa_cons (pe_glob (v := .int 3000) rfl m7 ⟨_, rfl⟩) (pa_cons (pe_glob (v := .int 3000) rfl m8 ⟨_, rfl⟩) pa_nil)))))))))))
      (pss_cons (ps_if (pt_cmpR op_ne (pe_callB (call_reprL hgd hr.units) (by rfl) hRepr (by decide +kernel) (pa_cons (pe_op op_cat (pv 1) (pe_lst (pa_cons (pe_glob (v := .int 6) rfl m9 ⟨_, rfl⟩) pa_nil))) pa_nil))
          (pe_callB (call_reprL hgd hr.units) (by rfl) hRepr (by decide +kernel) (pa_cons (pe_lst (pa_cons pe_int (pa_cons pe_int (pa_cons pe_int (pa_cons pe_int (pa_cons pe_int (pa_cons pe_int (pa_cons pe_int (pa_cons pe_int (pa_cons pe_int (pa_cons pe_int pa_nil))))))))))) pa_nil)) (nomark _))
        (pss_one (ps_ret pe_bl)) pss_nil)
      (pss_one (ps_ret (pe_callB (cr_all rfl) (by rfl) hAll (by decide +kernel) (pa_cons
        (pe_lc (own := [("_law_turn", 2)]) (g := gName 2) (tt := tYes) (te := tCall (spRight K) [] E0 (tCons (tCall (spWell K) [] E0 (tCons (tVar 0) (tCons (tVar 2) tNil))) tNil)) rfl scL.nd
          (pi_range1 rfl hRange (pa_cons (pe_callB (call_max2 rfl) (by rfl) hMax (by decide +kernel) (pa_cons pe_int (pa_cons (pe_callB (call_min2 rfl) (by rfl) hMin (by decide +kernel) (pa_cons (pe_callB call_len_seq (by rfl) hL PySem.boot_len (pa_cons (pv 0) pa_nil)) (pa_cons pe_int pa_nil))) pa_nil))) pa_nil))
          (blkOk_by (N := NL) (sc := defScope sLaw) (by decide +kernel)) (fun _ _ _ _ _ => pg_name (i := 2) scL.nd rfl (Or.inl rfl)) (fun _ _ _ _ _ => pts_nil)
          (fun _ _ _ _ _ => pe_callG GR hgd hr rfl gR kR bR pass0 (pa_cons (pe_call GW hr1 rfl gW kW bW .nil pass0 (pa_cons (pv 0) (pa_cons (pv 2) pa_nil))) pa_nil))) pa_nil))))), ?_⟩
    refine ⟨(by show 9 ≤ sizeLine; decide), fun l1 h1 => ?_⟩
    refine ⟨_, rfl, (by show 1 ≤ sizeLine; decide), fun l2 h2 => ⟨l1, l2, _, _, rfl, rfl, keep1 upd_same h2, upd_same, (by show 10 ≤ sizeLine; decide), fun l3 h3 => ?_⟩⟩
    have mo := mosts_ok
    refine ⟨l3, mosts.map PyData.int, rfl, .lst (xs := mosts.map V.int) (SqL.of upd_same) (shInts mosts), mo.1, mo.2.1, mo.2.2, ?_⟩
    refine ⟨(by show 10 ≤ sizeLine; decide), fun l4 h4 => ?_⟩
    refine ⟨l4, mosts.map PyData.int, rfl, .lst (xs := mosts.map V.int) (SqL.of upd_same) (shInts mosts), mo.1, mo.2.1, mo.2.2, rfl, _, rfl, ?_⟩
    refine if_false_of (ne_self _) ?_
    have s4 := (((same_new (H := H) h1).trans (same_new h2)).trans (same_new h3)).trans (same_new (o := .lst (mosts.map V.int)) h4)
    have hS4 := s4.seq hS
    refine ⟨_, rfl, a, _, rfl, .inl hS4, _, _, rfl, _, _, rfl, _, rfl, ?_, ?_, fun D hD => ?_⟩
    · rw [List.length_map]
      split <;> split <;> omega
    · rw [List.length_map]
      split <;> split <;> omega
    · rw [List.length_map] at *
      generalize hn : (if (if (3 : Int) < (ns.length : Int) then (3 : Int) else (ns.length : Int)) > 2 then (if (3 : Int) < (ns.length : Int) then (3 : Int) else (ns.length : Int)) else 2) = n
      have n1 : 0 ≤ n ∧ n ≤ 3 := by
        rw [← hn]
        constructor <;> split <;> split <;> omega
      refine lc_range (lo := 0) (n := n.toNat) (fun j H' => Same (upd _ l4 (.lst (mosts.map V.int))) H' ∧ H' D = some (.lst (List.replicate j (V.bl true)))) ⟨same_new hD, upd_same⟩ (fun j H' hj ⟨sH, eD⟩ => ?_) (fun H' ⟨sH, eD⟩ => ?_)
      · refine ⟨rfl, ?_⟩
        refine ⟨_, rfl, _, rfl, a, ns, _, rfl, (s4.trans sH).seq hS, (by omega), (by omega), fun p H1 s1 np hW => ?_⟩
        refine ⟨p, rfl, hW, fun H2 s2 => ?_⟩
        have dp : D ≠ p := ne_of_none eD np
        have eD2 : H2 D = some (.lst (List.replicate j (V.bl true))) := by
          have z := s2 D _ (by rw [del_ne dp]; exact s1 _ _ eD)
          rw [del_ne dp] at z
          exact z
        refine ⟨_, eD2, ?_, fun b o e => ?_, ?_⟩
        · rw [List.length_replicate]
          exact small1000 (by omega)
        · rw [upd_ne (ne_of_none e hD)]
          have z0 := sH _ _ e
          have bp : b ≠ p := ne_of_none z0 np
          have z := s2 b o (by rw [del_ne bp]; exact s1 _ _ z0)
          rw [del_ne bp] at z
          exact z
        · rw [upd_same, rep_snoc]
      · refine ⟨D, List.replicate n.toNat true, rfl, SqL.of (by rw [List.map_replicate]; exact eD), ?_⟩
        rw [all_rep]
        exact k H'
end
end My
namespace My
open PySem PySem.Spec PyProof.Rows L2 PySem.GX
/-! ### what is asked of the written part, as tests that are run -/
def okC (K : PySem.W.Frag) (C : Addr) : Bool :=
  PySem.W.findIn K (.ref C) "__getattribute__" == some (some (.builtin "BaseException.__getattribute__")) && (PySem.W.findIn K (.ref C) "__getattr__" == some none &&
  (PySem.W.subIn K (.ref C) (.type "BaseException") == some true && (PySem.W.hasDictIn K C && (PySem.W.findIn K (.ref C) "__class__" == some (some (.builtin "object.__class__")) &&
  (PySem.W.specialIn K (.builtin "object.__class__") "__get__" == some (some (.builtin "getset_descriptor.__get__")) && (PySem.W.takesIn K (.builtin "object.__class__") == some true &&
  (PySem.W.mroIn K C (.type "object") == some true && (PySem.W.findIn K (.ref C) "__setattr__" == some (some (.builtin "object.__setattr__")) && PySem.W.keepIn K (.ref C)))))))))
theorem okC_of {K : PySem.W.Frag} {C : Addr} (h : okC K C = true) : ExcC K C ∧ PySem.W.findIn K (.ref C) "__setattr__" = some (some (.builtin "object.__setattr__")) ∧ PySem.W.keepIn K (.ref C) = true := by
  unfold okC at h
  simp only [Bool.and_eq_true, beq_iff_eq] at h
  obtain ⟨h1, h2, h3, h4, h5, h6, h7, h8, h9, h10⟩ := h
  exact ⟨⟨h1, h2, h3, h4, h5, h6, h7, h8⟩, h9, h10⟩
def shp (K : PySem.W.Frag) (C B : Addr) (tl : List Value) (nid : String) : Bool := match K.lookup C with
  | some ⟨.type "type", _, .cls cd, sl⟩ => (match cd.mro, sl.toList with
    | .ref C' :: bm, [_, _, _, _, some (.builtin n), _] => C' == C && (n == nid && (!cd.hasDel && (cd.hasDict && bm == .ref B :: tl)))
    | _, _ => false)
  | _ => false
theorem shp_of {K : PySem.W.Frag} {C B : Addr} {tl : List Value} {nid : String} (q : shp K C B tl nid = true) : ∃ nm qn N bs sn sub ab col dd k0 k1 k2 k3 k5,
    K.lookup C = some (excClassObj nm qn C N bs (.ref B :: tl) true sn sub ab col dd k0 k1 k2 k3 k5 nid) := by
  unfold shp at q
  split at q
  · rename_i dd cd sl ho
    split at q
    · rename_i C' bm k0 k1 k2 k3 n k5 hm hs
      simp only [Bool.and_eq_true, beq_iff_eq, Bool.not_eq_true'] at q
      obtain ⟨rfl, rfl, hdel, hdi, hbm⟩ := q
      obtain ⟨nm, bs, mro, ns, qn, hd, sn, sub, ab, col, dl⟩ := cd
      dsimp only at hm hdel hdi
      subst hm hdel hdi hbm
      have hsl : sl = #[k0, k1, k2, k3, some (.builtin n), k5] := by
        obtain ⟨l⟩ := sl
        simp only at hs
        rw [hs]
      subst hsl
      exact ⟨nm, qn, ns, bs, sn, sub, ab, col, dd, k0, k1, k2, k3, k5, ho⟩
    · cases q
  · cases q
theorem exG_of {K : PySem.W.Frag} {C B : Addr} {Bn nid iid : String} (FB : ExcBaseFacts Bn nid iid (tailOf Bn)) (hp : ∀ self, refuseLoop self "__setattr__" (tailOf Bn) = pure ()) (h : okC K C = true) (q : shp K C B (tailOf Bn) nid = true) : ExG K C := by
  obtain ⟨a, b, c⟩ := okC_of h
  obtain ⟨nm, qn, N, bs, sn, sub, ab, col, dd, k0, k1, k2, k3, k5, e⟩ := shp_of q
  exact ⟨a, ⟨Bn, nid, iid, tailOf Bn, nm, qn, N, bs, _, sn, sub, ab, col, dd, k0, k1, k2, k3, k5, FB, fun Y => by rw [List.contains_cons]; rfl, mroOk2 hp, e⟩, b, c⟩
def nid (i : Nat) : String := ["ValueError.__new__", "LookupError.__new__", "ArithmeticError.__new__"].getD (part i) ""
def chk (K : PySem.W.Frag) (cs bs : List Addr) : Bool :=
  (List.range 20).all (fun i => okC K (cs.getD i 0)) && ((List.range 20).all (fun i => (List.range 20).all fun j => PySem.W.kitOne K (.ref (cs.getD i 0)) (.ref (cs.getD j 0)) == some (decide (i = j))) &&
  ((List.range 20).all (fun i => (List.range 3).all fun j => PySem.W.kitOne K (.ref (cs.getD i 0)) (.ref (bs.getD j 0)) == some (decide (part i = j))) &&
  ((List.range 20).all (fun i => (List.range 3).all fun j => PySem.W.kitOne K (.ref (cs.getD i 0)) (.type (tstr j)) == some (decide (part i = j))) &&
  ((List.range 20).all (fun i => shp K (cs.getD i 0) (bs.getD (part i) 0) (tailOf (tstr (part i))) (nid i)) &&
  ([0, 1, 2, 3, 4, 5, 6, 7, 8, 9, 10, 13].all (fun i => PySem.W.findIn K (.ref (cs.getD i 0)) "given" == some none) &&
  ([11, 12, 14, 19].all (fun i => PySem.W.findIn K (.ref (cs.getD i 0)) "index" == some none) &&
  (PySem.W.findIn K (.ref (cs.getD 17 0)) "limit" == some none && (PySem.W.findIn K (.ref (cs.getD 19 0)) "shown" == some none &&
  (PySem.W.excIn K (cs.getD 15 0) (tailOf "LookupError") "LookupError.__new__" && (PySem.W.excIn K (cs.getD 16 0) (tailOf "ArithmeticError") "ArithmeticError.__new__" && PySem.W.excIn K (cs.getD 18 0) (tailOf "ArithmeticError") "ArithmeticError.__new__"))))))))))
def frees : List Str := ["int", "len", "abs", "isinstance", "repr", "all", "range", "max", "min", "ValueError", "LookupError", "ArithmeticError"]
def chkF (K : PySem.W.Frag) : Bool := frees.all fun x => PySem.W.nsIn K mainGlobals x == some none
theorem free_of {K : PySem.W.Frag} {h : Heap} {mg : Str → Option Value} (X : K.In h) (G : h.Ns mainGlobals mg) (q : chkF K = true) {x : Str} (hx : x ∈ frees) : mg x = none := by
  unfold chkF at q
  exact PySem.W.mg_none_of X G (beq_iff_eq.mp (List.all_eq_true.mp q x hx))
section
variable {l : PySem.W.OpenLaw} {w : World} {K : PySem.W.Frag} {h : Heap} {mg : Str → Option Value}
theorem all_mk {fa C0 C1 C2 C3 C4 C5 C6 C7 C8 C9 C10 C11 C12 C13 C14 C15 C16 C17 C18 C19 B0 B1 B2 f0 f1 f2 f3 f4 f5 f6 f7 f8 f9 f10 f11 f12 f13 f14 f17 f19 gw gd go gs gb gg gr gl : Addr} {od0 an0 od1 an1 od2 an2 od3 an3 od4 an4 od5 an5 od6 an6 od7 an7 od8 an8 od9 an9 od10 an10 od11 an11 od12 an12 od13 an13 od14 an14 od17 an17 od19 an19 odw anw odd and odo ano ods ans odb anb odg ang odr anr odl anl : Option Addr} {sl0 sl1 sl2 sl3 sl4 sl5 sl6 sl7 sl8 sl9 sl10 sl11 sl12 sl13 sl14 sl17 sl19 slw sld slo sls slb slg slr sll : Array (Option Value)} {oc0 kV0 dc0 pm0 cd0 ct0 oc1 kV1 dc1 pm1 cd1 ct1 oc2 kV2 dc2 pm2 cd2 ct2 oc3 kV3 dc3 pm3 cd3 ct3 oc4 kV4 dc4 pm4 cd4 ct4 oc5 kV5 dc5 pm5 cd5 ct5 oc6 kV6 dc6 pm6 cd6 ct6 oc7 kV7 dc7 pm7 cd7 ct7 oc8 kV8 dc8 pm8 cd8 ct8 oc9 kV9 dc9 pm9 cd9 ct9 oc10 kV10 dc10 pm10 cd10 ct10 oc11 kV11 dc11 pm11 cd11 ct11 oc12 kV12 dc12 pm12 cd12 ct12 oc13 kV13 dc13 pm13 cd13 ct13 oc14 kV14 dc14 pm14 cd14 ct14 oc17 kV17 dc17 pm17 cd17 ct17 oc19 kV19 dc19 pm19 cd19 ct19 ocw kVw dcw pmw cdw ctw ocd kVd dcd pmd cdd ctd oco kVo dco pmo cdo cto ocs kVs dcs pms cds cts ocb kVb dcb pmb cdb ctb ocg kVg dcg pmg cdg ctg ocr kVr dcr pmr cdr ctr ocl kVl dcl pml cdl ctl : Value} {tk0 tk1 tk2 tk3 tk4 tk5 tk6 tk7 tk8 tk9 : Tok} (X : K.In h) (G : h.Ns mainGlobals mg) (hfa : mg "law" = some (.ref fa))
    (ac0 : PySem.W.nsIn K mainGlobals "InvalidText" = some (some (.ref C0)))
    (ac1 : PySem.W.nsIn K mainGlobals "InvalidRow" = some (some (.ref C1)))
    (ac2 : PySem.W.nsIn K mainGlobals "InvalidKind" = some (some (.ref C2)))
    (ac3 : PySem.W.nsIn K mainGlobals "InvalidNumber" = some (some (.ref C3)))
    (ac4 : PySem.W.nsIn K mainGlobals "InvalidMood" = some (some (.ref C4)))
    (ac5 : PySem.W.nsIn K mainGlobals "InvalidSign" = some (some (.ref C5)))
    (ac6 : PySem.W.nsIn K mainGlobals "InvalidPaper" = some (some (.ref C6)))
    (ac7 : PySem.W.nsIn K mainGlobals "InvalidName" = some (some (.ref C7)))
    (ac8 : PySem.W.nsIn K mainGlobals "InvalidIndex" = some (some (.ref C8)))
    (ac9 : PySem.W.nsIn K mainGlobals "InvalidClaim" = some (some (.ref C9)))
    (ac10 : PySem.W.nsIn K mainGlobals "NotARule" = some (some (.ref C10)))
    (ac11 : PySem.W.nsIn K mainGlobals "InvalidWishes" = some (some (.ref C11)))
    (ac12 : PySem.W.nsIn K mainGlobals "InvalidChanges" = some (some (.ref C12)))
    (ac13 : PySem.W.nsIn K mainGlobals "UnknownName" = some (some (.ref C13)))
    (ac14 : PySem.W.nsIn K mainGlobals "InUse" = some (some (.ref C14)))
    (ac15 : PySem.W.nsIn K mainGlobals "NothingToUndo" = some (some (.ref C15)))
    (ac16 : PySem.W.nsIn K mainGlobals "OtherSigns" = some (some (.ref C16)))
    (ac17 : PySem.W.nsIn K mainGlobals "TooMany" = some (some (.ref C17)))
    (ac18 : PySem.W.nsIn K mainGlobals "Kept" = some (some (.ref C18)))
    (ac19 : PySem.W.nsIn K mainGlobals "Broken" = some (some (.ref C19)))
    (ab0 : PySem.W.nsIn K mainGlobals "NotRight" = some (some (.ref B0)))
    (ab1 : PySem.W.nsIn K mainGlobals "NotKnown" = some (some (.ref B1)))
    (ab2 : PySem.W.nsIn K mainGlobals "NotPossible" = some (some (.ref B2)))
    (ai0 : PySem.W.findIn K (.ref C0) "__init__" = some (some (.ref f0))) (ti0 : PySem.W.typeIn K (.ref f0) = some (.type "function")) (li0 : K.lookup f0 = some ⟨oc0, od0, .func (PySem.W.fnOf "__init__" "InvalidText.__init__" (defArgs (inClass (top 2) 0)) (defBody (inClass (top 2) 0)) (defScope (inClass (top 2) 0)) .none kV0 dc0 pm0 an0 cd0 ct0), sl0⟩) (ci0 : PySem.W.codeIn K cd0 "InvalidText.__init__" = true) (ki0 : PySem.W.keepIn K (.ref f0) = true)
    (ai1 : PySem.W.findIn K (.ref C1) "__init__" = some (some (.ref f1))) (ti1 : PySem.W.typeIn K (.ref f1) = some (.type "function")) (li1 : K.lookup f1 = some ⟨oc1, od1, .func (PySem.W.fnOf "__init__" "InvalidRow.__init__" (defArgs (inClass (top 3) 0)) (defBody (inClass (top 3) 0)) (defScope (inClass (top 3) 0)) .none kV1 dc1 pm1 an1 cd1 ct1), sl1⟩) (ci1 : PySem.W.codeIn K cd1 "InvalidRow.__init__" = true) (ki1 : PySem.W.keepIn K (.ref f1) = true)
    (ai2 : PySem.W.findIn K (.ref C2) "__init__" = some (some (.ref f2))) (ti2 : PySem.W.typeIn K (.ref f2) = some (.type "function")) (li2 : K.lookup f2 = some ⟨oc2, od2, .func (PySem.W.fnOf "__init__" "InvalidKind.__init__" (defArgs (inClass (top 4) 0)) (defBody (inClass (top 4) 0)) (defScope (inClass (top 4) 0)) .none kV2 dc2 pm2 an2 cd2 ct2), sl2⟩) (ci2 : PySem.W.codeIn K cd2 "InvalidKind.__init__" = true) (ki2 : PySem.W.keepIn K (.ref f2) = true)
    (ai3 : PySem.W.findIn K (.ref C3) "__init__" = some (some (.ref f3))) (ti3 : PySem.W.typeIn K (.ref f3) = some (.type "function")) (li3 : K.lookup f3 = some ⟨oc3, od3, .func (PySem.W.fnOf "__init__" "InvalidNumber.__init__" (defArgs (inClass (top 5) 0)) (defBody (inClass (top 5) 0)) (defScope (inClass (top 5) 0)) .none kV3 dc3 pm3 an3 cd3 ct3), sl3⟩) (ci3 : PySem.W.codeIn K cd3 "InvalidNumber.__init__" = true) (ki3 : PySem.W.keepIn K (.ref f3) = true)
    (ai4 : PySem.W.findIn K (.ref C4) "__init__" = some (some (.ref f4))) (ti4 : PySem.W.typeIn K (.ref f4) = some (.type "function")) (li4 : K.lookup f4 = some ⟨oc4, od4, .func (PySem.W.fnOf "__init__" "InvalidMood.__init__" (defArgs (inClass (top 6) 0)) (defBody (inClass (top 6) 0)) (defScope (inClass (top 6) 0)) .none kV4 dc4 pm4 an4 cd4 ct4), sl4⟩) (ci4 : PySem.W.codeIn K cd4 "InvalidMood.__init__" = true) (ki4 : PySem.W.keepIn K (.ref f4) = true)
    (ai5 : PySem.W.findIn K (.ref C5) "__init__" = some (some (.ref f5))) (ti5 : PySem.W.typeIn K (.ref f5) = some (.type "function")) (li5 : K.lookup f5 = some ⟨oc5, od5, .func (PySem.W.fnOf "__init__" "InvalidSign.__init__" (defArgs (inClass (top 7) 0)) (defBody (inClass (top 7) 0)) (defScope (inClass (top 7) 0)) .none kV5 dc5 pm5 an5 cd5 ct5), sl5⟩) (ci5 : PySem.W.codeIn K cd5 "InvalidSign.__init__" = true) (ki5 : PySem.W.keepIn K (.ref f5) = true)
    (ai6 : PySem.W.findIn K (.ref C6) "__init__" = some (some (.ref f6))) (ti6 : PySem.W.typeIn K (.ref f6) = some (.type "function")) (li6 : K.lookup f6 = some ⟨oc6, od6, .func (PySem.W.fnOf "__init__" "InvalidPaper.__init__" (defArgs (inClass (top 8) 0)) (defBody (inClass (top 8) 0)) (defScope (inClass (top 8) 0)) .none kV6 dc6 pm6 an6 cd6 ct6), sl6⟩) (ci6 : PySem.W.codeIn K cd6 "InvalidPaper.__init__" = true) (ki6 : PySem.W.keepIn K (.ref f6) = true)
    (ai7 : PySem.W.findIn K (.ref C7) "__init__" = some (some (.ref f7))) (ti7 : PySem.W.typeIn K (.ref f7) = some (.type "function")) (li7 : K.lookup f7 = some ⟨oc7, od7, .func (PySem.W.fnOf "__init__" "InvalidName.__init__" (defArgs (inClass (top 9) 0)) (defBody (inClass (top 9) 0)) (defScope (inClass (top 9) 0)) .none kV7 dc7 pm7 an7 cd7 ct7), sl7⟩) (ci7 : PySem.W.codeIn K cd7 "InvalidName.__init__" = true) (ki7 : PySem.W.keepIn K (.ref f7) = true)
    (ai8 : PySem.W.findIn K (.ref C8) "__init__" = some (some (.ref f8))) (ti8 : PySem.W.typeIn K (.ref f8) = some (.type "function")) (li8 : K.lookup f8 = some ⟨oc8, od8, .func (PySem.W.fnOf "__init__" "InvalidIndex.__init__" (defArgs (inClass (top 10) 0)) (defBody (inClass (top 10) 0)) (defScope (inClass (top 10) 0)) .none kV8 dc8 pm8 an8 cd8 ct8), sl8⟩) (ci8 : PySem.W.codeIn K cd8 "InvalidIndex.__init__" = true) (ki8 : PySem.W.keepIn K (.ref f8) = true)
    (ai9 : PySem.W.findIn K (.ref C9) "__init__" = some (some (.ref f9))) (ti9 : PySem.W.typeIn K (.ref f9) = some (.type "function")) (li9 : K.lookup f9 = some ⟨oc9, od9, .func (PySem.W.fnOf "__init__" "InvalidClaim.__init__" (defArgs (inClass (top 11) 0)) (defBody (inClass (top 11) 0)) (defScope (inClass (top 11) 0)) .none kV9 dc9 pm9 an9 cd9 ct9), sl9⟩) (ci9 : PySem.W.codeIn K cd9 "InvalidClaim.__init__" = true) (ki9 : PySem.W.keepIn K (.ref f9) = true)
    (ai10 : PySem.W.findIn K (.ref C10) "__init__" = some (some (.ref f10))) (ti10 : PySem.W.typeIn K (.ref f10) = some (.type "function")) (li10 : K.lookup f10 = some ⟨oc10, od10, .func (PySem.W.fnOf "__init__" "NotARule.__init__" (defArgs (inClass (top 12) 0)) (defBody (inClass (top 12) 0)) (defScope (inClass (top 12) 0)) .none kV10 dc10 pm10 an10 cd10 ct10), sl10⟩) (ci10 : PySem.W.codeIn K cd10 "NotARule.__init__" = true) (ki10 : PySem.W.keepIn K (.ref f10) = true)
    (ai11 : PySem.W.findIn K (.ref C11) "__init__" = some (some (.ref f11))) (ti11 : PySem.W.typeIn K (.ref f11) = some (.type "function")) (li11 : K.lookup f11 = some ⟨oc11, od11, .func (PySem.W.fnOf "__init__" "InvalidWishes.__init__" (defArgs (inClass (top 13) 0)) (defBody (inClass (top 13) 0)) (defScope (inClass (top 13) 0)) .none kV11 dc11 pm11 an11 cd11 ct11), sl11⟩) (ci11 : PySem.W.codeIn K cd11 "InvalidWishes.__init__" = true) (ki11 : PySem.W.keepIn K (.ref f11) = true)
    (ai12 : PySem.W.findIn K (.ref C12) "__init__" = some (some (.ref f12))) (ti12 : PySem.W.typeIn K (.ref f12) = some (.type "function")) (li12 : K.lookup f12 = some ⟨oc12, od12, .func (PySem.W.fnOf "__init__" "InvalidChanges.__init__" (defArgs (inClass (top 14) 0)) (defBody (inClass (top 14) 0)) (defScope (inClass (top 14) 0)) .none kV12 dc12 pm12 an12 cd12 ct12), sl12⟩) (ci12 : PySem.W.codeIn K cd12 "InvalidChanges.__init__" = true) (ki12 : PySem.W.keepIn K (.ref f12) = true)
    (ai13 : PySem.W.findIn K (.ref C13) "__init__" = some (some (.ref f13))) (ti13 : PySem.W.typeIn K (.ref f13) = some (.type "function")) (li13 : K.lookup f13 = some ⟨oc13, od13, .func (PySem.W.fnOf "__init__" "UnknownName.__init__" (defArgs (inClass (top 16) 0)) (defBody (inClass (top 16) 0)) (defScope (inClass (top 16) 0)) .none kV13 dc13 pm13 an13 cd13 ct13), sl13⟩) (ci13 : PySem.W.codeIn K cd13 "UnknownName.__init__" = true) (ki13 : PySem.W.keepIn K (.ref f13) = true)
    (ai14 : PySem.W.findIn K (.ref C14) "__init__" = some (some (.ref f14))) (ti14 : PySem.W.typeIn K (.ref f14) = some (.type "function")) (li14 : K.lookup f14 = some ⟨oc14, od14, .func (PySem.W.fnOf "__init__" "InUse.__init__" (defArgs (inClass (top 17) 0)) (defBody (inClass (top 17) 0)) (defScope (inClass (top 17) 0)) .none kV14 dc14 pm14 an14 cd14 ct14), sl14⟩) (ci14 : PySem.W.codeIn K cd14 "InUse.__init__" = true) (ki14 : PySem.W.keepIn K (.ref f14) = true)
    (ai17 : PySem.W.findIn K (.ref C17) "__init__" = some (some (.ref f17))) (ti17 : PySem.W.typeIn K (.ref f17) = some (.type "function")) (li17 : K.lookup f17 = some ⟨oc17, od17, .func (PySem.W.fnOf "__init__" "TooMany.__init__" (defArgs (inClass (top 21) 0)) (defBody (inClass (top 21) 0)) (defScope (inClass (top 21) 0)) .none kV17 dc17 pm17 an17 cd17 ct17), sl17⟩) (ci17 : PySem.W.codeIn K cd17 "TooMany.__init__" = true) (ki17 : PySem.W.keepIn K (.ref f17) = true)
    (ai19 : PySem.W.findIn K (.ref C19) "__init__" = some (some (.ref f19))) (ti19 : PySem.W.typeIn K (.ref f19) = some (.type "function")) (li19 : K.lookup f19 = some ⟨oc19, od19, .func (PySem.W.fnOf "__init__" "Broken.__init__" (defArgs (inClass (top 23) 0)) (defBody (inClass (top 23) 0)) (defScope (inClass (top 23) 0)) .none kV19 dc19 pm19 an19 cd19 ct19), sl19⟩) (ci19 : PySem.W.codeIn K cd19 "Broken.__init__" = true) (ki19 : PySem.W.keepIn K (.ref f19) = true)
    (agw : PySem.W.nsIn K mainGlobals "_law_well" = some (some (.ref gw))) (lgw : K.lookup gw = some ⟨ocw, odw, .func (PySem.W.fnOf "_law_well" "_law_well" (defArgs sWell) (defBody sWell) (defScope sWell) .none kVw dcw pmw anw cdw ctw), slw⟩) (cgw : PySem.W.codeIn K cdw "_law_well" = true) (kgw : PySem.W.keepIn K (.ref gw) = true)
    (agd : PySem.W.nsIn K mainGlobals "_law_dip" = some (some (.ref gd))) (lgd : K.lookup gd = some ⟨ocd, odd, .func (PySem.W.fnOf "_law_dip" "_law_dip" (defArgs sDip) (defBody sDip) (defScope sDip) .none kVd dcd pmd and cdd ctd), sld⟩) (cgd : PySem.W.codeIn K cdd "_law_dip" = true) (kgd : PySem.W.keepIn K (.ref gd) = true)
    (ago : PySem.W.nsIn K mainGlobals "_law_odd" = some (some (.ref go))) (lgo : K.lookup go = some ⟨oco, odo, .func (PySem.W.fnOf "_law_odd" "_law_odd" (defArgs sOdd) (defBody sOdd) (defScope sOdd) .none kVo dco pmo ano cdo cto), slo⟩) (cgo : PySem.W.codeIn K cdo "_law_odd" = true) (kgo : PySem.W.keepIn K (.ref go) = true)
    (ags : PySem.W.nsIn K mainGlobals "_law_sorts" = some (some (.ref gs))) (lgs : K.lookup gs = some ⟨ocs, ods, .func (PySem.W.fnOf "_law_sorts" "_law_sorts" (defArgs sSorts) (defBody sSorts) (defScope sSorts) .none kVs dcs pms ans cds cts), sls⟩) (cgs : PySem.W.codeIn K cds "_law_sorts" = true) (kgs : PySem.W.keepIn K (.ref gs) = true)
    (agb : PySem.W.nsIn K mainGlobals "_law_bases" = some (some (.ref gb))) (lgb : K.lookup gb = some ⟨ocb, odb, .func (PySem.W.fnOf "_law_bases" "_law_bases" (defArgs sBases) (defBody sBases) (defScope sBases) .none kVb dcb pmb anb cdb ctb), slb⟩) (cgb : PySem.W.codeIn K cdb "_law_bases" = true) (kgb : PySem.W.keepIn K (.ref gb) = true)
    (agg : PySem.W.nsIn K mainGlobals "_law_single" = some (some (.ref gg))) (lgg : K.lookup gg = some ⟨ocg, odg, .func (PySem.W.fnOf "_law_single" "_law_single" (defArgs sSingle) (defBody sSingle) (defScope sSingle) .none kVg dcg pmg ang cdg ctg), slg⟩) (cgg : PySem.W.codeIn K cdg "_law_single" = true) (kgg : PySem.W.keepIn K (.ref gg) = true)
    (agr : PySem.W.nsIn K mainGlobals "_law_right" = some (some (.ref gr))) (lgr : K.lookup gr = some ⟨ocr, odr, .func (PySem.W.fnOf "_law_right" "_law_right" (defArgs sRight) (defBody sRight) (defScope sRight) .none kVr dcr pmr anr cdr ctr), slr⟩) (cgr : PySem.W.codeIn K cdr "_law_right" = true) (kgr : PySem.W.keepIn K (.ref gr) = true)
    (agl : PySem.W.nsIn K mainGlobals "law" = some (some (.ref gl))) (lgl : K.lookup gl = some ⟨ocl, odl, .func (PySem.W.fnOf "law" "law" (defArgs sLaw) (defBody sLaw) (defScope sLaw) .none kVl dcl pml anl cdl ctl), sll⟩) (cgl : PySem.W.codeIn K cdl "law" = true) (kgl : PySem.W.keepIn K (.ref gl) = true)
    (am0 : PySem.W.nsIn K mainGlobals "MOST_SIGNS" = some (some (.int 3 tk0)))
    (am1 : PySem.W.nsIn K mainGlobals "MOST_MOODS" = some (some (.int 300 tk1)))
    (am2 : PySem.W.nsIn K mainGlobals "MOST_ROW" = some (some (.int 1000 tk2)))
    (am3 : PySem.W.nsIn K mainGlobals "MOST_LOOK" = some (some (.int 1000 tk3)))
    (am4 : PySem.W.nsIn K mainGlobals "MOST_PIECE" = some (some (.int 5 tk4)))
    (am5 : PySem.W.nsIn K mainGlobals "MOST_MOVINGS" = some (some (.int 300 tk5)))
    (am6 : PySem.W.nsIn K mainGlobals "MOST_TRIPLES" = some (some (.int 3000 tk6)))
    (am7 : PySem.W.nsIn K mainGlobals "MOST_PAIRS" = some (some (.int 3000 tk7)))
    (am8 : PySem.W.nsIn K mainGlobals "MOST_LOTS" = some (some (.int 3000 tk8)))
    (am9 : PySem.W.nsIn K mainGlobals "MOST_CHANGES" = some (some (.int 6 tk9)))
    (hch : chk K [C0, C1, C2, C3, C4, C5, C6, C7, C8, C9, C10, C11, C12, C13, C14, C15, C16, C17, C18, C19] [B0, B1, B2] = true) (hcf : chkF K = true) :
    ∃ fd : FuncData, (∀ (s : Shared) (v : Value), BindsTo s fd ⟨[v], []⟩ [("_law_script", v)]) ∧ ∀ base : Heap, K.In base → base.Ns mainGlobals mg → FnG l.prog w K mg base CX0 4 fa fd ["_law_script"] (spLaw K) := by
  have e := hfa.symm.trans (PySem.W.mg_of X G agl)
  cases e
  have fr := fun {x : Str} (hx : x ∈ frees) => free_of X G hcf hx
  unfold chk at hch
  simp only [Bool.and_eq_true, beq_iff_eq] at hch
  obtain ⟨q1, q2, q3, q4, q5, q6, q7, q8, q9, q10, q11, q12⟩ := hch
  have q1 := fun i hi => List.all_eq_true.mp q1 i (List.mem_range.mpr hi)
  have q5 := fun i hi => List.all_eq_true.mp q5 i (List.mem_range.mpr hi)
  let c : Nat → Addr := fun i => ([C0, C1, C2, C3, C4, C5, C6, C7, C8, C9, C10, C11, C12, C13, C14, C15, C16, C17, C18, C19] : List Addr).getD i 0
  let b : Nat → Addr := fun i => ([B0, B1, B2] : List Addr).getD i 0
  have T : Cls K mg c b := by
    refine ⟨fun i x hx => ?_, fun i x hx => ?_, fun i x hx => ?_, fr (by decide), fun i hi => (okC_of (q1 i hi)).1, fun i j hi hj => beq_iff_eq.mp (List.all_eq_true.mp (List.all_eq_true.mp q2 i (List.mem_range.mpr hi)) j (List.mem_range.mpr hj)),
      fun i j hi hj => beq_iff_eq.mp (List.all_eq_true.mp (List.all_eq_true.mp q3 i (List.mem_range.mpr hi)) j (List.mem_range.mpr hj)), fun i j hi hj => beq_iff_eq.mp (List.all_eq_true.mp (List.all_eq_true.mp q4 i (List.mem_range.mpr hi)) j (List.mem_range.mpr hj))⟩
    · match i, hx with
      | 0, hx => cases hx; exact PySem.W.mg_of X G ac0
      | 1, hx => cases hx; exact PySem.W.mg_of X G ac1
      | 2, hx => cases hx; exact PySem.W.mg_of X G ac2
      | 3, hx => cases hx; exact PySem.W.mg_of X G ac3
      | 4, hx => cases hx; exact PySem.W.mg_of X G ac4
      | 5, hx => cases hx; exact PySem.W.mg_of X G ac5
      | 6, hx => cases hx; exact PySem.W.mg_of X G ac6
      | 7, hx => cases hx; exact PySem.W.mg_of X G ac7
      | 8, hx => cases hx; exact PySem.W.mg_of X G ac8
      | 9, hx => cases hx; exact PySem.W.mg_of X G ac9
      | 10, hx => cases hx; exact PySem.W.mg_of X G ac10
      | 11, hx => cases hx; exact PySem.W.mg_of X G ac11
      | 12, hx => cases hx; exact PySem.W.mg_of X G ac12
      | 13, hx => cases hx; exact PySem.W.mg_of X G ac13
      | 14, hx => cases hx; exact PySem.W.mg_of X G ac14
      | 15, hx => cases hx; exact PySem.W.mg_of X G ac15
      | 16, hx => cases hx; exact PySem.W.mg_of X G ac16
      | 17, hx => cases hx; exact PySem.W.mg_of X G ac17
      | 18, hx => cases hx; exact PySem.W.mg_of X G ac18
      | 19, hx => cases hx; exact PySem.W.mg_of X G ac19
      | n + 20, hx => simp [nms] at hx
    · match i, hx with
      | 0, hx => cases hx; exact PySem.W.mg_of X G ab0
      | 1, hx => cases hx; exact PySem.W.mg_of X G ab1
      | 2, hx => cases hx; exact PySem.W.mg_of X G ab2
      | n + 3, hx => simp [bnms] at hx
    · match i, hx with
      | 0, hx => cases hx; exact fr (by decide)
      | 1, hx => cases hx; exact fr (by decide)
      | 2, hx => cases hx; exact fr (by decide)
      | n + 3, hx => simp [tnms] at hx
  have x0 : ExG K C0 := exG_of (B := B0) PySem.F.excBase_ValueError pass_VE (q1 0 (by decide)) (q5 0 (by decide))
  have F0 := fun_mk (st := inClass (top 2) 0) li0 ci0 ki0
  have x1 : ExG K C1 := exG_of (B := B0) PySem.F.excBase_ValueError pass_VE (q1 1 (by decide)) (q5 1 (by decide))
  have F1 := fun_mk (st := inClass (top 3) 0) li1 ci1 ki1
  have x2 : ExG K C2 := exG_of (B := B0) PySem.F.excBase_ValueError pass_VE (q1 2 (by decide)) (q5 2 (by decide))
  have F2 := fun_mk (st := inClass (top 4) 0) li2 ci2 ki2
  have x3 : ExG K C3 := exG_of (B := B0) PySem.F.excBase_ValueError pass_VE (q1 3 (by decide)) (q5 3 (by decide))
  have F3 := fun_mk (st := inClass (top 5) 0) li3 ci3 ki3
  have x4 : ExG K C4 := exG_of (B := B0) PySem.F.excBase_ValueError pass_VE (q1 4 (by decide)) (q5 4 (by decide))
  have F4 := fun_mk (st := inClass (top 6) 0) li4 ci4 ki4
  have x5 : ExG K C5 := exG_of (B := B0) PySem.F.excBase_ValueError pass_VE (q1 5 (by decide)) (q5 5 (by decide))
  have F5 := fun_mk (st := inClass (top 7) 0) li5 ci5 ki5
  have x6 : ExG K C6 := exG_of (B := B0) PySem.F.excBase_ValueError pass_VE (q1 6 (by decide)) (q5 6 (by decide))
  have F6 := fun_mk (st := inClass (top 8) 0) li6 ci6 ki6
  have x7 : ExG K C7 := exG_of (B := B0) PySem.F.excBase_ValueError pass_VE (q1 7 (by decide)) (q5 7 (by decide))
  have F7 := fun_mk (st := inClass (top 9) 0) li7 ci7 ki7
  have x8 : ExG K C8 := exG_of (B := B0) PySem.F.excBase_ValueError pass_VE (q1 8 (by decide)) (q5 8 (by decide))
  have F8 := fun_mk (st := inClass (top 10) 0) li8 ci8 ki8
  have x9 : ExG K C9 := exG_of (B := B0) PySem.F.excBase_ValueError pass_VE (q1 9 (by decide)) (q5 9 (by decide))
  have F9 := fun_mk (st := inClass (top 11) 0) li9 ci9 ki9
  have x10 : ExG K C10 := exG_of (B := B0) PySem.F.excBase_ValueError pass_VE (q1 10 (by decide)) (q5 10 (by decide))
  have F10 := fun_mk (st := inClass (top 12) 0) li10 ci10 ki10
  have x11 : ExG K C11 := exG_of (B := B0) PySem.F.excBase_ValueError pass_VE (q1 11 (by decide)) (q5 11 (by decide))
  have F11 := fun_mk (st := inClass (top 13) 0) li11 ci11 ki11
  have x12 : ExG K C12 := exG_of (B := B0) PySem.F.excBase_ValueError pass_VE (q1 12 (by decide)) (q5 12 (by decide))
  have F12 := fun_mk (st := inClass (top 14) 0) li12 ci12 ki12
  have x13 : ExG K C13 := exG_of (B := B1) PySem.F.excBase_LookupError pass_LE (q1 13 (by decide)) (q5 13 (by decide))
  have F13 := fun_mk (st := inClass (top 16) 0) li13 ci13 ki13
  have x14 : ExG K C14 := exG_of (B := B1) PySem.F.excBase_LookupError pass_LE (q1 14 (by decide)) (q5 14 (by decide))
  have F14 := fun_mk (st := inClass (top 17) 0) li14 ci14 ki14
  have x17 : ExG K C17 := exG_of (B := B2) PySem.F.excBase_ArithmeticError pass_AE (q1 17 (by decide)) (q5 17 (by decide))
  have F17 := fun_mk (st := inClass (top 21) 0) li17 ci17 ki17
  have x19 : ExG K C19 := exG_of (B := B2) PySem.F.excBase_ArithmeticError pass_AE (q1 19 (by decide)) (q5 19 (by decide))
  have F19 := fun_mk (st := inClass (top 23) 0) li19 ci19 ki19
  have Fw := fun_mk (st := sWell) lgw cgw kgw
  have Fd := fun_mk (st := sDip) lgd cgd kgd
  have Fo := fun_mk (st := sOdd) lgo cgo kgo
  have Fs := fun_mk (st := sSorts) lgs cgs kgs
  have Fb := fun_mk (st := sBases) lgb cgb kgb
  have Fg := fun_mk (st := sSingle) lgg cgg kgg
  have Fr := fun_mk (st := sRight) lgr cgr kgr
  have Fl := fun_mk (st := sLaw) lgl cgl kgl
  have bw := Fw.binds (ps := ["_law_script", "_law_turn"]) fun _ _ _ _ _ _ us hl => match us, hl with | [_, _], _ => rfl
  have bd := Fd.binds (ps := ["_law_well_here", "_law_size"]) fun _ _ _ _ _ _ us hl => match us, hl with | [_, _], _ => rfl
  have bo := Fo.binds (ps := ["_law_well_here"]) fun _ _ _ _ _ _ us hl => match us, hl with | [_], _ => rfl
  have bs := Fs.binds (ps := ["_law_e"]) fun _ _ _ _ _ _ us hl => match us, hl with | [_], _ => rfl
  have bb := Fb.binds (ps := ["_law_e"]) fun _ _ _ _ _ _ us hl => match us, hl with | [_], _ => rfl
  have bg := Fg.binds (ps := ["_law_e", "_law_part", "_law_at"]) fun _ _ _ _ _ _ us hl => match us, hl with | [_, _, _], _ => rfl
  have br := Fr.binds (ps := ["_law_well_here"]) fun _ _ _ _ _ _ us hl => match us, hl with | [_], _ => rfl
  refine ⟨PySem.W.fnOf "law" "law" (defArgs sLaw) (defBody sLaw) (defScope sLaw) .none kVl dcl pml anl cdl ctl, fun s v => .of_eq rfl, fun base _ _ => ?_⟩
  have R : Rt l.prog w K mg base c b := by
    refine ⟨T, mk_0 F0 x0 (beq_iff_eq.mp (List.all_eq_true.mp q6 0 (by decide))) (PySem.W.mg_of X G ac0) ai0 ti0, mk_1 F1 x1 (beq_iff_eq.mp (List.all_eq_true.mp q6 1 (by decide))) (PySem.W.mg_of X G ac1) ai1 ti1, mk_2 F2 x2 (beq_iff_eq.mp (List.all_eq_true.mp q6 2 (by decide))) (PySem.W.mg_of X G ac2) ai2 ti2, mk_3 F3 x3 (beq_iff_eq.mp (List.all_eq_true.mp q6 3 (by decide))) (PySem.W.mg_of X G ac3) ai3 ti3, mk_4 F4 x4 (beq_iff_eq.mp (List.all_eq_true.mp q6 4 (by decide))) (PySem.W.mg_of X G ac4) ai4 ti4, mk_5 F5 x5 (beq_iff_eq.mp (List.all_eq_true.mp q6 5 (by decide))) (PySem.W.mg_of X G ac5) ai5 ti5, mk_6 F6 x6 (beq_iff_eq.mp (List.all_eq_true.mp q6 6 (by decide))) (PySem.W.mg_of X G ac6) ai6 ti6, mk_7 F7 x7 (beq_iff_eq.mp (List.all_eq_true.mp q6 7 (by decide))) (PySem.W.mg_of X G ac7) ai7 ti7, mk_8 F8 x8 (beq_iff_eq.mp (List.all_eq_true.mp q6 8 (by decide))) (PySem.W.mg_of X G ac8) ai8 ti8, mk_9 F9 x9 (beq_iff_eq.mp (List.all_eq_true.mp q6 9 (by decide))) (PySem.W.mg_of X G ac9) ai9 ti9, mk_10 F10 x10 (beq_iff_eq.mp (List.all_eq_true.mp q6 10 (by decide))) (PySem.W.mg_of X G ac10) ai10 ti10, mk_11 F11 x11 (beq_iff_eq.mp (List.all_eq_true.mp q7 11 (by decide))) (PySem.W.mg_of X G ac11) ai11 ti11, mk_12 F12 x12 (beq_iff_eq.mp (List.all_eq_true.mp q7 12 (by decide))) (PySem.W.mg_of X G ac12) ai12 ti12, mk_13 F13 x13 (beq_iff_eq.mp (List.all_eq_true.mp q6 13 (by decide))) (PySem.W.mg_of X G ac13) ai13 ti13, mk_14 F14 x14 (beq_iff_eq.mp (List.all_eq_true.mp q7 14 (by decide))) (PySem.W.mg_of X G ac14) ai14 ti14, mk_17 F17 x17 q8 (PySem.W.mg_of X G ac17) ai17 ti17, mk_19 F19 x19 (beq_iff_eq.mp (List.all_eq_true.mp q7 19 (by decide))) q9 (PySem.W.mg_of X G ac19) ai19 ti19, fun i hi => ?_, fun i hi => ?_, (beq_iff_eq.mp (List.all_eq_true.mp q6 13 (by decide))), (beq_iff_eq.mp (List.all_eq_true.mp q7 14 (by decide))), q8, (beq_iff_eq.mp (List.all_eq_true.mp q7 19 (by decide))), q9, q10, q11, q12, (okC_of (q1 15 (by decide))).2.2, (okC_of (q1 16 (by decide))).2.2, (okC_of (q1 18 (by decide))).2.2, fr (by decide), fr (by decide), fr (by decide)⟩
    · exact beq_iff_eq.mp (List.all_eq_true.mp q6 i (List.mem_append_left [13] hi))
    · exact beq_iff_eq.mp (List.all_eq_true.mp q7 i (List.mem_append_left [14, 19] hi))
  have GD := ok_dip (P := l.prog) (w := w) (mg := mg) (base := base) Fd (fr (by decide))
  have GO := ok_odd (P := l.prog) (w := w) (mg := mg) (base := base) Fo GD bd (PySem.W.mg_of X G agd) kgd (fr (by decide))
  have GS := ok_sorts (P := l.prog) (w := w) (base := base) Fs T
  have GB := ok_bases (P := l.prog) (w := w) (base := base) Fb T
  have GG := ok_single Fg GS bs (PySem.W.mg_of X G ags) kgs GB bb (PySem.W.mg_of X G agb) kgb (fr (by decide))
  have GR := ok_right Fr R GO bo (PySem.W.mg_of X G ago) kgo GG bg (PySem.W.mg_of X G agg) kgg
  have GW := ok_well (P := l.prog) (w := w) (mg := mg) (base := base) Fw (fr (by decide)) (fr (by decide)) (fr (by decide))
  exact ok_law Fl ⟨⟨_, PySem.W.mg_of X G am0⟩, ⟨_, PySem.W.mg_of X G am1⟩, ⟨_, PySem.W.mg_of X G am2⟩, ⟨_, PySem.W.mg_of X G am3⟩, ⟨_, PySem.W.mg_of X G am4⟩, ⟨_, PySem.W.mg_of X G am5⟩, ⟨_, PySem.W.mg_of X G am6⟩, ⟨_, PySem.W.mg_of X G am7⟩, ⟨_, PySem.W.mg_of X G am8⟩, ⟨_, PySem.W.mg_of X G am9⟩⟩
    (fr (by decide)) (fr (by decide)) (fr (by decide)) (fr (by decide)) (fr (by decide)) (fr (by decide)) GW bw (PySem.W.mg_of X G agw) kgw GR br (PySem.W.mg_of X G agr) kgr
end
end My
open PySem PySem.W PyProof.Rows
set_option maxRecDepth 100000 in
set_option maxHeartbeats 0 in
theorem PySem.Challenge.cw_shortlooks_k01_limits_and_errors_holds : PySem.Challenge.rw_shortlooks_k01_limits_and_errors.Holds := by
  w_on; o_law; k_head; (case hw => w_witness2)
  k_fill
  refine L2.walk_G (l := PySem.Challenge.rw_shortlooks_k01_limits_and_errors) (n := 63) (k := 4) (x := "_law_script") (sp := My.spLaw) rfl (by decide) rfl ⟨rfl, by decide, by decide⟩ (fun w h Y => PySem.W.kIn_of Y) ?F (fun _ _ a ns hl _ hS => ⟨a, ns, rfl, hS, hl, fun _ => rfl⟩)
  case F =>
    intro w mg fa h KX G hmg
    refine' My.all_mk KX G hmg ?ac0 ?ac1 ?ac2 ?ac3 ?ac4 ?ac5 ?ac6 ?ac7 ?ac8 ?ac9 ?ac10 ?ac11 ?ac12 ?ac13 ?ac14 ?ac15 ?ac16 ?ac17 ?ac18 ?ac19 ?ab0 ?ab1 ?ab2 ?ai0 ?ti0 ?li0 ?ci0 ?ki0 ?ai1 ?ti1 ?li1 ?ci1 ?ki1 ?ai2 ?ti2 ?li2 ?ci2 ?ki2 ?ai3 ?ti3 ?li3 ?ci3 ?ki3 ?ai4 ?ti4 ?li4 ?ci4 ?ki4 ?ai5 ?ti5 ?li5 ?ci5 ?ki5 ?ai6 ?ti6 ?li6 ?ci6 ?ki6 ?ai7 ?ti7 ?li7 ?ci7 ?ki7 ?ai8 ?ti8 ?li8 ?ci8 ?ki8 ?ai9 ?ti9 ?li9 ?ci9 ?ki9 ?ai10 ?ti10 ?li10 ?ci10 ?ki10 ?ai11 ?ti11 ?li11 ?ci11 ?ki11 ?ai12 ?ti12 ?li12 ?ci12 ?ki12 ?ai13 ?ti13 ?li13 ?ci13 ?ki13 ?ai14 ?ti14 ?li14 ?ci14 ?ki14 ?ai17 ?ti17 ?li17 ?ci17 ?ki17 ?ai19 ?ti19 ?li19 ?ci19 ?ki19 ?agw ?lgw ?cgw ?kgw ?agd ?lgd ?cgd ?kgd ?ago ?lgo ?cgo ?kgo ?ags ?lgs ?cgs ?kgs ?agb ?lgb ?cgb ?kgb ?agg ?lgg ?cgg ?kgg ?agr ?lgr ?cgr ?kgr ?agl ?lgl ?cgl ?kgl ?am0 ?am1 ?am2 ?am3 ?am4 ?am5 ?am6 ?am7 ?am8 ?am9 ?hch ?hcf
    (case ac0 => k_is)
    (case ac1 => k_is)
    (case ac2 => k_is)
    (case ac3 => k_is)
    (case ac4 => k_is)
    (case ac5 => k_is)
    (case ac6 => k_is)
    (case ac7 => k_is)
    (case ac8 => k_is)
    (case ac9 => k_is)
    (case ac10 => k_is)
    (case ac11 => k_is)
    (case ac12 => k_is)
    (case ac13 => k_is)
    (case ac14 => k_is)
    (case ac15 => k_is)
    (case ac16 => k_is)
    (case ac17 => k_is)
    (case ac18 => k_is)
    (case ac19 => k_is)
    (case ab0 => k_is)
    (case ab1 => k_is)
    (case ab2 => k_is)
    (case ai0 => k_is)
    (case ti0 => k_is)
    (case li0 => k_is)
    (case ci0 => k_is)
    (case ki0 => k_is)
    (case ai1 => k_is)
    (case ti1 => k_is)
    (case li1 => k_is)
    (case ci1 => k_is)
    (case ki1 => k_is)
    (case ai2 => k_is)
    (case ti2 => k_is)
    (case li2 => k_is)
    (case ci2 => k_is)
    (case ki2 => k_is)
    (case ai3 => k_is)
    (case ti3 => k_is)
    (case li3 => k_is)
    (case ci3 => k_is)
    (case ki3 => k_is)
    (case ai4 => k_is)
    (case ti4 => k_is)
    (case li4 => k_is)
    (case ci4 => k_is)
    (case ki4 => k_is)
    (case ai5 => k_is)
    (case ti5 => k_is)
    (case li5 => k_is)
    (case ci5 => k_is)
    (case ki5 => k_is)
    (case ai6 => k_is)
    (case ti6 => k_is)
    (case li6 => k_is)
    (case ci6 => k_is)
    (case ki6 => k_is)
    (case ai7 => k_is)
    (case ti7 => k_is)
    (case li7 => k_is)
    (case ci7 => k_is)
    (case ki7 => k_is)
    (case ai8 => k_is)
    (case ti8 => k_is)
    (case li8 => k_is)
    (case ci8 => k_is)
    (case ki8 => k_is)
    (case ai9 => k_is)
    (case ti9 => k_is)
    (case li9 => k_is)
    (case ci9 => k_is)
    (case ki9 => k_is)
    (case ai10 => k_is)
    (case ti10 => k_is)
    (case li10 => k_is)
    (case ci10 => k_is)
    (case ki10 => k_is)
    (case ai11 => k_is)
    (case ti11 => k_is)
    (case li11 => k_is)
    (case ci11 => k_is)
    (case ki11 => k_is)
    (case ai12 => k_is)
    (case ti12 => k_is)
    (case li12 => k_is)
    (case ci12 => k_is)
    (case ki12 => k_is)
    (case ai13 => k_is)
    (case ti13 => k_is)
    (case li13 => k_is)
    (case ci13 => k_is)
    (case ki13 => k_is)
    (case ai14 => k_is)
    (case ti14 => k_is)
    (case li14 => k_is)
    (case ci14 => k_is)
    (case ki14 => k_is)
    (case ai17 => k_is)
    (case ti17 => k_is)
    (case li17 => k_is)
    (case ci17 => k_is)
    (case ki17 => k_is)
    (case ai19 => k_is)
    (case ti19 => k_is)
    (case li19 => k_is)
    (case ci19 => k_is)
    (case ki19 => k_is)
    (case agw => k_is)
    (case lgw => k_is)
    (case cgw => k_is)
    (case kgw => k_is)
    (case agd => k_is)
    (case lgd => k_is)
    (case cgd => k_is)
    (case kgd => k_is)
    (case ago => k_is)
    (case lgo => k_is)
    (case cgo => k_is)
    (case kgo => k_is)
    (case ags => k_is)
    (case lgs => k_is)
    (case cgs => k_is)
    (case kgs => k_is)
    (case agb => k_is)
    (case lgb => k_is)
    (case cgb => k_is)
    (case kgb => k_is)
    (case agg => k_is)
    (case lgg => k_is)
    (case cgg => k_is)
    (case kgg => k_is)
    (case agr => k_is)
    (case lgr => k_is)
    (case cgr => k_is)
    (case kgr => k_is)
    (case agl => k_is)
    (case lgl => k_is)
    (case cgl => k_is)
    (case kgl => k_is)
    (case am0 => k_is)
    (case am1 => k_is)
    (case am2 => k_is)
    (case am3 => k_is)
    (case am4 => k_is)
    (case am5 => k_is)
    (case am6 => k_is)
    (case am7 => k_is)
    (case am8 => k_is)
    (case am9 => k_is)
    (case hch => kernel_rfl)
    (case hcf => kernel_rfl)
