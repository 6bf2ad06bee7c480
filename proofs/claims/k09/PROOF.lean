import PyProof.Rows.All
import Wide.All
import OpenK.AllK
import Wide.FinOn
import PyProof.ExcBaseAll.LookupError
import PyProof.ExcBaseAll.IndexError
import PyProof.ExcBaseAll.TypeError
import PyProof.ExcBaseAll.OverflowError
import KE.KExcInit
import HandS.ExcInit
import HandS.ForMost
import HandS.IsInst
import HandS.TupAny
import HandS.RaiseMore
import HandS.DictComp
import HandS.SetKeys
import HandS.Star
import HandS.Defaults
import HandS.WordsExc
import HandS.ExcOwn
import HandS.SetFor
import PyProof.SeqIndex
import HandS.SortOrd
import HandS.DictTup
import PySem.Str
import KE.OsSort
import HandS.DeepEq
import HandS.MakeKw
import HandS.ListItems
import HandS.Zip
import HandS.GenList
import HandS.ExcIs
import HandS.ExcField
import HandS.Walk
import HandS.FStr
import HandS.Text
import KE.KCallOwn
import PyProof.FitsInt
import HandS.MakeKwOnly
import PyProof.ToksMono
import OpenK.ZGo
import HandS.Words
import HandS.Replace
import PyProof.Rows.StrSplitAre
import PyProof.Rows.StrStrike
import HandS.StrMore
import PyProof.Rows.StrCut
import PyProof.Rows.StrFit
import PyProof.NeData
import PyProof.StrOps2
import KE.KExcPX
import HandS.Base
import HandS.Call
import HandS.Exc
import HandS.TryOnly
import PyProof.StrLoop
import KE.KUnpackStar
import HandS.Flow
import HandS.ExcValue
import HandS.CallLocal
import HandS.Strs
import HandS.HeadHook3
import HandS.More
import HandS.Comp
import HandS.Style
import PySem.Challenge.RW_equalunlike_k09_expressions_read_and_wri
set_option Elab.async false
set_option maxRecDepth 100000
set_option maxHeartbeats 4000000
set_option linter.unusedVariables false

namespace My
open PySem PySem.F
theorem keyStore : StoreFacts "KeyError" [.type "KeyError", .type "LookupError", .type "Exception", .type "BaseException", .type "object"] "object.__setattr__" "object" where
  mro := by kernel_rfl
  slot := .of (owner := "object") (n := "__setattr__") (by rw [typeLookup_type, builtinLookup_eq_fast]; kernel_rfl) (by decide +kernel) (by decide +kernel) (by decide +kernel)
    (by first | exact .inl (by decide +kernel) | exact .inr (by decide +kernel)) (by rw [isSubtype_type]; kernel_rfl)
  entry := entry_object_sa
  kind := by decide +kernel
  split := by decide +kernel
  hasOwner := by decide +kernel
  args := fun a b c => by unfold argsOk; kernel_rfl
  passes := fun self => by kernel_rfl
end My
namespace My
open PySem PySem.HandSPX
open Builtin Builtin.ObjectAttr

section
variable {M : Model} {A : Around} {E : Value → Shared → Prop} {h : Heap} {g : Array GenState} {d : Drawn} {t : Nat} {os : OsState}
variable {nm q : Str} {C N : Addr} {bs bm bmB : List Value} {hdct : Bool} {sn : List Str} {sub : List Value} {ab : Bool} {col : Option Bool} {dd : Option Addr} {k0 k1 k2 k3 k5 : Option Value} {B newId initId : String}
theorem checkNewX (F : ExcBaseFacts B newId initId bmB) (hB : bm.contains (.type B) = true) {rest : List Value} {Q : Unit → Shared → Prop}
    (hC : h.get? C = some (excClassObj nm q C N bs bm hdct sn sub ab col dd k0 k1 k2 k3 k5 newId)) (hq : Q () ⟨h, g, d, t, os⟩) : wpAny M A (checkBuiltinCall newId ⟨.ref C :: rest, []⟩) Q E ⟨h, g, d, t, os⟩ := by
  have hcont : (Value.ref C :: bm).contains (.type B) = true := by rw [List.contains_cons, hB, Bool.or_true]
  have hstar := F.noStar
  simp only [checkBuiltinCall, F.newKind, F.newSplit, F.newRow]
  repeat (first | refine wpAny_loadPart_at hC ?_ | (refine wpAny_isSubtype_exc hC ?_; rw [hcont]) | refine wpAny_staticBase_exc hC ?_ | refine wpAny_madeBy_exc hC ?_ | simp only [bne_self_eq_false, Bool.false_eq_true, if_false] | wp_step)
  exact hq
end
section
variable {prog : Program} {w : World} {A : Around} {E : Value → Shared → Prop} {R : Result → Shared → Prop} {h : Heap} {g : Array GenState} {d : Drawn} {t : Nat} {os : OsState}
variable {nm q : Str} {C N : Addr} {bs bm bmB : List Value} {hdct : Bool} {sn : List Str} {sub : List Value} {ab : Bool} {col : Option Bool} {dd : Option Addr} {k0 k1 k2 k3 k5 : Option Value} {B newId initId : String}
theorem newX (F : ExcBaseFacts B newId initId bmB) (hB : bm.contains (.type B) = true) (hA : bm.contains (.type "AttributeError") = false) (hN : bm.contains (.type "NameError") = false) {rest : List Value}
    (hC : h.get? C = some (excClassObj nm q C N bs bm hdct sn sub ab col dd k0 k1 k2 k3 k5 newId))
    (hq : R (.ok (.ret (.ref (h.objs.size + 1)))) ⟨(h.push { cls := .type "tuple", data := .seq rest.toArray }).push
      { cls := .ref C, data := .fields #[.ref h.objs.size, .none, .none, .none, .bool false, .none] }, g, d, t, os⟩) (hrest : rest.length ≤ sizeLine) :
    codeAny (model prog w) A (.builtin newId ⟨.ref C :: rest, []⟩) R ⟨h, g, d, t, os⟩ := by
  have hends := F.ends
  have hcB : (Value.ref C :: bm).contains (.type B) = true := by rw [List.contains_cons, hB, Bool.or_true]
  have hcA : (Value.ref C :: bm).contains (.type "AttributeError") = false := by rw [List.contains_cons, hA]; rfl
  have hcN : (Value.ref C :: bm).contains (.type "NameError") = false := by rw [List.contains_cons, hN]; rfl
  refine codeAny_builtinAt F.entry ?_
  unfold Builtin.«BaseException.__new__»
  refine wpAt_bind ?_
  show wpAt _ _ _ (stack >>= _) _ _ _
  refine wpAt_bind (wpAt_stack fun p below => wpAt_of_wpAny ?_)
  wp_walk
  refine wpAt_of_wpAny ?_
  rw [F.owner]
  repeat (first | with_reducible refine wpAny_madeHere_exc F.canon hC ?_ | with_reducible refine wpAny_loadPart_at hC ?_ | (with_reducible refine wpAny_isSubtype_exc hC ?_; first | rw [hcB] | rw [hcA] | rw [hcN]) | wp_step)
  show R _ _
  rw [Heap.size_push]
  exact hq
theorem typeCallX (F : ExcBaseFacts B newId initId bmB) (hB : bm.contains (.type B) = true) (hA : bm.contains (.type "AttributeError") = false) (hN : bm.contains (.type "NameError") = false) {rest : List Value} {fI : Addr} {Q : Fin → Shared → Prop}
    (hC : h.get? C = some (excClassObj nm q C N bs bm hdct sn sub ab col dd k0 k1 k2 k3 k5 newId))
    (hi : W.Looks (model prog w) h (typeLookup (.ref C) "__init__") (some (.ref fI))) (hb : ∀ self, W.Looks (model prog w) h (bindSpecial (.ref fI) self) (.ref fI, [self])) (hrest : rest.length ≤ sizeLine)
    (hq : codeAny (model prog w) A (.call (.ref fI) ⟨.ref (h.objs.size + 1) :: rest, []⟩)
      (fun r s' => match r with | .ok (.ret v) => v = .none ∧ Q (.done (.ret (.ref (h.objs.size + 1)))) s' | .ok _ => False | .error e => E e s')
      ⟨(h.push (W.kdv_tup rest)).push (excO C h.objs.size), g, d, t, os⟩) :
    wpAny (model prog w) A (Builtin.«type.__call__» ⟨.ref C :: rest, []⟩) Q E ⟨h, g, d, t, os⟩ := by
  repeat (first | with_reducible refine wpAny_loadPart_at hC ?_ | with_reducible refine wpAny_madeBy_exc hC ?_ | wp_step)
  refine codeAny_call_builtin_code (Code.quiet_builtin _ F.quiet) (checkNewX F hB hC ?_)
  refine newX F hB hA hN hC ?_ hrest
  show wpAny _ _ _ _ _ _
  have k : ∀ b o, h.get? b = some o → ((h.push (W.kdv_tup rest)).push (excO C h.objs.size)).get? b = some o := fun b o e => Heap.get?_push_of_some _ (Heap.get?_push_of_some _ e)
  have hC₁ := k _ _ hC
  have hget : ((h.push (W.kdv_tup rest)).push (excO C h.objs.size)).get? (h.objs.size + 1) = some (excO C h.objs.size) := by heap_get
  have hcC : (Value.ref C :: bm).contains (.ref C) = true := by simp
  have i1 := hi.keeps k
  have b1 := (hb (.ref (h.objs.size + 1))).keeps k
  unfold isInstance
  repeat (first | with_reducible refine wpAny_loadPart_at hget ?_ | (with_reducible refine wpAny_isSubtype_exc hC₁ ?_; rw [hcC]) | wp_step)
  show wpAny _ _ (typeLookup (.ref C) _) _ _ _
  refine i1.at ?_
  refine wpAny_holding (wpAny_bind (b1.at ?_))
  refine wpAny_bind (wpAny_call (codeAny_mono hq fun r s' z => ?_))
  rcases r with e | (v | _ | _ | _) <;> first | exact z | exact z.elim | skip
  obtain ⟨rfl, z⟩ := z
  first
    | exact wpAny_pure (wpAny_pure z)
    | (wp_walk; exact z)
theorem callX (F : ExcBaseFacts B newId initId bmB) (hB : bm.contains (.type B) = true) (hA : bm.contains (.type "AttributeError") = false) (hN : bm.contains (.type "NameError") = false) {rest : List Value} {fI : Addr}
    (hC : h.get? C = some (excClassObj nm q C N bs bm hdct sn sub ab col dd k0 k1 k2 k3 k5 newId))
    (hi : W.Looks (model prog w) h (typeLookup (.ref C) "__init__") (some (.ref fI))) (hb : ∀ self, W.Looks (model prog w) h (bindSpecial (.ref fI) self) (.ref fI, [self])) (hrest : rest.length ≤ sizeLine)
    (hq : codeAny (model prog w) (A.under (.builtin "type.__call__" ⟨.ref C :: rest, []⟩)) (.call (.ref fI) ⟨.ref (h.objs.size + 1) :: rest, []⟩) (W.InitBack (h.objs.size + 1) R)
      ⟨(h.push (W.kdv_tup rest)).push (excO C h.objs.size), g, d, t, os⟩) :
    codeAny (model prog w) A (.call (.ref C) ⟨rest, []⟩) R ⟨h, g, d, t, os⟩ := by
  have f1 := tc_lookup
  have f2 := tc_bind (.ref C)
  have hTy : (⟨h, g, d, t, os⟩ : Shared).TypeIs (.ref C) "type" := ⟨_, hC, rfl⟩
  refine codeAny_of_tree ?_
  show wpAny _ _ (callAny (.ref C) _) _ _ _
  repeat (any_goals (first | assumption | with_reducible refine wpAny_loadPart_at hC ?_ | wp_step))
  refine ⟨rfl, ?_⟩
  refine codeAny_call_builtin_at (Code.quiet_builtin _ (by decide +kernel)) entry_typeCall (wpAny_check_type_call_sub hC (typeCallX F hB hA hN hC hi hb hrest ?_))
  refine codeAny_mono hq fun r s' z => ?_
  rcases r with e | (v | _ | _ | _) <;> exact z
end
end My
namespace My
open PySem PySem.W PySem.Calls PyProof.Rows PySem.HandSPX

section
open Builtin Builtin.ObjectAttr
variable {prog : Program} {w : World} {A : Around} {E : Value → Shared → Prop} {R : Result → Shared → Prop} {hp : Heap} {g : Array GenState} {d : Drawn} {t : Nat} {os : OsState}

structure Stores (mro : List Value) : Prop where
  ne : mro.isEmpty = false
  obj : mro.contains (.type "object") = true
  pass : ∀ self, refuseLoop self "__setattr__" mro = pure ()
theorem storeX_first {K : W.Frag} {name : Str} {tk : Tok} {v : Value} {x C : Addr} {fv : Array Value} {cd : ClassData}
    (X : K.In hp) (hx : hp.get? x = some { cls := .ref C, data := .fields fv }) (hcd : W.clsIn K C = some cd) (hm : Stores cd.mro) (hh : cd.hasDict = true) (ha : W.findIn K (.ref C) name = some none)
    (hq : ∀ h' tk' dx, (∀ b o, b ≠ x → hp.get? b = some o → h'.get? b = some o) → hp.objs.size ≤ dx → dx ≠ x → h'.get? x = some { cls := .ref C, dict := some dx, data := .fields fv } →
      h'.Ns1 dx (fun y => if y = name then some v else none) → R (.ok (.ret .none)) ⟨h', g, d, tk', os⟩) :
    codeAny (model prog w) A (.call (.builtin "object.__setattr__") ⟨[.ref x, .str name tk, v], []⟩) R ⟨hp, g, d, t, os⟩ := by
  have I : W.InstAt hp x { cls := .ref C, data := .fields fv } C none := ⟨hx, rfl, rfl, trivial⟩
  have SF := F.store_object
  have hxs : x ≠ hp.objs.size := Nat.ne_of_lt (Heap.lt_size hx)
  have sub : W.Looks (model prog w) hp (isInstance (.ref x) (.type "object")) true := I.type.andThen (W.looks_mroIn X (by unfold W.mroIn; rw [hcd, Option.bind_some, if_neg (by rw [hm.ne]; decide), hm.obj]))
  refine codeAny_call_builtin SF.slot.plain SF.entry (@W.check_slot (model prog w) _ _ ⟨hp, g, d, t, os⟩ "object.__setattr__" "object" "__setattr__" (.ref x) [.str name tk, v] [] _ SF.kind SF.split sub (SF.args (.ref x) (.str name tk) v) ?_)
  have hmr : W.Looks (model prog w) hp (mroOf (.ref C)) cd.mro := (W.looks_clsIn X hcd).andThen .now
  have L3 : W.Looks (model prog w) hp (storeTaker? none) none := .now
  have hcls : W.Looks (model prog w) hp (classData C) cd := W.looks_clsIn X hcd
  rw [W.osa_eq, refuse_eq]
  refine wpAny_bind (wpAny_bind (I.type.at (wpAny_bind (hmr.at ?_))))
  rw [hm.pass]
  refine wpAny_pure (wpAny_bind (I.type.at (wpAny_bind ((W.looks_findIn X ha).at (wpAny_bind (L3.at ?_))))))
  show wpAny _ _ (storeInOwnDict (.ref x) (.ref C) (.str name tk) name v false) _ _ _
  obtain ⟨nm, bs, mro, ns, qn, hd, sn, sb, ab, col, del⟩ := cd
  dsimp only at hh
  subst hh
  unfold storeInOwnDict ownDictForStores
  repeat (first | with_reducible refine store_in_new ?_ ?_ | with_reducible refine wpAny_loadPart_at hx ?_ | with_reducible refine hcls.at ?_ | wp_step)
  · exact ⟨_, #[], _, (Heap.get?_update_ne _ _ _ _ hxs.symm).trans (Heap.get?_push_at rfl rfl), rfl, fun e he => absurd he (by simp), fun _ => rfl⟩
  · intro h' tk' hn' hs
    have hx₁ : (hp.push { cls := .type "dict", data := .dict #[] }).get? x = some { cls := .ref C, data := .fields fv } := Heap.get?_push_of_some _ hx
    refine hq h' tk' hp.objs.size (fun b o hb ho => ?_) (Nat.le_refl _) hxs.symm ?_ hn'
    · exact (hs.2 b (Nat.ne_of_lt (Heap.lt_size ho))).trans ((Heap.get?_update_ne _ _ _ _ hb).trans (Heap.get?_push_of_some _ ho))
    · exact (hs.2 x hxs).trans (Heap.get?_update_self _ hx₁ rfl)
theorem storeX_more {K : W.Frag} {name : Str} {tk : Tok} {v : Value} {x C dx : Addr} {fv : Array Value} {cd : ClassData} {m0 : Str → Option Value} {nl : List Str}
    (X : K.In hp) (hx : hp.get? x = some { cls := .ref C, dict := some dx, data := .fields fv }) (hns : hp.Ns1 dx m0) (hw : Within m0 nl) (hz : nl.length ≤ 1000) (hcd : W.clsIn K C = some cd) (hm : Stores cd.mro) (hh : cd.hasDict = true)
    (ha : W.findIn K (.ref C) name = some none)
    (hq : ∀ h' tk', (∀ b o, b ≠ dx → hp.get? b = some o → h'.get? b = some o) → h'.Ns1 dx (fun y => if y = name then some v else m0 y) → R (.ok (.ret .none)) ⟨h', g, d, tk', os⟩) :
    codeAny (model prog w) A (.call (.builtin "object.__setattr__") ⟨[.ref x, .str name tk, v], []⟩) R ⟨hp, g, d, t, os⟩ := by
  obtain ⟨oD, esD, epD, hoD, hdD, _⟩ := hns.count hw
  have I : W.InstAt hp x { cls := .ref C, dict := some dx, data := .fields fv } C (some oD) := ⟨hx, rfl, rfl, hoD⟩
  have SF := F.store_object
  have sub : W.Looks (model prog w) hp (isInstance (.ref x) (.type "object")) true := I.type.andThen (W.looks_mroIn X (by unfold W.mroIn; rw [hcd, Option.bind_some, if_neg (by rw [hm.ne]; decide), hm.obj]))
  refine codeAny_call_builtin SF.slot.plain SF.entry (@W.check_slot (model prog w) _ _ ⟨hp, g, d, t, os⟩ "object.__setattr__" "object" "__setattr__" (.ref x) [.str name tk, v] [] _ SF.kind SF.split sub (SF.args (.ref x) (.str name tk) v) ?_)
  have hmr : W.Looks (model prog w) hp (mroOf (.ref C)) cd.mro := (W.looks_clsIn X hcd).andThen .now
  have L3 : W.Looks (model prog w) hp (storeTaker? none) none := .now
  have hcls : W.Looks (model prog w) hp (classData C) cd := W.looks_clsIn X hcd
  rw [W.osa_eq, refuse_eq]
  refine wpAny_bind (wpAny_bind (I.type.at (wpAny_bind (hmr.at ?_))))
  rw [hm.pass]
  refine wpAny_pure (wpAny_bind (I.type.at (wpAny_bind ((W.looks_findIn X ha).at (wpAny_bind (L3.at ?_))))))
  show wpAny _ _ (storeInOwnDict (.ref x) (.ref C) (.str name tk) name v false) _ _ _
  obtain ⟨nm, bs, mro, ns, qn, hd, sn, sb, ab, col, del⟩ := cd
  dsimp only at hh
  subst hh
  unfold storeInOwnDict ownDictForStores
  repeat (first | with_reducible refine PySem.OEX.store_in_old hns hw hz ?_ | with_reducible refine wpAny_loadPart_at hx ?_ | with_reducible refine hcls.at ?_ | wp_step)
  intro h' tk' hn' hs
  exact hq h' tk' (fun b o hb ho => (hs.2 b hb).trans ho) hn'
end
end My
set_option Elab.async false
set_option maxRecDepth 100000
set_option maxHeartbeats 4000000
set_option linter.unusedVariables false
namespace My
open PySem PySem.Spec PyProof.Rows L2

structure OwnX (K : PySem.W.Frag) (C : Addr) : Prop where
  cls : ∃ nm q N bs bm sn sub ab col dd k0 k1 k2 k3 k5 B newId initId bmB, K.lookup C = some (excClassObj nm q C N bs bm true sn sub ab col dd k0 k1 k2 k3 k5 newId) ∧ ExcBaseFacts B newId initId bmB ∧
    bm.contains (.type B) = true ∧ bm.contains (.type "AttributeError") = false ∧ bm.contains (.type "NameError") = false ∧ Stores (.ref C :: bm)
  sa : PySem.W.findIn K (.ref C) "__setattr__" = some (some (.builtin "object.__setattr__"))
  exC : PySem.W.subIn K (.ref C) (.type "BaseException") = some true
  tyC : PySem.W.typeIn K (.ref C) = some (.type "type")
  kC : PySem.W.keepIn K (.ref C) = true
section
variable {X : Cx} {pins : List (Addr × Obj)} {σ : L2.St} {H : Hp} {s : Shared} {a C dx : Addr} {f : Str} {y : V} {u : Value} {fs : List (Str × V)} {Q : Unit → Shared → Prop} {E : Value → Shared → Prop} {A : Around}

theorem putX_first (T : OwnX X.K C) (I : Inv X pins σ H s) (e : H a = some (exo a C none)) (hno : PySem.W.findIn X.K (.ref C) f = some none) (ry : RelV y u)
    (h : ∀ dx s', H dx = none → dx ≠ a → Inv X pins σ (upd (upd H dx (exd dx [(f, y)])) a (exo a C (some dx))) s' → Q () s') : wpAny (model X.prog X.w) A (setAttr (.ref a) f u) Q E s := by
  obtain ⟨nm, q, N, bs, bm, sn, sub, ab, col, dd, k0, k1, k2, k3, k5, B, newId, initId, bmB, hC, _, _, _, _, hst⟩ := T.cls
  have hcl : PySem.W.clsIn X.K C = some { name := nm, bases := bs, mro := .ref C :: bm, ns := N, qualname := q, hasDict := true, slotNames := sn, subclasses := sub, abstract := ab, collection := col, hasDel := false } := by unfold PySem.W.clsIn; rw [hC] <;> rfl
  obtain ⟨t1, ho⟩ := exo_at I.hok e
  obtain ⟨hp, g, d, t, os⟩ := s
  refine PySem.W.set_plain I.kIn (ox := { cls := .ref C, dict := none, data := .fields #[.ref t1, .none, .none, .none, .bool false, .none] }) (od := none) ⟨ho, rfl, rfl, trivial⟩ T.sa ?_
  refine storeX_first I.kIn ho hcl hst rfl hno (fun h' tk' dx k dn dne hx hn => ?_)
  have hnd : H dx = none := I.hok.fresh dn
  have nd : ∀ {b : Addr} {o : Obj}, hp.get? b = some o → b ≠ dx := fun {b o} q => Nat.ne_of_lt (Nat.lt_of_lt_of_le (Heap.lt_size q) dn)
  have na : ∀ {b : Addr}, H b = none → b ≠ a := fun {b} n z => by
    rw [z, e] at n
    cases n
  have Un1 : Un X.fs [] H (upd (upd H dx (exd dx [(f, y)])) a (exo a C (some dx))) hp h' := {
    keep := fun b o q n _ _ => k b o (na n) q
    slot := fun b o q n _ _ => ⟨o.slots, k b o (na n) q⟩
    free := fun b o q n _ => by rw [upd_ne (na n), upd_ne (nd q)]; exact n
    there := fun b o q _ => by
      by_cases hb : b = a
      · exact ⟨_, by rw [hb]; exact hx⟩
      · exact ⟨o, k b o hb q⟩
    tups := fun b xs q => by rw [upd_ne (at_ne e q exo_tup), upd_ne (ne_of_none q hnd)]; exact q
    frzs := fun b o v q => by rw [upd_ne (at_ne e q exo_frz), upd_ne (ne_of_none q hnd)]; exact q
    tbls := fun b ps q => ⟨#[], by rw [upd_ne (at_ne e q exo_tbl), upd_ne (ne_of_none q hnd), q]; simp⟩ }
  refine h dx _ hnd dne (I.un (t' := tk') Un1 fun b o q => ?_)
  by_cases hb : b = a
  · subst hb
    rw [upd_same] at q
    cases q
    exact exo_ok hx
  · rw [upd_ne hb] at q
    by_cases hd : b = dx
    · subst hd
      rw [upd_same] at q
      cases q
      exact exd_ok hn (relO_put (fs := []) ry fun g => True.intro)
    · rw [upd_ne hd] at q
      exact (I.hok b o q).stay (fun c v hc z => k c v (by
          rcases hc with hc | hc
          · rw [hc]
            exact hb
          · exact at_ne e hc exo_own) z)
        (fun c hc => by rw [upd_ne (at_ne e hc exo_own), upd_ne (ne_of_none hc hnd)]; exact hc) (fun c xs hc => by rw [upd_ne (at_ne e hc exo_tup), upd_ne (ne_of_none hc hnd)]; exact hc)

theorem putX_more (T : OwnX X.K C) (I : Inv X pins σ H s) (e : H a = some (exo a C (some dx))) (ed : H dx = some (exd dx fs)) (hl : fs.length ≤ 900) (hno : PySem.W.findIn X.K (.ref C) f = some none) (ry : RelV y u)
    (h : ∀ s', Inv X pins σ (upd H dx (exd dx ((f, y) :: fs))) s' → Q () s') : wpAny (model X.prog X.w) A (setAttr (.ref a) f u) Q E s := by
  obtain ⟨nm, q, N, bs, bm, sn, sub, ab, col, dd, k0, k1, k2, k3, k5, B, newId, initId, bmB, hC, _, _, _, _, hst⟩ := T.cls
  have hcl : PySem.W.clsIn X.K C = some { name := nm, bases := bs, mro := .ref C :: bm, ns := N, qualname := q, hasDict := true, slotNames := sn, subclasses := sub, abstract := ab, collection := col, hasDel := false } := by unfold PySem.W.clsIn; rw [hC] <;> rfl
  obtain ⟨t1, ho⟩ := exo_at I.hok e
  obtain ⟨mA, hns, rel⟩ := exd_at I.hok ed
  have hw := within_of rel
  obtain ⟨hp, g, d, t, os⟩ := s
  obtain ⟨oD, _, _, hoD, _, _⟩ := hns.count hw
  refine PySem.W.set_plain I.kIn (ox := { cls := .ref C, dict := some dx, data := .fields #[.ref t1, .none, .none, .none, .bool false, .none] }) (od := some oD) ⟨ho, rfl, rfl, hoD⟩ T.sa ?_
  refine storeX_more I.kIn ho hns hw (by rw [List.length_map]; omega) hcl hst rfl hno (fun h' tk' k hn => ?_)
  have hd : ∃ o, h'.get? dx = some o := by
    obtain ⟨o, _, _, e', _⟩ := hn
    exact ⟨o, e'⟩
  exact h _ (I.write (t' := tk') (x := dx) (e := dx) (o := exd dx ((f, y) :: fs)) (by rw [ed]; exact True.intro) (.inl rfl) k hd (exd_ok hn (relO_put ry rel)))
end

def tPutX (K : PySem.W.Frag) (f : Str) (to te : TE) : TS := fun D σ H => te σ H fun y H1 => to σ H1 fun x H2 => ∃ a C : Addr, x = .ref a ∧ OwnX K C ∧ PySem.W.findIn K (.ref C) f = some none ∧
  ((H2 a = some (exo a C none) ∧ ∀ dx, H2 dx = none → dx ≠ a → D.nx σ (upd (upd H2 dx (exd dx [(f, y)])) a (exo a C (some dx)))) ∨
    ∃ (dx : Addr) (fs : List (Str × V)), H2 a = some (exo a C (some dx)) ∧ H2 dx = some (exd dx fs) ∧ fs.length ≤ 900 ∧ D.nx σ (upd H2 dx (exd dx ((f, y) :: fs))))
section
variable {X : Cx} {C fI : Addr} {k : Nat} {fd : FuncData} {ps : List Str} {sp : Sp} {ds : List Value} {dvs : List V} {o e : Expr} {es : List Expr} {to te : TE} {ta : TA} {f x : Str} {p p' p1 p2 pos : Pos}
theorem ps_putX (ho : PE X o to) (he : PE X e te) (hs : swapsWith e (some (.Attribute o f p')) pos.line X.env = pure false := by rfl) : PS X (.Assign [.Attribute o f p'] e pos) (tPutX X.K f to te) := by
  refine ⟨fun pins s σ H D I h => ?_⟩
  refine plainObj_wpAny_Assign_Attribute (thn (he.run pins s σ H _ I h) fun v s1 ⟨y, H1, I1, r1, q1⟩ => thn (ho.run pins s1 σ H1 _ I1 q1) fun u s2 ⟨x, H2, I2, r2, a, C, ex, T, hno, q⟩ => ?_) hs
  subst ex
  obtain rfl : u = Value.ref a := r2
  rcases q with ⟨ea, q⟩ | ⟨dx, fs, ea, ed, hl, q⟩
  · exact putX_first T I2 ea hno r1 fun dx s' n ne J => ⟨σ, _, J, q dx n ne⟩
  · exact putX_more T I2 ea ed hl hno r1 fun s' J => ⟨σ, _, J, q⟩

theorem pmkX {CX : CXT} (T : OwnX X.K C) (iC : PySem.W.findIn X.K (.ref C) "__init__" = some (some (.ref fI))) (tI : PySem.W.typeIn X.K (.ref fI) = some (.type "function"))
    (F1 : FnOk X.prog X.w X.K X.mg X.base CX k fI fd ps sp) (hr : Room (k + 1) X.A) (hb : Binds X.K fd ps ds) (hd : Vals dvs ds) (hx : Passes CX X (fun _ _ _ => False)) (hg : Gl X x) (hm : X.mg x = some (.ref C)) (ha : PA X (e :: es) ta)
    (hdb : (x == ("__debug__" : Str)) = false := by decide) (he : starEach (e :: es) X.env = (false, eval e X.env) :: starEach es X.env := by rfl) (hpl : (backTo pos (starEach es X.env)).any (·.1) = false := by rfl) :
    PMk X (.Call (.Name x p) (e :: es) [] pos) (tMkO C sp dvs ta) := by
  intro pins s σ H Q I h
  obtain ⟨nm, q, N, bs, bm, sn, sub, ab, col, dd, k0, k1, k2, k3, k5, B, newId, initId, bmB, hC, FB, hB, hA, hN, hst⟩ := T.cls
  refine wpAny_Call_Name_kw (ld_glob I hg hm ?_ hdb)
  refine PySem.W.callWith_K (h₀ := X.base) I.ok.mod.kin T.kC (thn (ha.run pos pins s σ H _ I h) fun us s1 ⟨vs, H1, I1, r1, hz, q1⟩ => ⟨I1.kIn, ?_⟩) he hpl
  show wpAny _ _ (call (.ref C) us) _ _ _
  obtain ⟨hp, g, dr, tk, os⟩ := s1
  have hsz : hp.objs.size ≤ hp.objs.size + 1 := Nat.le_succ _
  have hn : H1 (hp.objs.size + 1) = none := I1.hok.fresh hsz
  have hq := q1 (hp.objs.size + 1) hn
  have kk : ∀ b o, hp.get? b = some o → ((hp.push (PySem.W.kdv_tup us)).push (PySem.HandSPX.excO C hp.objs.size)).get? b = some o := fun b o e => Heap.get?_push_of_some _ (Heap.get?_push_of_some _ e)
  have hget : ((hp.push (PySem.W.kdv_tup us)).push (PySem.HandSPX.excO C hp.objs.size)).get? (hp.objs.size + 1) = some (PySem.HandSPX.excO C hp.objs.size) := by heap_get
  have I2 : Inv X pins σ (upd H1 (hp.objs.size + 1) (exo (hp.objs.size + 1) C none)) ⟨(hp.push (PySem.W.kdv_tup us)).push (PySem.HandSPX.excO C hp.objs.size), g, dr, tk, os⟩ :=
    I1.laid (t' := tk) (a := hp.objs.size + 1) (o := exo (hp.objs.size + 1) C none) (h' := (hp.push (PySem.W.kdv_tup us)).push (PySem.HandSPX.excO C hp.objs.size)) kk hsz (exo_ok hget)
  have r2 : Vals (V.ref (hp.objs.size + 1) :: (vs ++ dvs)) (Value.ref (hp.objs.size + 1) :: (us ++ ds)) := .cons rfl (r1.append hd)
  have hl : (Value.ref (hp.objs.size + 1) :: us ++ ds).length = ps.length := by
    have e := r2.length
    rw [F1.len _ _ _ _ hq] at e
    exact e.symm
  have hus : us.length ≤ sizeLine := by
    rw [← Paired.length r1, sizeLine_eq]
    omega
  refine wpAny_call (callX FB hB hA hN (I1.kIn _ _ hC) (PySem.W.looks_findIn I1.kIn iC) (fun self => PySem.W.bind_fn I1.kIn self tI) hus
    (codeAny_mono (F1.run _ X.stack _ _ ⟨Value.ref (hp.objs.size + 1) :: us, []⟩ (Value.ref (hp.objs.size + 1) :: (us ++ ds)) _ _ (fun _ _ _ => False) (hr.make C us []) (I2.env0.make C us []) (hb _ (Value.ref (hp.objs.size + 1) :: us) I2.kIn hl) r2 hq) fun r s' hq' => ?_))
  cases r with
  | error er => exact hx pins σ _ _ er s' I2 hq'
  | ok fl =>
    cases fl with
    | ret u =>
      obtain ⟨v, H2, os2, bare2, un2, hok2, rv, ev, d, fs, ea, ed, hd1, q2⟩ := hq'
      subst ev
      obtain ⟨h2, g2, d2, t2, os'⟩ := s'
      exact ⟨rv, mk_end (raises_own T.exC T.tyC) I1 hsz kk un2 hok2 os2 bare2 ea ed hd1 q2⟩
    | next => exact False.elim hq'
    | brk => exact False.elim hq'
    | cont => exact False.elim hq'
end
end My
set_option Elab.async false
set_option maxRecDepth 100000
set_option maxHeartbeats 4000000
set_option linter.unusedVariables false
namespace My
open PySem PySem.Spec PyProof.Rows L2
open Builtin Builtin.ObjectAttr in
theorem stores_of {B : String} {bmB : List Value} (S : StoreFacts B bmB "object.__setattr__" "object") (C : Addr) (ne : bmB.isEmpty = false) (ob : bmB.contains (.type "object") = true) : Stores (.ref C :: bmB) where
  ne := rfl
  obj := by rw [List.contains_cons, ob, Bool.or_true]
  pass := fun self => by rw [refuseLoop_ref]; exact S.passes self

structure SeenX (K : PySem.W.Frag) (C : Addr) (bmB : List Value) (newId : String) : Prop where
  cls : ∃ nm q N bs sn sub ab col dd k0 k1 k2 k3 k5, K.lookup C = some (excClassObj nm q C N bs bmB true sn sub ab col dd k0 k1 k2 k3 k5 newId)
  sa : PySem.W.findIn K (.ref C) "__setattr__" = some (some (.builtin "object.__setattr__"))
  exC : PySem.W.subIn K (.ref C) (.type "BaseException") = some true
  tyC : PySem.W.typeIn K (.ref C) = some (.type "type")
  kC : PySem.W.keepIn K (.ref C) = true
theorem ownX_of {K : PySem.W.Frag} {C : Addr} {bmB bmN : List Value} {B B2 newId initId : String} (T : SeenX K C bmB newId) (F : ExcBaseFacts B newId initId bmN) (S : StoreFacts B2 bmB "object.__setattr__" "object")
    (hB : bmB.contains (.type B) = true) (hA : bmB.contains (.type "AttributeError") = false) (hN : bmB.contains (.type "NameError") = false) (ne : bmB.isEmpty = false) (ob : bmB.contains (.type "object") = true) : OwnX K C := by
  obtain ⟨nm, q, N, bs, sn, sub, ab, col, dd, k0, k1, k2, k3, k5, hC⟩ := T.cls
  exact ⟨⟨nm, q, N, bs, bmB, sn, sub, ab, col, dd, k0, k1, k2, k3, k5, B, newId, initId, bmN, hC, F, hB, hA, hN, stores_of S C ne ob⟩, T.sa, T.exC, T.tyC, T.kC⟩
section
variable {K : PySem.W.Frag} {C : Addr}
abbrev mroKey : List Value := [.type "KeyError", .type "LookupError", .type "Exception", .type "BaseException", .type "object"]
abbrev mroVal : List Value := [.type "ValueError", .type "Exception", .type "BaseException", .type "object"]
abbrev mroTyp : List Value := [.type "TypeError", .type "Exception", .type "BaseException", .type "object"]
abbrev mroLook : List Value := [.type "LookupError", .type "Exception", .type "BaseException", .type "object"]
abbrev mroIdx : List Value := [.type "IndexError", .type "LookupError", .type "Exception", .type "BaseException", .type "object"]
abbrev mroOver : List Value := [.type "OverflowError", .type "ArithmeticError", .type "Exception", .type "BaseException", .type "object"]
theorem ownX_key (T : SeenX K C mroKey "LookupError.__new__") : OwnX K C := ownX_of T F.excBase_LookupError keyStore (by decide +kernel) (by decide +kernel) (by decide +kernel) rfl (by decide +kernel)
theorem ownX_val (T : SeenX K C mroVal "ValueError.__new__") : OwnX K C := ownX_of T F.excBase_ValueError F.store_ValueError (by decide +kernel) (by decide +kernel) (by decide +kernel) rfl (by decide +kernel)
theorem ownX_typ (T : SeenX K C mroTyp "TypeError.__new__") : OwnX K C := ownX_of T F.excBase_TypeError F.store_TypeError (by decide +kernel) (by decide +kernel) (by decide +kernel) rfl (by decide +kernel)
theorem ownX_look (T : SeenX K C mroLook "LookupError.__new__") : OwnX K C := ownX_of T F.excBase_LookupError F.store_LookupError (by decide +kernel) (by decide +kernel) (by decide +kernel) rfl (by decide +kernel)
theorem ownX_idx (T : SeenX K C mroIdx "IndexError.__new__") : OwnX K C := ownX_of T F.excBase_IndexError F.store_IndexError (by decide +kernel) (by decide +kernel) (by decide +kernel) rfl (by decide +kernel)
theorem ownX_over (T : SeenX K C mroOver "OverflowError.__new__") : OwnX K C := ownX_of T F.excBase_OverflowError F.store_OverflowError (by decide +kernel) (by decide +kernel) (by decide +kernel) rfl (by decide +kernel)
example : Bind.madeBy (.type "KeyError") = pure (some "LookupError.__new__") := by kernel_rfl
end

def spInit1 (K : PySem.W.Frag) (f : Str) : Sp := fun vs H Q _ => ∃ (a C : Addr) (y : V), vs = [.ref a, y] ∧ OwnX K C ∧ PySem.W.findIn K (.ref C) f = some none ∧ H a = some (exo a C none) ∧
  ∀ dx, H dx = none → dx ≠ a → Q .non (upd (upd H dx (exd dx [(f, y)])) a (exo a C (some dx)))

def spInit2 (K : PySem.W.Frag) (f g : Str) : Sp := fun vs H Q _ => ∃ (a C : Addr) (y z : V), vs = [.ref a, y, z] ∧ OwnX K C ∧ PySem.W.findIn K (.ref C) f = some none ∧ PySem.W.findIn K (.ref C) g = some none ∧ H a = some (exo a C none) ∧
  ∀ dx H', H dx = none → dx ≠ a → H' dx = some (exd dx [(g, z), (f, y)]) → H' a = some (exo a C (some dx)) → (∀ b, b ≠ dx → b ≠ a → H' b = H b) → Q .non H'
end My
set_option Elab.async false
set_option maxRecDepth 100000
set_option maxHeartbeats 4000000
namespace My
open PySem PySem.Spec PyProof.Rows L2


section
variable {P : Program} {w : World} {K : PySem.W.Frag} {mg : Str → Option Value} {base : Heap} {CX : CXT}
structure FnG (P : Program) (w : World) (K : PySem.W.Frag) (mg : Str → Option Value) (base : Heap)
    (CX : CXT) (k : Nat) (f : Addr) (fd : FuncData) (ps : List Str) (sp : Sp) : Prop where
  len : ∀ vs H Q E, sp vs H Q E → vs.length = ps.length
  run : ∀ (A : Around) (outer : List Env) (s : Shared) (H : Hp) (args : Args) (us : List Value)
    (vs : List V) (Q : VK) (E : XK), A.guards = some [] → Room k A →
    Env0 P w K mg base A outer s H → BindsTo s fd args (ps.zip us) → Vals vs us →
    sp vs H Q E → codeAny (model P w) A (.call (.ref f) args) (CR CX outer P w H s Q E) s
theorem FnG.of {k : Nat} {f : Addr} {fd : FuncData} {ps : List Str} {sp : Sp}
    (F : FnOk P w K mg base CX k f fd ps sp) : FnG P w K mg base CX k f fd ps sp :=
  ⟨F.len, fun A outer s H args us vs Q E _ hr he hb hv hs => F.run A outer s H args us vs Q E hr he hb hv hs⟩
theorem deeper_guards (A : Around) (env : Env) (h : A.guards = some []) : (A.deeper env).guards = some [] := by
  first
  | exact h
  | (simp [Around.deeper]; exact h)


theorem okGX {x qual : Str} {st : Stmt} {f : Addr} {fd : FuncData} {N ps : List Str} {k : Nat} {sp : Sp}
    (F : Fun K x qual st f fd) (S : FnScope N ps (defScope st))
    (len : ∀ vs H Q E, sp vs H Q E → vs.length = ps.length)
    (body : ∀ (cdv : Value) (A : Around) (outer : List Env) (s : Shared) (H : Hp) (vs : List V) (Q : VK) (E : XK),
      (A.deeper (envOfC qual (defScope st) s.heap.objs.size f cdv)).guards = some [] →
      Room k (A.deeper (envOfC qual (defScope st) s.heap.objs.size f cdv)) → sp vs H Q E →
      ∃ t, PSs (cxOf CX P w K mg base N qual (defScope st) f cdv A outer s H E) (defBody st) t ∧
        t { nx := fun _ H' => Q .non H', rt := Q } (start N vs) H) :
    FnG P w K mg base CX (k + 1) f fd ps sp := by
  obtain ⟨oc, od, kV, doc, pm, an, cdv, ct, osl, rfl, lk, hcd⟩ := F.ex
  refine ⟨len, ?_⟩
  intro A outer s H args us vs Q E hg hr e0 hb r hsp
  have ln := len _ _ _ _ hsp
  have kin : K.In s.heap := e0.mod.kin.keeps fun b o e =>
    (e0.bs b o e).1
  have lim : s.heap.NoLimit := e0.mod.nolimit.keeps fun b o e =>
    (e0.bs b o e).1
  have kinds : ∀ y ∈ ps.zip us, (defScope st).names.lookup y.1 = some .local ∨
      ((defScope st).names.lookup y.1 = some .cell ∧
        ((cellsFrom (s.heap.objs.size + 1) (defScope st).names []).lookup y.1).isSome = true) := by
    rintro ⟨n, v⟩ hy
    rcases S.par n (List.of_mem_zip hy).1 with q | q
    · left; exact q
    · right; exact ⟨q, PySem.W.cellsFrom_some _ _ _ (.inl q)⟩
  refine codeAny_call_function hr.depth (kin _ _ lk) rfl S.co S.gen
    rfl (PySem.W.codeRec_of kin hcd) (hb _ _ _ _ ?_)
  refine wpAny_newFunctionEnv_cells S.kind kinds ?_
  intro env he s1 x
  subst he
  refine ⟨lim.keeps x.toInCall.keep, codeAny_func ?_⟩
  obtain ⟨t, ht, hq⟩ := body cdv A outer s H vs Q E
    (deeper_guards A _ hg) (hr.deeper _) hsp
  have I := inv_start (CX := CX) (P := P) (mg := mg) (base := base) (E := E) S hr.hd e0 ln r x
  refine wpAny_mono (ht.run [] s1 (start N vs) H _ I hq) ?_ (fun e s' hs => hs)
  intro fl s' hs
  cases fl with
  | ret u =>
    obtain ⟨v, σ', H', J, rv, q⟩ := hs
    exact ⟨v, H', J.os, J.bare, J.base, J.hok, rv, q⟩
  | next =>
    obtain ⟨σ', H', J, q⟩ := hs
    exact ⟨V.non, H', J.os, J.bare, J.base, J.hok, rfl, q⟩
  | brk => obtain ⟨_, _, _, z⟩ := hs; exact z.elim
  | cont => obtain ⟨_, _, _, z⟩ := hs; exact z.elim

theorem okG {x qual : Str} {st : Stmt} {f : Addr} {fd : FuncData} {N ps : List Str} {k : Nat} {sp : Sp}
    (F : Fun K x qual st f fd) (S : FnScope N ps (defScope st))
    (len : ∀ vs H Q E, sp vs H Q E → vs.length = ps.length)
    (body : ∀ (cdv : Value) (A : Around) (outer : List Env) (s : Shared) (H : Hp) (vs : List V) (Q : VK) (E : XK),
      (A.deeper (envOfC qual (defScope st) s.heap.objs.size f cdv)).guards = some [] →
      Room k (A.deeper (envOfC qual (defScope st) s.heap.objs.size f cdv)) → sp vs H Q E →
      ∃ t, PSs (cxOf CX P w K mg base N qual (defScope st) f cdv A outer s H E).nox (defBody st) t ∧
        t { nx := fun _ H' => Q .non H', rt := Q } (start N vs) H) :
    FnG P w K mg base CX (k + 1) f fd ps sp := by
  refine okGX F S len ?_
  intro cdv A outer s H vs Q E hg hr hsp
  obtain ⟨t, h, q⟩ := body cdv A outer s H vs Q E hg hr hsp
  exact ⟨t, h.nox, q⟩
end

section
variable {X : Cx} {CX : CXT} {k : Nat} {f : Addr} {fd : FuncData} {ps : List Str} {sp : Sp}
  {dvs : List V} {ds : List Value} {E : XK} {x : Str} {p pos : Pos} {e : Expr} {es : List Expr} {t : TA}
theorem run_fnG {pins : List (Addr × Obj)} {σ : L2.St} {H : Hp} {s : Shared} {Q : VK} {us : List Value} {vs : List V}
    (F : FnG X.prog X.w X.K X.mg X.base CX k f fd ps sp) (g : X.A.guards = some []) (hr : Room k X.A)
    (hb : Binds X.K fd ps ds) (hd : Vals dvs ds) (hx : Passes CX X E) (I : Inv X pins σ H s) (r : Vals vs us)
    (h : sp (vs ++ dvs) H Q E) :
    wpAny (model X.prog X.w) X.A (call (.ref f) us) (EP X pins σ Q) X.xe s := by
  have r2 := r.append hd
  have hl : (us ++ ds).length = ps.length :=
    r2.length.symm.trans (F.len _ _ _ _ h)
  have z := F.run X.A X.stack s H ⟨us, []⟩ (us ++ ds)
    (vs ++ dvs) Q E g hr I.env0 (hb s us I.kIn hl) r2 h
  refine wpAny_call (codeAny_mono z ?_)
  intro r s' hq
  match r, hq with
  | .error e, hq => exact hx pins σ H s e s' I hq
  | .ok (.ret u), hq => exact I.after hq
  | .ok .next, hq => exact hq.elim
  | .ok .brk, hq => exact hq.elim
  | .ok .cont, hq => exact hq.elim

theorem pe_callG (F : FnG X.prog X.w X.K X.mg X.base CX k f fd ps sp) (g : X.A.guards = some []) (hr : Room k X.A)
    (hg : Gl X x) (hm : X.mg x = some (.ref f)) (hk : PySem.W.keepIn X.K (.ref f) = true)
    (hb : Binds X.K fd ps ds) (hd : Vals dvs ds) (hx : Passes CX X E) (ha : PA X (e :: es) t)
    (hdb : (x == ("__debug__" : Str)) = false := by decide)
    (he : starEach (e :: es) X.env = (false, eval e X.env) :: starEach es X.env := by rfl)
    (hpl : (backTo pos (starEach es X.env)).any (·.1) = false := by rfl) :
    PE X (.Call (.Name x p) (e :: es) [] pos) (tCall sp dvs E t) := by
  constructor
  intro pins s σ H Q I h
  refine wpAny_Call_Name_kw (ld_glob I hg hm ?_ hdb)
  have a1 := ha.run pos pins s σ H _ I h
  refine PySem.W.callWith_K (h₀ := X.base) I.ok.mod.kin hk
    (thn a1 ?_) he hpl
  rintro us s1 ⟨vs, H1, I1, r, q⟩
  exact ⟨I1.kIn, run_fnG F g hr hb hd hx I1 r q⟩
end


section
variable {P : Program} {w : World} {K : PySem.W.Frag}

def only1 (a : Addr) (o : Obj) (u : HO) : Hp := fun b => if b = a then some (.frz o u) else none
theorem only1_at {a : Addr} {o : Obj} {u : HO} : only1 a o u a = some (.frz o u) := if_pos rfl
theorem only1_ne {a b : Addr} {o : Obj} {u : HO} (h : b ≠ a) : only1 a o u b = none := if_neg h
theorem callG {mg mb : Str → Option Value} {CX : CXT} {k : Nat} {fa a : Addr} {fd : FuncData} {x : Str} {sp : Sp}
    {s : Shared} {vs : List Value} {ns : List Int}
    (KX : K.In s.heap) (h1 : s.heap.Ns mainGlobals mg) (h2 : s.heap.Ns builtinsNs mb)
    (h3 : ∀ x : Str, x ≠ "__name__" → mb x = bootBuiltins x) (h4 : s.heap.NoLimit) (h5 : s.gens = #[])
    (ha : s.heap.get? a = some { cls := .type "list", data := .seq vs.toArray }) (hi : IntsAre vs ns)
    (hl : ns.length ≤ sizeLine) (hr : Room k callerA)
    (F : ∀ base : Heap, K.In base → base.Ns mainGlobals mg → FnG P w K mg base CX k fa fd [x] sp)
    (hb : ∀ (s : Shared) (u : Value), BindsTo s fd ⟨[u], []⟩ [(x, u)])
    (hsp : ∀ H : Hp, Only H → SqL K H a (ns.map V.int) → sp [.ref a] H (fun v _ => v = .bl true) fun _ _ _ => False)
    (hCX : ∀ H e s', CX [] H s (fun _ _ _ => False) e s' → False) :
    codeAny (model P w) callerA (.call (.ref fa) ⟨[.ref a], []⟩)
      (fun r s' => r = .ok (.ret (.bool true)) ∧ OldK s.heap s'.heap ∧ s'.os = s.os ∧ AllBare s'.gens) s := by
  have rv := vals_ints hi
  have main : ∀ H : Hp, Only H → SqL K H a (ns.map V.int) → HOk P w H s.heap →
      (∀ b u, H b = some u → b = a ∧ K.lookup a = none) →
      codeAny (model P w) callerA (.call (.ref fa) ⟨[.ref a], []⟩)
        (fun r s' => r = .ok (.ret (.bool true)) ∧ OldK s.heap s'.heap ∧ s'.os = s.os ∧ AllBare s'.gens) s := by
    intro H hO hS hok hA
    have isL : ∀ {b : Addr} {o : Obj} {u : HO}, s.heap.get? b = some o → H b = some u →
        o = { cls := .type "list", data := .seq vs.toArray } := by
      intro b o u e q
      obtain rfl := (hA b u q).1
      exact Option.some.inj (e.symm.trans ha)
    have up : ∀ {b : Addr} {o : Obj} {es : Array DictEntry} {n : Nat}, s.heap.get? b = some o →
        o.data = .dict es n → (hidT s.heap H).get? b = some o := by
      intro b o es n e d
      refine hidT_get e ?_
      cases q : H b with
      | none => rfl
      | some u => rw [isL e q] at d; cases d
    have upN : ∀ {b : Addr} {m : Str → Option Value}, s.heap.Ns b m → (hidT s.heap H).Ns b m := by
      rintro b m ⟨o, es, n, e, d, r⟩
      exact ⟨o, es, n, up e d, d, r⟩
    have KH : K.In (hidT s.heap H) := by
      intro b o e
      refine hidT_get (KX b o e) ?_
      cases q : H b with
      | none => rfl
      | some u =>
        obtain ⟨rfl, z⟩ := hA b u q
        rw [z] at e; cases e
    have M : Mod K mg (hidT s.heap H) := by
      refine ⟨KH, upN h1, ⟨mb, upN h2, h3⟩, ?_⟩
      obtain ⟨mc, l1, l2⟩ := h4
      exact ⟨mc, upN l1, l2⟩
    have e0 : Env0 P w K mg (hidT s.heap H) callerA [] s H :=
      { frames := rfl, mod := M, bs := fun b o e => of_hidT e, bsz := Nat.le_of_eq (hidT_size _ _)
        funs := trivial, frf := fun b z => absurd z (List.not_mem_nil), hok := hok, bare := .of_eq h5 }
    have run := (F _ KH (upN h1)).run callerA [] s H ⟨[.ref a], []⟩ [.ref a] [.ref a] _ _
      rfl hr e0 (hb s (.ref a)) (.cons rfl .nil) (hsp H hO hS)
    refine codeAny_mono run ?_
    intro r s' h
    match r, h with
    | .error e, h => exact (hCX H e s' h).elim
    | .ok .next, h => exact h.elim
    | .ok .brk, h => exact h.elim
    | .ok .cont, h => exact h.elim
    | .ok (.ret u), h =>
      obtain ⟨v, H', os, bare, un, hok', r', q⟩ := h
      obtain rfl : v = .bl true := q
      obtain rfl : u = Value.bool true := r'
      refine ⟨rfl, OldK.of_keep ?_, os, bare⟩
      intro b o e
      cases q : H b with
      | none => exact un.keep b o e q (fun z => absurd z (List.not_mem_nil)) (List.not_mem_nil)
      | some u =>
        rcases hO b with z | ⟨ob, xs, z⟩
        · rw [q] at z; cases z
        · obtain ⟨g1, _⟩ := hok b _ z
          obtain ⟨g2, _⟩ := hok' b _ (un.frzs b ob _ z)
          rw [e] at g1; cases g1
          exact g2
  cases hk : K.lookup a with
  | some o =>
    obtain rfl := Option.some.inj ((KX a o hk).symm.trans ha)
    refine main (fun _ => none) (fun _ => Or.inl rfl) (Or.inr ?_) (fun b u z => ?_) fun b u z => ?_
    · exact ⟨_, vs.toArray, _, hk, rfl, rfl, rfl, by rw [List.size_toArray, hi.length]; exact hl, by simpa using rv⟩
    · cases (show (none : Option HO) = some u from z)
    · cases (show (none : Option HO) = some u from z)
  | none =>
    refine main (only1 a { cls := .type "list", data := .seq vs.toArray } (.lst (ns.map V.int))) (fun b => ?_)
      (Or.inl (Or.inr ⟨_, only1_at⟩)) (fun b u z => ?_) fun b u z => ?_
    · by_cases e : b = a
      · subst e; exact Or.inr ⟨_, _, only1_at⟩
      · exact Or.inl (only1_ne e)
    · by_cases e : b = a
      · subst e
        obtain rfl := Option.some.inj (only1_at.symm.trans z)
        exact ⟨ha, by rw [List.length_map]; exact hl, vs, _, rv, ha⟩
      · rw [only1_ne e] at z; cases z
    · by_cases e : b = a
      · exact ⟨e, hk⟩
      · rw [only1_ne e] at z; cases z
end

theorem walkG {l : PySem.W.OpenLaw} {n k : Nat} {q : Program} {loose : List Str}
    {XP : (Str → Option Value) → Heap → Prop} {YP : World → Heap → Prop} {d : DefRec} {K : Params → PySem.W.Frag}
    {CX : World → CXT} {sp : World → Sp} {x : Str} (hn : l.most = some n) (hn2 : n ≤ sizeLine)
    (hdf : d.params.defaults = []) (hr : Room k callerA) (hY : ∀ (w : World) (h : Heap), YP w h → (K w.params).In h)
    (F : ∀ (w : World) (mg : Str → Option Value) (fa : Addr) (h : Heap), (K w.params).In h → h.Ns mainGlobals mg →
      mg d.name = some (.ref fa) → ∃ fd : FuncData, (∀ (s : Shared) (u : Value), BindsTo s fd ⟨[u], []⟩ [(x, u)]) ∧
        ∀ base : Heap, (K w.params).In base → base.Ns mainGlobals mg →
          FnG l.prog w (K w.params) mg base (CX w) k fa fd [x] (sp w))
    (hsp : ∀ (w : World) (H : Hp) (a : Addr) (ns : List Int), ns.length ≤ n → Only H →
      SqL (K w.params) H a (ns.map V.int) → sp w [.ref a] H (fun v _ => v = .bl true) fun _ _ _ => False)
    (hCX : ∀ (w : World) (H : Hp) (s : Shared) (e : Value) (s' : Shared),
      CX w [] H s (fun _ _ _ => False) e s' → False) :
    PySem.W.WalkO q loose XP YP l.row.toRowW d [] (fun f vs => PySem.call f vs) := by
  refine Att.attach_call hn hdf ?_
  intro w s₀ s₁ mg mb fa o pm cd doc a vs ns G Y ho hd hcd hmg hobj hints hlen hg
  have KX := hY w _ Y
  obtain ⟨fd, hb, hF⟩ := F w mg fa _ KX G.T.g hmg
  exact callG KX G.T.g G.T.b G.T.builtins G.T.nolimit hg hobj hints
    (Nat.le_trans hlen hn2) hr hF hb (fun H hO hS => hsp w H a ns hlen hO hS) fun H e s' => hCX w H s₁ e s'
end My
set_option Elab.async false
set_option maxRecDepth 100000
set_option maxHeartbeats 4000000
namespace My
open PySem PySem.Spec PyProof.Rows L2


def flatD : V → Option PyData
  | .non => some .none
  | .bl b => some (.bool b)
  | .int i => some (.int i)
  | .str x => some (.str x)
  | _ => none
def keyD : Key → PyData
  | .inl i => .int i
  | .inr x => .str x
inductive FlatKv : List (Key × V) → List (PyData × PyData) → Prop
  | nil : FlatKv [] []
  | cons {k : Key} {v : V} {d : PyData} {r : List (Key × V)} {ds : List (PyData × PyData)} :
      flatD v = some d → FlatKv r ds → FlatKv ((k, v) :: r) ((keyD k, d) :: ds)
inductive Dx (K : PySem.W.Frag) (H : Hp) : V → PyData → Prop
  | of {v : V} {d : PyData} : Dp K H v d → Dx K H v d
  | dict {a : Addr} {kvs : List (Key × V)} {ds : List (PyData × PyData)} :
      H a = some (.dK kvs) → FlatKv kvs ds → Dx K H (.ref a) (.dict ds)

theorem same_seqT {K : PySem.W.Frag} {H H' : Hp} {a : Addr} {xs : List V} (s : Same H H') (h : SqT K H a xs) : SqT K H' a xs := by
  rcases h with (h | ⟨o, h⟩) | h
  · exact Or.inl (Or.inl (s _ _ h))
  · exact Or.inl (Or.inr ⟨o, s _ _ h⟩)
  · exact Or.inr h
mutual
theorem dp_same {K : PySem.W.Frag} {H H' : Hp} (s : Same H H') : ∀ (d : PyData) (v : V), Dp K H v d → Dp K H' v d
  | .none, _, h => by cases h; exact .non
  | .bool b, _, h => by cases h; exact .bl b
  | .int i, _, h => by cases h; exact .int i
  | .str x, _, h => by cases h; exact .str x
  | .list ds, _, h => by
    cases h with
    | lst hs ha => exact .lst (s.seq hs) (dpAll_same s ds _ ha)
  | .tuple ds, _, h => by
    cases h with
    | tup hs ha =>
      refine .tup ?_ (dpAll_same s ds _ ha)
      exact same_seqT s hs
  | .dict _, _, h => by cases h
theorem dpAll_same {K : PySem.W.Frag} {H H' : Hp} (s : Same H H') : ∀ (ds : List PyData) (vs : List V), DpAll K H vs ds → DpAll K H' vs ds
  | [], _, h => by cases h; exact .nil
  | d :: ds, _, h => by
    cases h with
    | cons h1 h2 => exact .cons (dp_same s d _ h1) (dpAll_same s ds _ h2)
end
theorem Dx.same {K : PySem.W.Frag} {H H' : Hp} {v : V} {d : PyData} (h : Dx K H v d) (s : Same H H') : Dx K H' v d := by
  cases h with
  | of h => exact .of (dp_same s _ _ h)
  | dict h f => exact .dict (s _ _ h) f

section
variable {X : Cx} {pins : List (Addr × Obj)} {σ : L2.St} {H : Hp} {s : Shared}
theorem flat_reads {h : Heap} {v : V} {d : PyData} {u : Value} (e : flatD v = some d) (r : RelV v u) : Reads h u d [] := by
  cases v with
  | non => cases e; cases r; exact .none
  | bl b => cases e; cases r; exact .bool b
  | int i => cases e; obtain ⟨t, rfl⟩ := r; exact .int i t
  | str x => cases e; obtain ⟨t, rfl⟩ := r; exact .str x t
  | byt b => cases e
  | flt b => cases e
  | ref a => cases e
  | ty n => cases e
theorem key_reads {h : Heap} {prog : Program} {w : World} {k : Key} {u : Value} (e : (mixKind prog w).is k u = true) : Reads h u (keyD k) [] := by
  rw [mixKind_is] at e
  rcases keyIs_shape e with ⟨i, t, rfl, rfl⟩ | ⟨x, t, rfl, rfl⟩
  · exact .int i t
  · exact .str x t
theorem readsAll_flat {h : Heap} {prog : Program} {w : World} : ∀ {es : List DictEntry} {vs : List (Key × Value)}
    {kvs : List (Key × V)} {ds : List (PyData × PyData)}, Pairs (mixKind prog w) es vs → KV kvs vs → FlatKv kvs ds →
    ReadsAll h (es.map (·.key)) (ds.map (·.1)) [] ∧ ReadsAll h (es.map (·.val)) (ds.map (·.2)) []
  | _, _, _, _, .nil, r, f => by
    cases r; cases f
    exact ⟨.nil, .nil⟩
  | _, _, _, _, .cons h1 h2 p, r, f => by
    cases r with
    | cons r1 r2 =>
      cases f with
      | cons f1 f2 =>
        obtain ⟨z1, z2⟩ := readsAll_flat (h := h) p r2 f2
        obtain ⟨e1, e2⟩ := r1
        rw [← e1] at h1
        rw [← h2] at e2
        exact ⟨.cons (as := []) (bs := []) (key_reads h1) z1, .cons (as := []) (bs := []) (flat_reads f1 e2) z2⟩
theorem dp_noDict {K : PySem.W.Frag} {H : Hp} : ∀ (d : PyData) (v : V), Dp K H v d → d.hasDict = false
  | .none, _, _ => by simp only [PyData.hasDict]
  | .bool _, _, _ => by simp only [PyData.hasDict]
  | .int _, _, _ => by simp only [PyData.hasDict]
  | .str _, _, _ => by simp only [PyData.hasDict]
  | .list ds, _, h => by
    cases h with
    | lst hs ha => simp only [PyData.hasDict]; exact all ds _ ha
  | .tuple ds, _, h => by
    cases h with
    | tup hs ha => simp only [PyData.hasDict]; exact all ds _ ha
  | .dict _, _, h => by cases h
where all {K : PySem.W.Frag} {H : Hp} : ∀ (ds : List PyData) (vs : List V), DpAll K H vs ds → PyData.hasDictAll ds = false
  | [], _, _ => by simp only [PyData.hasDictAll]
  | d :: ds, _, h => by
    cases h with
    | cons h1 h2 => simp only [PyData.hasDictAll, dp_noDict d _ h1, all ds _ h2, Bool.or_self]

def rRepr (K : PySem.W.Frag) : List V → Hp → VK → Prop := fun xs H Q => ∃ x d, xs = [x] ∧ Dx K H x d ∧
  d.showable = true ∧ d.depth ≤ 60 ∧ d.shown.length ≤ sizeLine ∧ Q (.str d.shown) H
theorem call_repr (g : X.A.guards = some []) (hu : X.A.units + 64 < cLine) : CallR X (.builtin "repr") (rRepr X.K) := by
  intro pins s σ H xs us Q I r h
  obtain ⟨x, d, rfl, hx, hs, hd, hz, q⟩ := h
  obtain ⟨u, rfl, ru⟩ := vals1 r
  have fin : ∀ h' t tk, (∀ b o, s.heap.get? b = some o → h'.get? b = some o) →
      EP X pins σ Q (.str d.shown t) { s with heap := h', toks := tk } :=
    fun h' t tk k => ⟨.str d.shown, H, I.kept k, ⟨t, rfl⟩, q⟩
  have ref : ∀ {a : Addr} {as : List Addr}, Reads s.heap (.ref a) d as → (d.hasDict = true → sysModules ∉ as) →
      wpAny (model X.prog X.w) X.A (call (.builtin "repr") [.ref a]) (EP X pins σ Q) X.xe s := by
    intro a as rd nm
    exact repr_of_reads' rd hs nm g (by omega) (fun _ _ e => e) fin hz
  cases hx with
  | of hp =>
    have nd := dp_noDict d x hp
    obtain ⟨as, rd⟩ := Dp.reads I d x u hp ru
    cases hp with
    | non => cases ru; exact PySem.P.repr_of_none (by simpa [PyData.shown] using fin s.heap s.toks (s.toks + 1) fun _ _ e => e)
    | bl b => cases ru; exact PySem.P.repr_of_bool (by simpa [PyData.shown] using fin s.heap s.toks (s.toks + 1) fun _ _ e => e)
    | int i =>
      obtain ⟨t, rfl⟩ := ru
      exact PySem.P.repr_of_int (by simpa [PyData.showable] using hs) (by simpa [PyData.shown] using fin s.heap s.toks (s.toks + 1) fun _ _ e => e)
    | str y =>
      obtain ⟨t, rfl⟩ := ru
      exact PySem.P.repr_of_str (by simpa [PyData.shown] using fin s.heap s.toks (s.toks + 1) fun _ _ e => e) (by simpa [PyData.shown] using hz)
    | lst h1 h2 => cases ru; exact ref rd fun z => by rw [nd] at z; cases z
    | tup h1 h2 => cases ru; exact ref rd fun z => by rw [nd] at z; cases z
  | @dict a kvs ds ha f =>
    cases ru
    obtain ⟨_, ne, vs, kv, o, es, ep, e1, e2, e3, _, p, _⟩ := I.hok a _ ha
    obtain ⟨z1, z2⟩ := readsAll_flat (h := s.heap) p kv f
    refine ref (Reads.dict e1 e2.1 e3 z1 z2) fun _ m => ?_
    have m2 : sysModules ∈ [a] := by simpa using m
    rw [List.mem_singleton] at m2
    subst m2
    simp at ne
end


def repS (x : Str) (n : Nat) : Str := ⟨(List.replicate n x.cps).foldl (· ++ ·) #[]⟩
theorem repS_one (x : Str) : repS x 1 = x := by
  unfold repS
  simp
theorem repFold : ∀ (n : Nat) (x a : Array Nat), ((List.replicate n x).foldl (· ++ ·) a).size = a.size + n * x.size
  | 0, x, a => by simp
  | n + 1, x, a => by
    rw [List.replicate_succ, List.foldl_cons, repFold n x (a ++ x), Array.size_append, Nat.succ_mul]
    omega
theorem repS_len (x : Str) (n : Nat) : (repS x n).length = n * x.length := by
  show ((List.replicate n x.cps).foldl (· ++ ·) #[]).size = n * x.cps.size
  rw [repFold]
  simp
theorem op_mul_str {X : Cx} : OpR X (binaryOp .Mult) (fun x y H Q => ∃ z n, x = .str z ∧ y = .int n ∧ 1 ≤ n ∧ n ≤ 1000 ∧
    0 < z.length ∧ z.length ≤ 1000 ∧ Q (.str (repS z n.toNat)) H) := by
  intro pins s σ H x y v u Q I rx ry h
  obtain ⟨z, n, rfl, rfl, h1, h2, h3, h4, q⟩ := h
  obtain ⟨t, rfl⟩ := rx
  obtain ⟨t', rfl⟩ := ry
  refine PySem.P.mul_str ?_ ?_ ?_ ?_
  · have a1 : ¬ n < -(2 ^ 63 : Int) := by omega
    have a2 : ¬ n ≥ 2 ^ 63 := by omega
    rw [decide_eq_false a1, decide_eq_false a2]; rfl
  · intro _ _ hgt
    have : (1000 : Int) ≤ (2 ^ 63 - 1) / n := (Int.le_ediv_iff_mul_le (by omega)).mpr (by
      have := Int.mul_le_mul_of_nonneg_left h2 (show (0 : Int) ≤ 1000 by decide)
      omega)
    omega
  · intro _ _
    unfold Builtin.Str.tooLong
    refine decide_eq_false ?_
    have a : z.length * n.toNat ≤ 1000 * 1000 := Nat.mul_le_mul h4 (by omega)
    have b : (1000 * 1000 : Nat) ≤ sizeLine := by decide
    omega
  · rw [if_neg (by omega)]
    by_cases e : n = 1
    · subst e
      rw [if_pos (by simp)]
      exact ⟨.str z, H, I, ⟨t, rfl⟩, by rw [← repS_one z]; exact q⟩
    · rw [if_neg (by simp; omega)]
      have sz : (repS z n.toNat).length ≤ sizeLine := by
        have a : (repS z n.toNat).length = n.toNat * z.length := repS_len z n.toNat
        have b : n.toNat * z.length ≤ 1000 * 1000 := Nat.mul_le_mul (by omega) h4
        have c : (1000 * 1000 : Nat) ≤ sizeLine := by decide
        omega
      exact ⟨sz, .str (repS z n.toNat), H, I.tok _, ⟨_, rfl⟩, q⟩
end My
set_option Elab.async false
set_option maxRecDepth 100000
set_option maxHeartbeats 4000000
namespace My
open PySem PySem.Spec PyProof.Rows L2

def Fn (P : Program) (w : World) (K : PySem.W.Frag) (mg : Str → Option Value) (base : Heap) (k : Nat) (x : Str) (ps : List Str) (sp : Sp) : Prop :=
  ∃ f fd, mg x = some (.ref f) ∧ FnOk P w K mg base CX0 k f fd ps sp ∧ PySem.W.keepIn K (.ref f) = true ∧ Binds K fd ps []
def FnGr (P : Program) (w : World) (K : PySem.W.Frag) (mg : Str → Option Value) (base : Heap) (k : Nat) (x : Str) (ps : List Str) (sp : Sp) : Prop :=
  ∃ f fd, mg x = some (.ref f) ∧ FnG P w K mg base CX0 k f fd ps sp ∧ PySem.W.keepIn K (.ref f) = true ∧ Binds K fd ps []
section
variable {X : Cx} {k : Nat} {ps : List Str} {sp : Sp} {x : Str} {p pos : Pos} {e : Expr} {es : List Expr} {t : TA}
theorem pe_fn (D : Fn X.prog X.w X.K X.mg X.base k x ps sp) (hr : Room k X.A) (hg : Gl X x) (ha : PA X (e :: es) t)
    (hdb : (x == ("__debug__" : Str)) = false := by decide)
    (he : starEach (e :: es) X.env = (false, eval e X.env) :: starEach es X.env := by rfl)
    (hpl : (backTo pos (starEach es X.env)).any (·.1) = false := by rfl) :
    PE X (.Call (.Name x p) (e :: es) [] pos) (tCall sp [] E0 t) := by
  obtain ⟨f, fd, hm, F, kp, b⟩ := D
  exact pe_call F hr hg hm kp b .nil pass0 ha hdb he hpl
theorem pe_fnG (D : FnGr X.prog X.w X.K X.mg X.base k x ps sp) (g : X.A.guards = some []) (hr : Room k X.A) (hg : Gl X x) (ha : PA X (e :: es) t)
    (hdb : (x == ("__debug__" : Str)) = false := by decide)
    (he : starEach (e :: es) X.env = (false, eval e X.env) :: starEach es X.env := by rfl)
    (hpl : (backTo pos (starEach es X.env)).any (·.1) = false := by rfl) :
    PE X (.Call (.Name x p) (e :: es) [] pos) (tCall sp [] E0 t) := by
  obtain ⟨f, fd, hm, F, kp, b⟩ := D
  exact pe_callG F g hr hg hm kp b .nil pass0 ha hdb he hpl
end

def Bag (H : Hp) (a : Addr) (n : Nat) : Prop := ∃ x y z : Int, H a = some (.lst [.int x, .int y, .int z]) ∧ 0 ≤ y ∧ y < 2305843009213693951 ∧ 0 ≤ z ∧ z ≤ n

def But (a : Addr) (H H' : Hp) : Prop := ∀ b, b ≠ a → H' b = H b
theorem But.refl (a : Addr) (H : Hp) : But a H H := fun _ _ => rfl
theorem But.upd {a : Addr} {H : Hp} {o : HO} : But a H (upd H a o) := fun _ h => upd_ne h
theorem But.trans {a : Addr} {H H1 H2 : Hp} (x : But a H H1) (y : But a H1 H2) : But a H H2 := fun b h => (y b h).trans (x b h)
def spBag (K : PySem.W.Frag) : Sp := fun vs H Q _ => ∃ (p : Addr) (ns : List Int) (i : Nat), vs = [.ref p, .int (i : Int)] ∧ SqL K H p (ns.map V.int) ∧ i < 64 ∧
  ∀ (a : Addr) (o : HO), H a = none → Bag (upd H a o) a 0 → Q (.ref a) (upd H a o)
def spTake : Sp := fun vs H Q _ => ∃ (a : Addr) (m : Int) (n : Nat), vs = [.ref a, .int m] ∧ Bag H a n ∧ n < 1000000 ∧ 0 < m ∧ m < 1073741824 ∧
  ∀ (i : Int) (H' : Hp), 0 ≤ i → i < m → But a H H' → Bag H' a (n + 1) → Q (.int i) H'
end My
set_option Elab.async false
set_option maxRecDepth 100000
set_option maxHeartbeats 4000000
namespace My
open PySem PySem.Spec PyProof.Rows L2

theorem same_new {H : Hp} {p : Addr} {o : HO} (h : H p = none) : Same H (upd H p o) := fun _ _ e => (upd_ne (ne_of_none e h)).trans e
theorem new_same {H H1 : Hp} {p : Addr} {o : HO} (e : upd H p o = H1) (h : H p = none) : Same H H1 := e ▸ same_new h
theorem new_at {H H1 : Hp} {p : Addr} {o : HO} (e : upd H p o = H1) : H1 p = some o := e ▸ upd_same
theorem new_ne {H H1 : Hp} {p b : Addr} {o : HO} (e : upd H p o = H1) (n : b ≠ p) : H1 b = H b := e ▸ upd_ne n

def Ext (a : Addr) (H H' : Hp) : Prop := ∀ b o, b ≠ a → H b = some o → H' b = some o
theorem Ext.of {a : Addr} {H H' : Hp} (s : Same H H') : Ext a H H' := fun b o _ e => s b o e
theorem Ext.but {a : Addr} {H H' : Hp} (s : But a H H') : Ext a H H' := fun b o n e => (s b n).trans e
theorem Ext.trans {a : Addr} {H H1 H2 : Hp} (x : Ext a H H1) (y : Ext a H1 H2) : Ext a H H2 := fun b o n e => y b o n (x b o n e)

def del (a : Addr) (H : Hp) : Hp := fun b => if b = a then none else H b
theorem del_but {a : Addr} {H H' : Hp} (h : But a H H') : del a H' = del a H := by
  funext b
  unfold del
  by_cases e : b = a
  · rw [if_pos e, if_pos e]
  · rw [if_neg e, if_neg e, h b e]
theorem del_same {a : Addr} {H H' : Hp} (h : Same H H') : Same (del a H) (del a H') := by
  intro b o e
  unfold del at e ⊢
  by_cases q : b = a
  · rw [if_pos q] at e; cases e
  · rw [if_neg q] at e ⊢; exact h b o e
theorem del_ext {a : Addr} {H H' : Hp} (h : Ext a H H') : Same (del a H) (del a H') := by
  intro b o e
  unfold del at e ⊢
  by_cases q : b = a
  · rw [if_pos q] at e; cases e
  · rw [if_neg q] at e ⊢; exact h b o q e
theorem del_sub {a : Addr} {H : Hp} : Same (del a H) H := by
  intro b o e
  unfold del at e
  by_cases q : b = a
  · rw [if_pos q] at e; cases e
  · rw [if_neg q] at e; exact e
theorem del_at {a b : Addr} {H : Hp} (h : b ≠ a) : del a H b = H b := if_neg h
theorem del_none {a b : Addr} {H : Hp} (h : H b = none) : del a H b = none := by
  unfold del
  by_cases q : b = a
  · rw [if_pos q]
  · rw [if_neg q, h]
theorem Bag.ne {H : Hp} {a b : Addr} {n : Nat} (h : Bag H a n) (e : H b = none) : b ≠ a := by
  rintro rfl
  obtain ⟨x, y, z, h, _⟩ := h
  rw [h] at e; cases e
theorem Bag.same {H H' : Hp} {a : Addr} {n : Nat} (h : Bag H a n) (s : Same H H') : Bag H' a n := by
  obtain ⟨x, y, z, h, r⟩ := h
  exact ⟨x, y, z, s _ _ h, r⟩
theorem Bag.mono {H : Hp} {a : Addr} {n m : Nat} (h : Bag H a n) (l : n ≤ m) : Bag H a m := by
  obtain ⟨x, y, z, h, r1, r2, r3, r4⟩ := h
  exact ⟨x, y, z, h, r1, r2, r3, by omega⟩

theorem at_all {xs : List V} {i : Int} {Pr : V → Prop} (h0 : 0 ≤ i) (h1 : i < xs.length) (h : ∀ v, v ∈ xs → Pr v) : ∃ v, atI xs i = some v ∧ Pr v := by
  have hlt : i.toNat < xs.length := by omega
  refine ⟨xs[i.toNat], ?_, h _ (List.getElem_mem hlt)⟩
  unfold atI ixN
  rw [if_pos h0, if_pos h1]
  simp [hlt]

theorem lc_text {x : Str} {g : TG} {tt : TT} {te : TE} {vs : List Nat} {σ : L2.St} {H1 : Hp} {D : Addr} {Qd : Hp → Prop}
    (Pv : Nat → Hp → Prop) (h0 : Pv 0 (upd H1 D (.lst [])))
    (hs : ∀ i c H, x.cps[i]? = some c → Pv i H → g (.str ⟨#[c]⟩) (wipe σ vs) H fun σ2 H2 =>
      wipe σ2 vs = wipe σ vs ∧ tt σ2 H2 fun b H3 => if b = true then te σ2 H3 fun y H4 =>
        ∃ acc, H4 D = some (.lst acc) ∧ acc.length < sizeLine ∧ Pv (i + 1) (upd H4 D (.lst (acc ++ [y])))
      else Pv (i + 1) H3)
    (hd : ∀ H, Pv x.cps.size H → Qd H) :
    ∃ W : Nat → Nat → Hp → Prop, (∃ m, W 0 m (upd H1 D (.lst []))) ∧ ∀ i m H, W i m H →
      ((Its x).stop i H ∧ Qd H) ∨ ((Its x).go i H ∧ ∃ Nx : Hp → Prop, (∀ H', Nx H' → ∃ m', m' < m ∧ W (i + 1) m' H') ∧
        ∀ v H', (Its x).yld i H v H' → g v (wipe σ vs) H' fun σ2 H2 => wipe σ2 vs = wipe σ vs ∧ tt σ2 H2 fun b H3 =>
          if b = true then te σ2 H3 fun y H4 => ∃ acc, H4 D = some (.lst acc) ∧ acc.length < sizeLine ∧
            Nx (upd H4 D (.lst (acc ++ [y]))) else Nx H3) := by
  refine ⟨fun i m H => i ≤ x.cps.size ∧ m + i = x.cps.size ∧ Pv i H, ⟨x.cps.size, Nat.zero_le _, rfl, h0⟩, ?_⟩
  rintro i m H ⟨hi, hm, p⟩
  by_cases l : i < x.cps.size
  · right
    refine ⟨l, Pv (i + 1), fun H' z => ⟨m - 1, by omega, by omega, by omega, z⟩, ?_⟩
    rintro v H' ⟨rfl, c, hc, rfl⟩
    exact hs i c H' hc p
  · left
    obtain rfl : i = x.cps.size := by omega
    exact ⟨Nat.le_refl _, hd H p⟩

def tyD : PyData → String
  | .none => "NoneType"
  | .bool _ => "bool"
  | .int _ => "int"
  | .str _ => "str"
  | .list _ => "list"
  | .tuple _ => "tuple"
  | .dict _ => "dict"
theorem ty_of {K : PySem.W.Frag} {H : Hp} {v : V} {d : PyData} (h : Dx K H v d) : TyX K H v (.type (tyD d)) := by
  cases h with
  | of h =>
    cases h with
    | non => exact .base .non
    | bl b => exact .base (.bl b)
    | int i => exact .base (.int i)
    | str x => exact .base (.str x)
    | lst hs _ =>
      rcases hs with (h | ⟨o, h⟩) | ⟨o, its, n, h, c, _⟩
      · exact .base (.lst h)
      · exact .base (.frz h)
      · exact .kList h c
    | tup hs _ =>
      rcases hs with (h | ⟨o, h⟩) | ⟨o, its, n, h, c, _⟩
      · exact .base (.tup h)
      · exact .fTuple h
      · exact .kTuple h c
  | dict h f => exact .base (.dK h)
def isD (T : String) (d : PyData) : Bool := (kitB (tyD d) T).getD false
theorem kit_all : ∀ S ∈ ["NoneType", "bool", "int", "str", "list", "tuple", "dict"], ∀ T ∈ ["int", "bool", "str", "tuple", "list", "dict"],
    (kitB S T).isSome = true := by decide +kernel
theorem isD_some {T : String} {d : PyData} (h : T = "int" ∨ T = "bool" ∨ T = "str" ∨ T = "tuple" ∨ T = "list" ∨ T = "dict") : kitB (tyD d) T = some (isD T d) := by
  have e : (kitB (tyD d) T).isSome = true := by
    refine kit_all (tyD d) ?_ T ?_
    · cases d <;> simp [tyD]
    · simpa using h
  unfold isD
  cases q : kitB (tyD d) T with
  | none => rw [q] at e; cases e
  | some b => rfl
theorem isi_of {K : PySem.W.Frag} {H : Hp} {v : V} {d : PyData} {T : String} {Q : VK} (h : Dx K H v d)
    (hT : T = "int" ∨ T = "bool" ∨ T = "str" ∨ T = "tuple" ∨ T = "list" ∨ T = "dict") (q : Q (.bl (isD T d)) H) : rIsi K [v, .ty T] H Q :=
  ⟨v, .ty T, _, _, _, rfl, .ty T, ty_of h, kit_ty (isD_some hT), q⟩
def isS (S T : String) : Bool := (kitB S T).getD false
theorem isD_int (d : PyData) : isD "int" d = (match d with | .int _ => true | .bool _ => true | _ => false) := by
  cases d with
  | none => exact (by decide +kernel : isS "NoneType" "int" = false)
  | bool b => exact (by decide +kernel : isS "bool" "int" = true)
  | int i => exact (by decide +kernel : isS "int" "int" = true)
  | str x => exact (by decide +kernel : isS "str" "int" = false)
  | list xs => exact (by decide +kernel : isS "list" "int" = false)
  | tuple xs => exact (by decide +kernel : isS "tuple" "int" = false)
  | dict kvs => exact (by decide +kernel : isS "dict" "int" = false)
theorem isD_bool (d : PyData) : isD "bool" d = (match d with | .bool _ => true | _ => false) := by
  cases d with
  | none => exact (by decide +kernel : isS "NoneType" "bool" = false)
  | bool b => exact (by decide +kernel : isS "bool" "bool" = true)
  | int i => exact (by decide +kernel : isS "int" "bool" = false)
  | str x => exact (by decide +kernel : isS "str" "bool" = false)
  | list xs => exact (by decide +kernel : isS "list" "bool" = false)
  | tuple xs => exact (by decide +kernel : isS "tuple" "bool" = false)
  | dict kvs => exact (by decide +kernel : isS "dict" "bool" = false)
theorem isD_str (d : PyData) : isD "str" d = (match d with | .str _ => true | _ => false) := by
  cases d with
  | none => exact (by decide +kernel : isS "NoneType" "str" = false)
  | bool b => exact (by decide +kernel : isS "bool" "str" = false)
  | int i => exact (by decide +kernel : isS "int" "str" = false)
  | str x => exact (by decide +kernel : isS "str" "str" = true)
  | list xs => exact (by decide +kernel : isS "list" "str" = false)
  | tuple xs => exact (by decide +kernel : isS "tuple" "str" = false)
  | dict kvs => exact (by decide +kernel : isS "dict" "str" = false)
theorem isD_tuple (d : PyData) : isD "tuple" d = (match d with | .tuple _ => true | _ => false) := by
  cases d with
  | none => exact (by decide +kernel : isS "NoneType" "tuple" = false)
  | bool b => exact (by decide +kernel : isS "bool" "tuple" = false)
  | int i => exact (by decide +kernel : isS "int" "tuple" = false)
  | str x => exact (by decide +kernel : isS "str" "tuple" = false)
  | list xs => exact (by decide +kernel : isS "list" "tuple" = false)
  | tuple xs => exact (by decide +kernel : isS "tuple" "tuple" = true)
  | dict kvs => exact (by decide +kernel : isS "dict" "tuple" = false)
theorem isD_list (d : PyData) : isD "list" d = (match d with | .list _ => true | _ => false) := by
  cases d with
  | none => exact (by decide +kernel : isS "NoneType" "list" = false)
  | bool b => exact (by decide +kernel : isS "bool" "list" = false)
  | int i => exact (by decide +kernel : isS "int" "list" = false)
  | str x => exact (by decide +kernel : isS "str" "list" = false)
  | list xs => exact (by decide +kernel : isS "list" "list" = true)
  | tuple xs => exact (by decide +kernel : isS "tuple" "list" = false)
  | dict kvs => exact (by decide +kernel : isS "dict" "list" = false)
end My
set_option Elab.async false
set_option maxRecDepth 100000
set_option maxHeartbeats 4000000
namespace My
open PySem PySem.Spec PyProof.Rows L2

section
variable {X : Cx} {pins : List (Addr × Obj)} {σ : L2.St} {H : Hp} {s : Shared}
theorem fr_of (I : Inv X pins σ H s) : ∃ m, Fr X.base X.env.locals s.heap m := by
  obtain ⟨m, n, _⟩ := I.loc
  exact ⟨m, n, fun b o e => (I.bs b o e).1, Nat.le_trans I.ok.bsz I.ok.above⟩
theorem inst_of {a C dx : Addr} {fs : List (Str × V)} (I : Inv X pins σ H s) (e : H a = some (.ins C dx fs)) :
    ∃ ox od, PySem.W.InstAt s.heap a ox C (some od) := by
  obtain ⟨mA, O, _⟩ := ins_get I.hok e
  obtain ⟨od, J, _⟩ := O.look
  exact ⟨_, od, J⟩
theorem cmp_back {Q : VK} {u : Value} {s' : Shared} (h : EP X pins σ Q u s') : PySem.W.CmpBack (EP X pins σ Q) u s' := by
  obtain ⟨v, H', I', r, q⟩ := h
  cases u with
  | notImplemented =>
    cases v with
    | int i => obtain ⟨t, z⟩ := r; cases z
    | str x => obtain ⟨t, z⟩ := r; cases z
    | byt x => obtain ⟨t, z⟩ := r; cases z
    | flt x => obtain ⟨t, z⟩ := r; cases z
    | non => cases r
    | bl b => cases r
    | ref a => cases r
    | ty n => cases r
  | _ => exact ⟨v, H', I', r, q⟩

structure OwnOp (X : Cx) (C : Addr) (name : Str) (k : Nat) (ps : List Str) (sp : Sp) : Prop where
  ex : ∃ f fd, PySem.W.findIn X.K (.ref C) name = some (some (.ref f)) ∧ PySem.W.isFn X.K (.ref f) = true ∧
    FnOk X.prog X.w X.K X.mg X.base CX0 k f fd ps sp ∧ Binds X.K fd ps []
def rBin (C : Addr) (sp : Sp) : R2 := fun x y H Q => ∃ a b dx fs dy gs, x = .ref a ∧ y = .ref b ∧ H a = some (.ins C dx fs) ∧
  H b = some (.ins C dy gs) ∧ sp [x, y] H Q E0
theorem op_own2 {op : Operator} {C : Addr} {k : Nat} {ps : List Str} {sp : Sp} (O : OwnOp X C (PySem.dunder op.info.2) k ps sp)
    (hr : Room k X.A) (hc : PySem.W.selfFirst X.K C = true) : OpR X (binaryOp op) (rBin C sp) := by
  intro pins s σ H x y v u Q I rx ry h
  obtain ⟨a, b, dx, fs, dy, gs, rfl, rfl, ha, hb, q⟩ := h
  cases rx; cases ry
  obtain ⟨f, fd, hs, hf, F, bd⟩ := O.ex
  obtain ⟨m, Fr⟩ := fr_of I
  obtain ⟨ox, od, J⟩ := inst_of I ha
  obtain ⟨oy, oe, J2⟩ := inst_of I hb
  refine PySem.W.binop_K Fr I.ok.mod.kin J J2.type hc hs hf ?_
  refine thn (run_fn (us := [.ref a, .ref b]) (vs := [.ref a, .ref b]) F hr bd .nil pass0 I (.cons rfl (.cons rfl .nil)) q) ?_
  intro u s' z
  exact cmp_back z
def rIn1 (C : Addr) (sp : Sp) (neg : Bool) : R2 := fun x y H Q => ∃ b dy gs, y = .ref b ∧ H b = some (.ins C dy gs) ∧
  sp [y, x] H (fun v H' => ∃ c, v = .bl c ∧ Q (.bl (if neg = true then !c else c)) H') E0
theorem truthy_bool {M : Model} {A : Around} {E : Value → Shared → Prop} {s : Shared} {b : Bool} {Q : Bool → Shared → Prop} (h : Q b s) :
    wpAny M A (truthy (.bool b)) Q E s := by
  unfold truthy
  exact wpAny_pure h
theorem op_ownIn {C : Addr} {k : Nat} {ps : List Str} {sp : Sp} (O : OwnOp X C "__contains__" k ps sp) (hr : Room k X.A) :
    OpR X (compareOp .In) (rIn1 C sp false) := by
  intro pins s σ H x y v u Q I rx ry h
  obtain ⟨b, dy, gs, rfl, hb, q⟩ := h
  cases ry
  obtain ⟨f, fd, hs, hf, F, bd⟩ := O.ex
  obtain ⟨m, Fr⟩ := fr_of I
  obtain ⟨ox, od, J⟩ := inst_of I hb
  refine PySem.W.in_K Fr I.ok.mod.kin J hs hf ?_
  refine thn (run_fn (us := [.ref b, v]) (vs := [.ref b, x]) F hr bd .nil pass0 I (.cons rfl (.cons rx .nil)) q) ?_
  rintro u s' ⟨_, H', I', r, c, rfl, z⟩
  cases r
  exact truthy_bool ⟨.bl c, H', I', rfl, z⟩
theorem op_ownNotIn {C : Addr} {k : Nat} {ps : List Str} {sp : Sp} (O : OwnOp X C "__contains__" k ps sp) (hr : Room k X.A) :
    OpR X (compareOp .NotIn) (rIn1 C sp true) := by
  intro pins s σ H x y v u Q I rx ry h
  obtain ⟨b, dy, gs, rfl, hb, q⟩ := h
  cases ry
  obtain ⟨f, fd, hs, hf, F, bd⟩ := O.ex
  obtain ⟨m, Fr⟩ := fr_of I
  obtain ⟨ox, od, J⟩ := inst_of I hb
  refine PySem.W.notIn_K Fr I.ok.mod.kin J hs hf ?_
  refine thn (run_fn (us := [.ref b, v]) (vs := [.ref b, x]) F hr bd .nil pass0 I (.cons rfl (.cons rx .nil)) q) ?_
  rintro u s' ⟨_, H', I', r, c, rfl, z⟩
  cases r
  exact truthy_bool ⟨.bl (!c), H', I', rfl, z⟩

theorem run_in1 {k : Nat} {f : Addr} {fd : FuncData} {ps : List Str} {sp : Sp} {Q : VK} {us : List Value} {vs : List V}
    (F : FnOk X.prog X.w X.K X.mg X.base CX0 k f fd ps sp) (hr : Room (k + 1) X.A) (hb : Binds X.K fd ps []) (I : Inv X pins σ H s)
    (r : Vals vs us) (h : sp vs H Q E0) {E : Value → Shared → Prop} :
    wpAny (model X.prog X.w) X.A.in1 (call (.ref f) us) (EP X pins σ Q) E s := by
  have hl : us.length = ps.length := r.length.symm.trans (F.len _ _ _ _ h)
  have b0 : BindsTo s fd ⟨us, []⟩ (ps.zip us) := by
    have := hb s us I.kIn (by simpa using hl)
    simpa using this
  have z := F.run X.A.in1 X.stack s H ⟨us, []⟩ us vs Q E0 hr.in1 I.env0.in1 b0 r h
  refine wpAny_call (codeAny_mono z ?_)
  intro r s' hq
  match r, hq with
  | .error e, hq => exact hq.elim
  | .ok (.ret u), hq => exact I.after hq
  | .ok .next, hq => exact hq.elim
  | .ok .brk, hq => exact hq.elim
  | .ok .cont, hq => exact hq.elim
def rLen1 (C : Addr) (sp : Sp) : List V → Hp → VK → Prop := fun vs H Q => ∃ b dy gs, vs = [.ref b] ∧ H b = some (.ins C dy gs) ∧
  sp [.ref b] H (fun v H' => ∃ n : Int, v = .int n ∧ 0 ≤ n ∧ n < 2 ^ 63 ∧ Q (.int n) H') E0
theorem call_ownLen {C : Addr} {k : Nat} {ps : List Str} {sp : Sp} (O : OwnOp X C "__len__" k ps sp) (hr : Room (k + 1) X.A) :
    CallR X (.builtin "len") (rLen1 C sp) := by
  intro pins s σ H vs us Q I r h
  obtain ⟨b, dy, gs, rfl, hb, q⟩ := h
  obtain ⟨u, rfl, ru⟩ := vals1 r
  cases ru
  obtain ⟨f, fd, hs, hf, F, bd⟩ := O.ex
  obtain ⟨m, Fr⟩ := fr_of I
  obtain ⟨ox, od, J⟩ := inst_of I hb
  refine PySem.W.len_K Fr I.ok.mod.kin J hs hf ?_
  refine thn (run_in1 (us := [.ref b]) (vs := [.ref b]) F hr bd I (.cons rfl .nil) q) ?_
  rintro u s' ⟨_, H', I', r, n, rfl, n0, n1, z⟩
  obtain ⟨t, rfl⟩ := r
  exact ⟨⟨n0, n1⟩, .int n, H', I'.tok _, ⟨_, rfl⟩, z⟩
end
end My
set_option Elab.async false
set_option maxRecDepth 100000
set_option maxHeartbeats 4000000
namespace My
open PySem PySem.Spec PyProof.Rows L2

theorem lock_same {H H' : Hp} {d : Addr} {od : Obj} {u : HO} (s : Same (upd H d (.frz od u)) H') (e : H d = some u) : Same H (upd H' d u) := by
  intro b o q
  by_cases hb : b = d
  · subst hb
    rw [e] at q
    cases q
    exact upd_same
  · rw [upd_ne hb]
    exact s b o ((upd_ne hb).trans q)
theorem for_items {d : Addr} {od : Obj} {kvs : List (Key × V)} {g : TG} {tb : TS} {D : Ends} {σ : L2.St} {H : Hp} (Pv : Nat → L2.St → Hp → Prop)
    (h0 : Pv 0 σ H) (hl : ∀ i σ H, i ≤ kvs.length → Pv i σ H → H d = some (.frz od (.dK kvs)))
    (hs : ∀ i k v T σ H, kvs[i]? = some (k, v) → Pv i σ H → H T = none → g (.ref T) σ (upd H T (.tup [kV k, v])) fun σ2 H2 =>
      tb { D with nx := Pv (i + 1), ct := Pv (i + 1), bk := D.nx } σ2 H2)
    (hd : ∀ σ H, Pv kvs.length σ H → D.nx σ H) :
    ∃ W : Nat → Nat → L2.St → Hp → Prop, (∃ m, W 0 m σ H) ∧ ∀ i m σ H, W i m σ H → ((Iti d od kvs).stop i H ∧ D.nx σ H) ∨
      ((Iti d od kvs).go i H ∧ ∃ N : L2.St → Hp → Prop, (∀ σ' H', N σ' H' → ∃ m', m' < m ∧ W (i + 1) m' σ' H') ∧
        ∀ x H', (Iti d od kvs).yld i H x H' → g x σ H' fun σ2 H2 => tb { D with nx := N, ct := N, bk := D.nx } σ2 H2) := by
  refine ⟨fun i m σ H => i ≤ kvs.length ∧ m + i = kvs.length ∧ Pv i σ H, ⟨kvs.length, Nat.zero_le _, rfl, h0⟩, ?_⟩
  rintro i m σ H ⟨hi, hm, p⟩
  have q := hl i σ H hi p
  by_cases l : i < kvs.length
  · right
    refine ⟨⟨q, l⟩, Pv (i + 1), fun σ' H' z => ⟨m - 1, by omega, by omega, by omega, z⟩, ?_⟩
    rintro x H' ⟨T, k, v, e, rfl, hT, rfl⟩
    exact hs i k v T σ H e p hT
  · left
    obtain rfl : i = kvs.length := by omega
    exact ⟨⟨q, Nat.le_refl _⟩, hd σ H p⟩
theorem dc_items {d : Addr} {od : Obj} {kvs : List (Key × V)} {g : TG} {tt : TT} {tk tv : TE} {vs : List Nat} {σ : L2.St} {H1 : Hp} {D : Addr} {Qd : Hp → Prop}
    (Pv : Nat → Hp → Prop) (h0 : Pv 0 (upd H1 D (.dK []))) (hl : ∀ i H, i ≤ kvs.length → Pv i H → H d = some (.frz od (.dK kvs)))
    (hs : ∀ i k v T H, kvs[i]? = some (k, v) → Pv i H → H T = none → g (.ref T) (wipe σ vs) (upd H T (.tup [kV k, v])) fun σ2 H2 =>
      wipe σ2 vs = wipe σ vs ∧ tt σ2 H2 fun b H3 => if b = true then tk σ2 H3 fun y H4 => tv σ2 H4 fun z H5 => ∃ kvs k, y = kV k ∧
        H5 D = some (.dK kvs) ∧ kvs.length < sizeLine ∧ Pv (i + 1) (upd H5 D (.dK (putK kvs k z))) else Pv (i + 1) H3)
    (hd : ∀ H, Pv kvs.length H → Qd H) :
    ∃ W : Nat → Nat → Hp → Prop, (∃ m, W 0 m (upd H1 D (.dK []))) ∧ ∀ i m H, W i m H → ((Iti d od kvs).stop i H ∧ Qd H) ∨
      ((Iti d od kvs).go i H ∧ ∃ Nx : Hp → Prop, (∀ H', Nx H' → ∃ m', m' < m ∧ W (i + 1) m' H') ∧
        ∀ x H', (Iti d od kvs).yld i H x H' → g x (wipe σ vs) H' fun σ2 H2 => wipe σ2 vs = wipe σ vs ∧ tt σ2 H2 fun b H3 =>
          if b = true then tk σ2 H3 fun y H4 => tv σ2 H4 fun z H5 => ∃ kvs k, y = kV k ∧ H5 D = some (.dK kvs) ∧ kvs.length < sizeLine ∧
            Nx (upd H5 D (.dK (putK kvs k z))) else Nx H3) := by
  refine ⟨fun i m H => i ≤ kvs.length ∧ m + i = kvs.length ∧ Pv i H, ⟨kvs.length, Nat.zero_le _, rfl, h0⟩, ?_⟩
  rintro i m H ⟨hi, hm, p⟩
  have q := hl i H hi p
  by_cases l : i < kvs.length
  · right
    refine ⟨⟨q, l⟩, Pv (i + 1), fun H' z => ⟨m - 1, by omega, by omega, by omega, z⟩, ?_⟩
    rintro x H' ⟨T, k, v, e, rfl, hT, rfl⟩
    exact hs i k v T H e p hT
  · left
    obtain rfl : i = kvs.length := by omega
    exact ⟨⟨q, Nat.le_refl _⟩, hd H p⟩

def ents (es : List (Int × Str)) : List (Key × V) := es.map fun p => (Sum.inl p.1, V.str p.2)
def keys (es : List (Int × Str)) : List Int := es.map (·.1)
theorem ents_len (es : List (Int × Str)) : (ents es).length = es.length := List.length_map _
theorem ents_app (xs ys : List (Int × Str)) : ents (xs ++ ys) = ents xs ++ ents ys := List.map_append
theorem ents_at {es : List (Int × Str)} {i : Nat} {k : Key} {v : V} (h : (ents es)[i]? = some (k, v)) : ∃ n x, es[i]? = some (n, x) ∧ k = .inl n ∧ v = .str x := by
  unfold ents at h
  rw [List.getElem?_map] at h
  cases e : es[i]? with
  | none => rw [e] at h; cases h
  | some p =>
    rw [e] at h
    cases h
    exact ⟨p.1, p.2, rfl, rfl, rfl⟩
def look (es : List (Int × Str)) (k : Int) : Option Str := (es.find? fun p => decide (p.1 = k)).map (·.2)
theorem look_nil (k : Int) : look [] k = none := rfl
theorem look_cons (p : Int × Str) (es : List (Int × Str)) (k : Int) : look (p :: es) k = if p.1 = k then some p.2 else look es k := by
  unfold look
  rw [List.find?_cons]
  by_cases e : p.1 = k
  · rw [if_pos e, decide_eq_true e]; rfl
  · rw [if_neg e, decide_eq_false e]
theorem valV_ents (k : Int) : ∀ es : List (Int × Str), valV (ents es) (.inl k) = (look es k).map V.str
  | [] => rfl
  | p :: es => by
    rw [look_cons]
    show valV ((Sum.inl p.1, V.str p.2) :: ents es) (.inl k) = _
    by_cases e : p.1 = k
    · rw [valV_pos (show (Sum.inl p.1 : Key) = .inl k by rw [e]), if_pos e]; rfl
    · rw [valV_neg (show ¬ (Sum.inl p.1 : Key) = .inl k from fun z => e (Sum.inl.inj z)), if_neg e, valV_ents k es]
theorem look_none {es : List (Int × Str)} {k : Int} : look es k = none ↔ k ∉ keys es := by
  induction es with
  | nil => exact ⟨fun _ => List.not_mem_nil, fun _ => rfl⟩
  | cons p es ih =>
    rw [look_cons]
    unfold keys at ih ⊢
    rw [List.map_cons, List.mem_cons, not_or]
    by_cases e : p.1 = k
    · rw [if_pos e]
      exact ⟨fun z => (nomatch z), fun z => absurd e.symm z.1⟩
    · rw [if_neg e, ih]
      exact ⟨fun z => ⟨fun q => e q.symm, z⟩, fun z => z.2⟩
theorem look_some {es : List (Int × Str)} {k : Int} : (look es k).isSome = true ↔ k ∈ keys es := by
  cases e : look es k with
  | none =>
    refine ⟨fun z => ?_, fun z => absurd z (look_none.mp e)⟩
    cases z
  | some x =>
    refine ⟨fun _ => Decidable.byContradiction fun n => ?_, fun _ => rfl⟩
    rw [look_none.mpr n] at e
    cases e
theorem put_new {es : List (Int × Str)} {k : Int} {x : Str} (h : k ∉ keys es) : putK (ents es) (.inl k) (.str x) = ents (es ++ [(k, x)]) := by
  unfold putK
  rw [valV_any, valV_ents, look_none.mpr h, if_neg (by simp), ents_app]
  rfl
end My
set_option Elab.async false
set_option maxRecDepth 100000
set_option maxHeartbeats 4000000
namespace My
open PySem PySem.Spec PyProof.Rows L2

section
open PySem.W
variable {prog : Program} {w : World} {A : Around} {E : Value → Shared → Prop} {s : Shared} {K : Frag} {x C f : Addr} {ox : Obj} {od : Option Obj} {b : Value}
theorem one_bool {M : Model} {A : Around} {E : Value → Shared → Prop} {Q : Fin → Shared → Prop} {c : Bool} {s : Shared} (h : Q (.done (.ret (.bool (!c)))) s) :
    wpAny M A (do ret (.bool (!(← truthy (.bool c))))) Q E s := by
  unfold truthy
  refine wpAny_bind (wpAny_pure ?_)
  exact wpAny_pure h
theorem one_ne (X : K.In s.heap) (I : InstAt s.heap x ox C od) (hs : findIn K (.ref C) "__eq__" = some (some (.ref f))) (hf : isFn K (.ref f) = true) (hu : A.units < cLine) {Q : Fin → Shared → Prop}
    (h : wpAny (model prog w) A (call (.ref f) [.ref x, b]) (fun v s' => ∃ c, v = .bool c ∧ Q (.done (.ret (.bool (!c)))) s') E s) :
    wpAny (model prog w) A (Builtin.«object.__ne__» ⟨[.ref x, b], []⟩) Q E s := by
  unfold Builtin.«object.__ne__»
  show wpAny _ _ (cRoomFor "comparison" [.ref x, b] >>= fun _ => callSpecialIfBound? (.ref x) "__eq__" [b] >>= _) _ _ _
  refine wpAny_bind (wpAny_cRoomFor hu ?_)
  refine wpAny_bind (ifBound_K X I hs hf (wpAny_mono h (fun v s' hv => ?_) fun _ _ e => e))
  obtain ⟨c, rfl, q⟩ := hv
  exact one_bool q
theorem ne_own (hu : A.units + 1 < cLine) (X : K.In s.heap) (I : InstAt s.heap x ox C od) {tb : Value} (hb : Looks (model prog w) s.heap (typeOf b) tb) (hn : notFirst K C tb = true)
    (ht : mroIn K C (.type "object") = some true)
    (hd : findIn K (.ref C) "__ne__" = some (some (.builtin "object.__ne__"))) (hs : findIn K (.ref C) "__eq__" = some (some (.ref f))) (hf : isFn K (.ref f) = true) {Q : Value → Shared → Prop}
    (h : wpAny (model prog w) A.in1 (call (.ref f) [.ref x, b]) (fun v s' => ∃ c, v = .bool c ∧ Q (.bool (!c)) s') E s) :
    wpAny (model prog w) A (compareOp .NotEq (.ref x) b) Q E s := by
  have one : wpAny (model prog w) A (tryCompare (.ref x) "__ne__" b) (fun r s' => ∃ v, r = some v ∧ Q v s') E s := by
    unfold tryCompare
    refine wpAny_bind ?_
    simp only [callSpecialIfBound?, bindSpecialIfBound?]
    refine wpAny_holding (wpAny_bind (wpAny_bind (wpAny_bind (I.type.here ((looks_findIn X hd).here ?_)))))
    refine wpAny_bind (wpAny_askSetting (wpAny_ite ?_))
    have L : Looks (model prog w) s.heap (isInstance (.ref x) (.type "object")) true := I.type.andThen (looks_mroIn X ht)
    have bnd := PySem.F.cmp_object.ne.bind (.ref x)
    split
    rotate_left
    refine wpAny_tryCatch ?_
    all_goals
      refine wpAny_bind ?_
      rw [bnd]
      refine wpAny_pure (wpAny_pure (wpAny_bind (wpAny_call (codeAny_call_builtin PySem.F.cmp_object.ne.plain F.cmpEntry_ne
        (@PySem.W.check_slot (model prog w) _ _ _ "object.__ne__" "object" "__ne__" (.ref x) [b] [] _ F.cmpKind_ne F.cmpSplit_ne L (F.cmpArgs_ne _ _) ?_)))))
      refine one_ne (A := A.in1) X I hs hf hu (wpAny_mono h (fun y s' hy => ?_) fun _ _ z => z)
      obtain ⟨c, rfl, q⟩ := hy
      exact ⟨c, rfl, wpAny_pure (wpAny_pure ⟨_, rfl, q⟩)⟩
  show wpAny _ _ (richCompare .NotEq (.ref x) b) _ _ _
  unfold richCompare
  simp only [oneThing_ref]
  refine wpAny_holding (wpAny_bind (wpAny_cRoomFor (Nat.lt_of_succ_lt hu) ?_))
  refine wpAny_bind (I.type.here ?_)
  refine wpAny_bind (hb.here ?_)
  rw [PySem.cmpInfo_NotEq]
  dsimp only
  have last : ∀ {f : Option Value → Sem Value}, (∀ v, f (some v) = pure v) → wpAny (model prog w) A (tryCompare (.ref x) "__ne__" b >>= f) Q E s := by
    intro f hf2
    refine wpAny_bind (wpAny_mono one (fun y s' hy => ?_) fun _ _ z => z)
    obtain ⟨v, rfl, q⟩ := hy
    rw [hf2]
    exact wpAny_pure q
  split
  · rename_i q
    have no : subIn K tb (.ref C) = some false := by
      cases hq : tb == .ref C with
      | true => rw [beq_iff_eq.mp hq] at q; simp at q
      | false =>
        unfold notFirst at hn
        rw [hq, Bool.false_or] at hn
        exact beq_iff_eq.mp hn
    refine wpAny_bind ((looks_subIn X no).here ?_)
    rw [if_neg (by simp)]
    exact last fun _ => rfl
  · refine wpAny_bind (wpAny_pure (a := false) ?_)
    rw [if_neg (by simp)]
    exact last fun _ => rfl
end
section
variable {X : Cx}

def rEq1 (C : Addr) (sp : Sp) (neg : Bool) : R2 := fun x y H Q => ∃ a b dx fs dy gs, x = .ref a ∧ y = .ref b ∧ H a = some (.ins C dx fs) ∧
  H b = some (.ins C dy gs) ∧ sp [x, y] H (fun v H' => ∃ c, v = .bl c ∧ Q (.bl (if neg = true then !c else c)) H') E0
theorem op_ownEq {C : Addr} {k : Nat} {ps : List Str} {sp : Sp} (O : OwnOp X C "__eq__" k ps sp) (hr : Room k X.A) (hu : X.A.units < cLine) :
    OpR X (compareOp .Eq) (rEq1 C sp false) := by
  intro pins s σ H x y v u Q I rx ry h
  obtain ⟨a, b, dx, fs, dy, gs, rfl, rfl, ha, hb, q⟩ := h
  cases rx; cases ry
  obtain ⟨f, fd, hs, hf, F, bd⟩ := O.ex
  obtain ⟨m, Fr⟩ := fr_of I
  obtain ⟨ox, od, J⟩ := inst_of I ha
  obtain ⟨oy, oe, J2⟩ := inst_of I hb
  show wpAny _ _ (richCompare .Eq _ _) _ _ _
  refine PySem.W.cmp_K hu Fr I.ok.mod.kin J J2.type (by unfold PySem.W.notFirst; simp) hs hf ?_
  refine thn (run_fn (us := [.ref a, .ref b]) (vs := [.ref a, .ref b]) F hr bd .nil pass0 I (.cons rfl (.cons rfl .nil)) q) ?_
  rintro u s' ⟨_, H', I', r, c, rfl, z⟩
  cases r
  exact ⟨.bl c, H', I', rfl, z⟩
theorem op_ownNe {C : Addr} {k : Nat} {ps : List Str} {sp : Sp} (O : OwnOp X C "__eq__" k ps sp) (hr : Room (k + 1) X.A) (hu : X.A.units + 1 < cLine)
    (ht : PySem.W.mroIn X.K C (.type "object") = some true)
    (hd : PySem.W.findIn X.K (.ref C) "__ne__" = some (some (.builtin "object.__ne__"))) :
    OpR X (compareOp .NotEq) (rEq1 C sp true) := by
  intro pins s σ H x y v u Q I rx ry h
  obtain ⟨a, b, dx, fs, dy, gs, rfl, rfl, ha, hb, q⟩ := h
  cases rx; cases ry
  obtain ⟨f, fd, hs, hf, F, bd⟩ := O.ex
  obtain ⟨m, Fr⟩ := fr_of I
  obtain ⟨ox, od, J⟩ := inst_of I ha
  obtain ⟨oy, oe, J2⟩ := inst_of I hb
  refine ne_own hu I.kIn J J2.type (by unfold PySem.W.notFirst; simp) ht hd hs hf ?_
  refine thn (run_in1 (us := [.ref a, .ref b]) (vs := [.ref a, .ref b]) F hr bd I (.cons rfl (.cons rfl .nil)) q) ?_
  rintro u s' ⟨_, H', I', r, c, rfl, z⟩
  cases r
  exact ⟨c, rfl, .bl (!c), H', I', rfl, z⟩
end
end My
set_option Elab.async false
set_option maxRecDepth 100000
set_option maxHeartbeats 4000000
namespace My
open PySem PySem.Spec PyProof.Rows L2



def laid (d : PyData) : Prop := d.canLay0 = true ∨ ∃ kvs, d = .dict kvs
def sm (d : PyData) : Prop := d.weight ≤ 100000 ∧ laid d
def mWhole : PyData → Bool
  | .int _ => true
  | _ => false
def between (a b : Int) : PyData → Bool
  | .int i => decide (a ≤ i) && decide (i ≤ b)
  | _ => false
def mKey (d : PyData) : Bool := between 0 999999 d
def mVal (d : PyData) : Bool := between (1 - 10 ^ 40) (10 ^ 40 - 1) d
def abc : Str := "abcdefghijklmnopqrstuvwxyz"
def nameOk (x : Str) : Bool := decide (1 ≤ x.length ∧ x.length ≤ 4) && !(inV (.str x) [.str "keys", .str "look", .str "self"]) &&
  x.cps.toList.all fun c => decide (c ∈ abc.cps.toList)
def mName : PyData → Bool
  | .str x => nameOk x
  | _ => false
def mEl : PyData → Bool
  | .tuple [k, f] => mKey k && mName f
  | _ => false
def mEnt : PyData → Bool
  | .tuple [k, f, v] => mKey k && (mName f && mVal v)
  | _ => false

def spIs (K : PySem.W.Frag) (m : PyData → Bool) : Sp := fun vs H Q _ => ∃ v d, vs = [v] ∧ Dx K H v d ∧ sm d ∧ ∀ H', Same H H' → Q (.bl (m d)) H'
def spBetween (K : PySem.W.Frag) : Sp := fun vs H Q _ => ∃ v d a b, vs = [v, .int a, .int b] ∧ Dx K H v d ∧ Q (.bl (between a b d)) H
def okB (d : PyData) : Bool := d.showable && (d.leavesShort 100 && (decide (d.weight ≤ 1000) && (decide (d.depth ≤ 10) && d.canLay0)))
def okT (d : PyData) : Prop := d.showable = true ∧ d.leavesShort 100 = true ∧ d.weight ≤ 10000 ∧ d.depth ≤ 30 ∧ laid d
def okD (d : PyData) : Prop := d.showable = true ∧ d.leavesShort 100 = true ∧ d.weight ≤ 1000 ∧ d.depth ≤ 10
def spWord : Sp := fun vs H Q _ => ∃ (a : Addr) (n : Nat), vs = [.ref a] ∧ Bag H a n ∧ n < 10000 ∧
  ∀ (x : Str) (H' : Hp), okB (.str x) = true → Same (del a H) (del a H') → Bag H' a (n + 2) → Q (.str x) H'
def spNumber (K : PySem.W.Frag) : Sp := fun vs H Q _ => ∃ (a : Addr) (n : Nat), vs = [.ref a] ∧ Bag H a n ∧ n < 10000 ∧
  ∀ (v : V) (d : PyData) (H' : Hp), Dp K (del a H') v d → okB d = true → Same (del a H) (del a H') → Bag H' a (n + 2) → Q v H'
def spThing (K : PySem.W.Frag) : Sp := fun vs H Q _ => ∃ (a : Addr) (n : Nat), vs = [.ref a] ∧ Bag H a n ∧ n < 9000 ∧
  ∀ (v : V) (d : PyData) (H' : Hp), Dx K H' v d → okT d → Same (del a H) (del a H') → Bag H' a (n + 8) → Q v H'
def spLaw (K : PySem.W.Frag) : Sp := fun vs H Q _ => ∃ (a : Addr) (ns : List Int), vs = [.ref a] ∧ SqL K H a (ns.map V.int) ∧ ns.length ≤ 63 ∧ ∀ H', Q (.bl true) H'
theorem sqT_len {K : PySem.W.Frag} {H : Hp} : ∀ {vs : List V} {ds : List PyData}, DpAll K H vs ds → vs.length = ds.length
  | _, _, .nil => rfl
  | _, _, .cons _ r => by rw [List.length_cons, List.length_cons, sqT_len r]
theorem dx_tuple {K : PySem.W.Frag} {H : Hp} {v : V} {ds : List PyData} (h : Dx K H v (.tuple ds)) : ∃ a vs, v = .ref a ∧ SqT K H a vs ∧ DpAll K H vs ds := by
  cases h with
  | of h => cases h with | tup h1 h2 => exact ⟨_, _, rfl, h1, h2⟩
theorem dx_str {K : PySem.W.Frag} {H : Hp} {v : V} {x : Str} (h : Dx K H v (.str x)) : v = .str x := by
  cases h with
  | of h => cases h; rfl
theorem dx_int {K : PySem.W.Frag} {H : Hp} {v : V} {i : Int} (h : Dx K H v (.int i)) : v = .int i := by
  cases h with
  | of h => cases h; rfl
theorem rd_isi {K : PySem.W.Frag} {i : Nat} {σ : L2.St} {H : Hp} {v : V} {d : PyData} {T : String} {Q : VK} (hσ : σ[i]? = some (some v)) (hx : Dx K H v d)
    (hT : T = "int" ∨ T = "bool" ∨ T = "str" ∨ T = "tuple" ∨ T = "list" ∨ T = "dict") (q : Q (.bl (isD T d)) H) :
    tCB (rIsi K) (tCons (tVar i) (tCons (tC (.ty T)) tNil)) σ H Q := ⟨v, hσ, isi_of hx hT q⟩
theorem isNot (b : Bool) : (if (!b) = true then true else false) = !b := by cases b <;> rfl

theorem take_snoc {xs : Array Nat} {i c : Nat} (h : xs[i]? = some c) : xs.toList.take (i + 1) = xs.toList.take i ++ [c] := by
  rw [List.take_add_one]
  have e : xs.toList[i]? = some c := by rw [Array.getElem?_toList]; exact h
  rw [e]
  rfl
def inAbc (c : Nat) : Bool := decide (c ∈ abc.cps.toList)
theorem len_le {x : Str} (h : sm (.str x)) : x.length ≤ 100000 := h.1
theorem laid_str {x : Str} (h : laid (.str x)) : ∀ c ∈ x.cps.toList, c < 0x110000 := by
  rcases h with h | ⟨_, h⟩
  · intro c hc
    have h2 : x.cps.all (· < 0x110000) = true := h
    rw [Array.all_eq_true'] at h2
    simpa using h2 c (by simpa using hc)
  · cases h
theorem laid_tup {ds : List PyData} (h : laid (.tuple ds)) : ∀ d ∈ ds, laid d := by
  rcases h with h | ⟨_, h⟩
  · have h2 : PyData.canLayAll0 ds = true := h
    intro d hd
    left
    induction ds with
    | nil => cases hd
    | cons a r ih =>
      rw [PyData.canLayAll0, Bool.and_eq_true] at h2
      rcases List.mem_cons.mp hd with rfl | hd
      · exact h2.1
      · exact ih h2.2 h2.2 hd
  · cases h
theorem size_ok {n : Nat} (h : n ≤ 1000000) : n ≤ sizeLine := Nat.le_trans h (by decide)
theorem size_lt {n : Nat} (h : n ≤ 1000000) : n < sizeLine := Nat.lt_of_le_of_lt h (by decide)
theorem all_ids (l : List Nat) (p : Nat → Bool) : (l.map p).all id = l.all p := by
  induction l with
  | nil => rfl
  | cons a r ih => rw [List.map_cons, List.all_cons, List.all_cons, ih]; rfl

theorem inV_14 (n : Nat) : inV (.int n) [.int 1, .int 2, .int 3, .int 4] = decide (1 ≤ n ∧ n ≤ 4) := by
  match n with
  | 0 => rfl
  | 1 => rfl
  | 2 => rfl
  | 3 => rfl
  | 4 => rfl
  | k + 5 =>
    rw [decide_eq_false (by omega)]
    simp only [inV, eqV, List.any_cons, List.any_nil, Bool.or_false, Bool.or_eq_false_iff, beq_eq_false_iff_ne, ne_eq]
    omega
def chars (l : List Nat) : List PyData := l.map fun c => .str ⟨#[c]⟩
theorem dp_chars {K : PySem.W.Frag} {H : Hp} : ∀ l : List Nat, DpAll K H (l.map fun c => V.str ⟨#[c]⟩) (chars l)
  | [] => .nil
  | c :: r => .cons (.str _) (dp_chars r)
theorem lay_chars : ∀ l : List Nat, (∀ c ∈ l, c < 0x110000) → PyData.canLayAll0 (chars l) = true
  | [], _ => rfl
  | c :: r, h => by
    show (PyData.canLay0 (.str ⟨#[c]⟩) && PyData.canLayAll0 (chars r)) = true
    rw [lay_chars r fun x hx => h x (List.mem_cons_of_mem _ hx), Bool.and_true]
    show (#[c].all fun x => decide (x < 0x110000)) = true
    simpa using h c List.mem_cons_self
theorem deep_chars : ∀ l : List Nat, PyData.depthAll (chars l) = 0
  | [] => rfl
  | c :: r => by
    show max (PyData.depth (.str ⟨#[c]⟩)) (PyData.depthAll (chars r)) = 0
    rw [deep_chars r]
    rfl
theorem shaped_chars (l : List Nat) (h : ∀ c ∈ l, c < 0x110000) : SeqAt.shaped (.list (chars l)) = true := by
  show (PyData.canLayAll0 (chars l) && decide (PyData.depthAll (chars l) + 1 ≤ 64)) = true
  rw [lay_chars l h, deep_chars]
  rfl
theorem eqv_nil (l : List Nat) : PyData.eqv (.list (chars l)) (.list []) = l.isEmpty := by
  cases l with
  | nil => rfl
  | cons c r => rfl
theorem filter_empty (l : List Nat) (p : Nat → Bool) : (l.filter fun c => !p c).isEmpty = l.all p := by
  induction l with
  | nil => rfl
  | cons a r ih =>
    rw [List.filter_cons, List.all_cons]
    cases p a with
    | true => simpa using ih
    | false => rfl

theorem okD_of {d : PyData} (h : okB d = true) : okD d ∧ d.canLay0 = true := by
  unfold okB at h
  simp only [Bool.and_eq_true, decide_eq_true_eq] at h
  exact ⟨⟨h.1, h.2.1, h.2.2.1, h.2.2.2.1⟩, h.2.2.2.2⟩
def words : List Str := ["a", "z", "ab", "keyz", "key", "look", "keys", "self", "seld", "looks", "abcde", "", "A", "aB", "a1", "a b", "a\n", " a", "a_", "loo", "zzzz"]
theorem words_ok : words.all (fun x => okB (.str x)) = true := by decide +kernel
theorem xs_ok : ∀ n, n < 7 → okB (.str (repS "x" n)) = true := by decide +kernel
def nums : List V := [.int 0, .int 1, .int 999999, .int 1000000, .int (-1), .bl true, .bl false, .non, .str "1", .int (10 ^ Int.toNat 40 - 1), .int (1 - 10 ^ Int.toNat 40), .int 999998]
theorem nums_ok : nums.all (fun v => match flatD v with | some d => okB d | none => false) = true := by decide +kernel
theorem dp_flat {K : PySem.W.Frag} {H : Hp} {v : V} {d : PyData} (h : flatD v = some d) : Dp K H v d := by
  cases v with
  | non => cases h; exact .non
  | bl b => cases h; exact .bl b
  | int i => cases h; exact .int i
  | str x => cases h; exact .str x
  | byt b => cases h
  | flt b => cases h
  | ref a => cases h
  | ty n => cases h
theorem small_int {i : Int} (h0 : 0 ≤ i) (h1 : i < 1000000) : okB (.int i) = true := by
  unfold okB
  have a1 : i.natAbs < 10 ^ 12 := by omega
  have a2 : i.natAbs.log2 < 1920 := log2_small (by
    have : (1000000 : Nat) < 2 ^ 1920 := by decide
    omega)
  have a3 := PyData.shown_int_le a1
  have a4 : (PyData.int i).weight ≤ 1000 := by
    show (if i == 0 then 0 else i.natAbs.log2 + 1) ≤ 1000
    have : i.natAbs.log2 < 20 := by
      by_cases e : i.natAbs = 0
      · rw [e]; decide
      · exact (Nat.log2_lt e).mpr (by omega)
    split <;> omega
  have b1 : (PyData.int i).showable = true := by simp only [PyData.showable]; exact decide_eq_true a2
  have b2 : (PyData.int i).leavesShort 100 = true := by simp only [PyData.leavesShort]; exact decide_eq_true (by omega)
  rw [b1, b2, decide_eq_true a4]
  rfl

def okP (W D : Nat) (d : PyData) : Prop := d.showable = true ∧ d.leavesShort 100 = true ∧ d.weight ≤ W ∧ d.depth ≤ D ∧ d.canLay0 = true
theorem okP_of {d : PyData} (h : okB d = true) : okP 1000 10 d :=
  let ⟨⟨h1, h2, h3, h4⟩, h5⟩ := okD_of h
  ⟨h1, h2, h3, h4, h5⟩
theorem okP_all {W D : Nat} : ∀ {ds : List PyData}, (∀ d ∈ ds, okP W D d) → PyData.showableAll ds = true ∧ PyData.leavesShortAll 100 ds = true ∧
    PyData.weightAll ds ≤ ds.length * (W + 1) ∧ PyData.depthAll ds ≤ D ∧ PyData.canLayAll0 ds = true
  | [], _ => ⟨rfl, rfl, Nat.zero_le _, Nat.zero_le _, rfl⟩
  | d :: r, h => by
    obtain ⟨a1, a2, a3, a4, a5⟩ := h d List.mem_cons_self
    obtain ⟨b1, b2, b3, b4, b5⟩ := okP_all (W := W) (D := D) fun x hx => h x (List.mem_cons_of_mem _ hx)
    refine ⟨?_, ?_, ?_, ?_, ?_⟩
    · rw [PyData.showableAll, a1, b1]; rfl
    · rw [PyData.leavesShortAll, a2, b2]; rfl
    · rw [PyData.weightAll, List.length_cons, Nat.succ_mul]; omega
    · rw [PyData.depthAll]; exact Nat.max_le.mpr ⟨a4, b4⟩
    · rw [PyData.canLayAll0, a5, b5]; rfl
theorem okP_list {W D W' D' : Nat} {ds : List PyData} (h : ∀ d ∈ ds, okP W D d) (hw : ds.length * (W + 1) ≤ W') (hd : D + 1 ≤ D') : okP W' D' (.list ds) := by
  obtain ⟨b1, b2, b3, b4, b5⟩ := okP_all h
  refine ⟨?_, ?_, Nat.le_trans b3 hw, ?_, b5⟩
  · rw [PyData.showable]; exact b1
  · rw [PyData.leavesShort]; exact b2
  · rw [PyData.depth]; omega
theorem okP_tup {W D W' D' : Nat} {ds : List PyData} (h : ∀ d ∈ ds, okP W D d) (hw : ds.length * (W + 1) ≤ W') (hd : D + 1 ≤ D') : okP W' D' (.tuple ds) := by
  obtain ⟨b1, b2, b3, b4, b5⟩ := okP_all h
  refine ⟨?_, ?_, Nat.le_trans b3 hw, ?_, b5⟩
  · rw [PyData.showable]; exact b1
  · rw [PyData.leavesShort]; exact b2
  · rw [PyData.depth]; omega
theorem okT_of {d : PyData} (h : okP 10000 30 d) : okT d := ⟨h.1, h.2.1, h.2.2.1, h.2.2.2.1, .inl h.2.2.2.2⟩
theorem okP_mono {W D W' D' : Nat} {d : PyData} (h : okP W D d) (hw : W ≤ W') (hd : D ≤ D') : okP W' D' d :=
  ⟨h.1, h.2.1, Nat.le_trans h.2.2.1 hw, Nat.le_trans h.2.2.2.1 hd, h.2.2.2.2⟩
theorem okT_dict {w : Str} (h : okB (.str w) = true) : okT (.dict [(.int 0, .str w)]) := by
  obtain ⟨a1, a2, a3, a4, a5⟩ := okP_of h
  refine ⟨?_, ?_, ?_, ?_, .inr ⟨_, rfl⟩⟩
  · rw [PyData.showable, PyData.showableKv, a1]
    rw [show PyData.showable (.int 0) = true by decide +kernel]
    rfl
  · rw [PyData.leavesShort, PyData.leavesShortKv, a2]
    rw [show PyData.leavesShort 100 (.int 0) = true by decide +kernel]
    rfl
  · rw [PyData.weight, PyData.weightKv, show PyData.weight (.int 0) = 0 from rfl, PyData.weightKv]; omega
  · rw [PyData.depth, PyData.depthKv, show PyData.depth (.int 0) = 0 from rfl, PyData.depthKv, show PyData.depth (.str w) = 0 from rfl]; decide
theorem okP_int0 : okP 1000 10 (.int 0) := okP_of (by decide +kernel)

theorem okT_len {d : PyData} (h : okT d) : d.shown.length ≤ sizeLine := by
  have a := PyData.shown_le 100 (by decide) d h.2.1
  have b : (100 + 2) * d.weight + 100 ≤ 102 * 10000 + 100 := by have := h.2.2.1; omega
  exact Nat.le_trans a (Nat.le_trans b (by decide))
theorem okT_sm {d : PyData} (h : okT d) : sm d := ⟨by have := h.2.2.1; omega, h.2.2.2.2⟩
theorem ok_bools (a b c : Bool) : okT (.list [.bool a, .bool b, .bool c]) := okT_of (okP_list (W := 1000) (D := 10) (by
  intro d hd
  simp only [List.mem_cons, List.not_mem_nil, or_false] at hd
  rcases hd with rfl | rfl | rfl
  · cases a <;> exact okP_of (by decide +kernel)
  · cases b <;> exact okP_of (by decide +kernel)
  · cases c <;> exact okP_of (by decide +kernel)) (by simp) (by decide))

end My
set_option Elab.async false
set_option maxRecDepth 100000
set_option maxHeartbeats 4000000
namespace My
open PySem PySem.Spec PyProof.Rows L2

structure FunV (K : PySem.W.Frag) (x qual : Str) (st : Stmt) (dV : Value) (f : Addr) (fd : FuncData) : Prop where
  ex : ∃ (oc : Value) (od : Option Addr) (kV doc pm : Value) (an : Option Addr) (cdv ct : Value) (osl : Array (Option Value)),
    fd = PySem.W.fnOf x qual (defArgs st) (defBody st) (defScope st) dV kV doc pm an cdv ct ∧ K.lookup f = some ⟨oc, od, .func fd, osl⟩ ∧ PySem.W.codeIn K cdv qual = true
section
variable {P : Program} {w : World} {K : PySem.W.Frag} {mg : Str → Option Value} {base : Heap} {x qual : Str} {st : Stmt} {f : Addr} {fd : FuncData} {dV : Value}
theorem funV_mk {oc : Value} {od an : Option Addr} {osl : Array (Option Value)} {kV doc pm cdv ct : Value}
    (l : K.lookup f = some ⟨oc, od, .func (PySem.W.fnOf x qual (defArgs st) (defBody st) (defScope st) dV kV doc pm an cdv ct), osl⟩) (c : PySem.W.codeIn K cdv qual = true) :
    FunV K x qual st dV f (PySem.W.fnOf x qual (defArgs st) (defBody st) (defScope st) dV kV doc pm an cdv ct) := ⟨⟨oc, od, kV, doc, pm, an, cdv, ct, osl, rfl, l, c⟩⟩
theorem FunV.ok {N ps : List Str} {k : Nat} {sp : Sp} (F : FunV K x qual st dV f fd) (S : FnScope N ps (defScope st))
    (len : ∀ vs H Q E, sp vs H Q E → vs.length = ps.length)
    (hbody : ∀ (cdv : Value) (A : Around) (outer : List Env) (s : Shared) (H : Hp) (vs : List V) (Q : VK) (E : XK), Room k (A.deeper (envOfC qual (defScope st) s.heap.objs.size f cdv)) → sp vs H Q E →
      ∃ t, PSs (cxOf CX0 P w K mg base N qual (defScope st) f cdv A outer s H E).nox (defBody st) t ∧ t { nx := fun _ H' => Q .non H', rt := Q } (start N vs) H) : FnOk P w K mg base CX0 (k + 1) f fd ps sp := by
  obtain ⟨oc, od, kV, doc, pm, an, cdv, ct, osl, rfl, lk, hcd⟩ := F.ex
  refine fn_of lk hcd S len fun A outer s H vs Q E hr hsp => ?_
  obtain ⟨t, h, q⟩ := hbody cdv A outer s H vs Q E hr hsp
  exact ⟨t, h.nox, q⟩

theorem FunV.binds1 {t : Addr} {o : Obj} {v : Value} {m : Nat} {ps : List Str} {n : Nat} (F : FunV K x qual st (.ref t) f fd) (lt : K.lookup t = some o) (ot : o.data = .seq #[v] m) (hn : n + 1 = ps.length)
    (h : ∀ (kV doc pm : Value) (an : Option Addr) (cdv ct : Value) (us : List Value), us.length = n →
      ∃ k, bindArgs (PySem.W.fnOf x qual (defArgs st) (defBody st) (defScope st) (.ref t) kV doc pm an cdv ct) ⟨us, []⟩ = seqItems? (.ref t) >>= k ∧ k (some #[v]) = pure (ps.zip (us ++ [v]))) : Binds K fd ps [v] := by
  obtain ⟨oc, od, kV, doc, pm, an, cdv, ct, osl, rfl, lk, hcd⟩ := F.ex
  intro s us X hlen
  have l2 : us.length = n := by
    rw [List.length_append, List.length_singleton] at hlen
    omega
  obtain ⟨k, e1, e2⟩ := h kV doc pm an cdv ct us l2
  refine BindsTo.of_looks fun M => ?_
  rw [e1]
  exact looks_items X lt ot (.of_pure e2)
theorem FunV.bindsAll {ps : List Str} (F : FunV K x qual st dV f fd)
    (h : ∀ (kV doc pm : Value) (an : Option Addr) (cdv ct : Value) (us : List Value), us.length = ps.length →
      bindArgs (PySem.W.fnOf x qual (defArgs st) (defBody st) (defScope st) dV kV doc pm an cdv ct) ⟨us, []⟩ = pure (ps.zip us)) : Binds K fd ps [] := by
  obtain ⟨oc, od, kV, doc, pm, an, cdv, ct, osl, rfl, lk, hcd⟩ := F.ex
  exact .all (h kV doc pm an cdv ct)

def spStar (ps : List Str) (sp : Sp) : Sp := fun vs H Q E => ∃ ws rest, vs = ws ++ rest ∧ ws.length = ps.length ∧ rest.length ≤ sizeLine ∧
  ∀ p, H p = Option.none → sp (ws ++ [V.ref p]) (upd H p (.tup rest)) Q E
theorem Fun.star {N ps : List Str} {pv : Str} {k : Nat} {sp : Sp} (F : Fun K x qual st f fd) (S : FnScope N (ps ++ [pv]) (defScope st))
    (hb : ∀ (kV doc pm : Value) (an : Option Addr) (cdv ct : Value) (us rest : List Value), us.length = ps.length →
      bindArgs (PySem.W.fnOf x qual (defArgs st) (defBody st) (defScope st) .none kV doc pm an cdv ct) ⟨us ++ rest, []⟩ = (newTuple rest >>= fun t => pure (ps.zip us ++ [(pv, t)])))
    (hbody : ∀ (cdv : Value) (A : Around) (outer : List Env) (s : Shared) (H : Hp) (vs : List V) (Q : VK) (E : XK), Room k (A.deeper (envOfC qual (defScope st) s.heap.objs.size f cdv)) → sp vs H Q E →
      ∃ t, PSs (cxOf CX0 P w K mg base N qual (defScope st) f cdv A outer s H E).nox (defBody st) t ∧ t { nx := fun _ H' => Q .non H', rt := Q } (start N vs) H) :
    FnR P w K mg base CX0 (k + 1) f (spStar ps sp) := by
  obtain ⟨oc, od, kV, doc, pm, an, cdv, ct, osl, rfl, lk, hcd⟩ := F.ex
  refine StX.fn_star lk hcd S StX.cxUp_none (hb kV doc pm an cdv ct) fun A outer s H vs Q E hr hsp => ?_
  obtain ⟨t, h, q⟩ := hbody cdv A outer s H vs Q E hr hsp
  exact ⟨t, h.nox, q⟩
end

def Mt (P : Program) (w : World) (K : PySem.W.Frag) (mg : Str → Option Value) (base : Heap) (C : Addr) (m : Str) (k : Nat) (ps : List Str) (sp : Sp) : Prop :=
  ∃ f fd, PySem.W.findIn K (.ref C) m = some (some (.ref f)) ∧ PySem.W.isFn K (.ref f) = true ∧ PySem.W.keepIn K (.ref f) = true ∧
    FnOk P w K mg base CX0 k f fd ps sp ∧ Binds K fd ps []

def MtR (P : Program) (w : World) (K : PySem.W.Frag) (mg : Str → Option Value) (base : Heap) (C : Addr) (m : Str) (k : Nat) (ps : List Str) (sp : Sp) : Prop :=
  ∃ f, PySem.W.findIn K (.ref C) m = some (some (.ref f)) ∧ PySem.W.isFn K (.ref f) = true ∧ PySem.W.keepIn K (.ref f) = true ∧
    FnR P w K mg base CX0 k f (spStar ps sp)

def MkFn (P : Program) (w : World) (K : PySem.W.Frag) (mg : Str → Option Value) (base : Heap) (C : Addr) (k : Nat) (ps : List Str) (sp : Sp) : Prop :=
  ∃ f fd, Mk K C f ∧ FnOk P w K mg base CX0 k f fd ps sp ∧ Binds K fd ps [] ∧ ∃ t ds, Vals [V.ref t] ds ∧ Binds K fd ps ds ∧ ∀ H, SqT K H t []
section
variable {X : Cx} {k : Nat} {C : Addr} {ps : List Str} {sp : Sp} {x m : Str} {p pos apos : Pos} {e o : Expr} {es : List Expr} {ta : TE} {t : TA}
theorem Mt.op (D : Mt X.prog X.w X.K X.mg X.base C m k ps sp) : OwnOp X C m k ps sp := by
  obtain ⟨f, fd, h1, h2, _, h4, h5⟩ := D
  exact ⟨f, fd, h1, h2, h4, h5⟩
theorem op_own {op : Operator} {nm : Str} (D : Mt X.prog X.w X.K X.mg X.base C nm k ps sp) (hr : Room k X.A) (hc : PySem.W.selfFirst X.K C = true) (hn : PySem.dunder op.info.2 = nm) : OpR X (binaryOp op) (rBin C sp) := by
  subst hn
  exact op_own2 D.op hr hc
theorem pe_mt {pl : Sem Bool} (D : Mt X.prog X.w X.K X.mg X.base C m k ps sp) (hr : Room k X.A) (c : Cls X.K C) (he : PE X o ta) (ha : PA X (e :: es) t)
    (hst : starEach (e :: es) X.env = (false, eval e X.env) :: starEach es X.env := by rfl) (hpl : (backTo pos (starEach es X.env)).any (·.1) = false := by rfl)
    (ht : eval (.Call (.Attribute o m apos) (e :: es) [] pos) X.env = (do
      let ov ← eval o X.env
      standAt apos.atName
      let (f, first) ← holding [ov] (getMethod ov m pl)
      callWith pos f first (backTo pos (starEach (e :: es) X.env)) (backToKw pos (keywordEach [] X.env))) := by rfl) :
    PE X (.Call (.Attribute o m apos) (e :: es) [] pos) (tMeth C m sp [] E0 ta t) := by
  obtain ⟨f, fd, h1, h2, h3, F, b⟩ := D
  exact pe_meth (ds := []) he c ⟨h1, h2, h3⟩ F hr b .nil pass0 ha hst hpl ht
theorem pe_mt0 {pl : Sem Bool} (D : Mt X.prog X.w X.K X.mg X.base C m k ps sp) (hr : Room k X.A) (c : Cls X.K C) (he : PE X o ta)
    (ht : eval (.Call (.Attribute o m apos) [] [] pos) X.env = (do
      let ov ← eval o X.env
      standAt apos.atName
      let (f, first) ← holding [ov] (getMethod ov m pl)
      callWith pos f first (backTo pos (starEach [] X.env)) (backToKw pos (keywordEach [] X.env))) := by rfl) :
    PE X (.Call (.Attribute o m apos) [] [] pos) (tMeth C m sp [] E0 ta tNil) := by
  obtain ⟨f, fd, h1, h2, h3, F, b⟩ := D
  exact pe_meth0 (ds := []) he c ⟨h1, h2, h3⟩ F hr b .nil pass0 ht
theorem pe_mk (D : MkFn X.prog X.w X.K X.mg X.base C k ps sp) (hr : Room (k + 1) X.A) (hg : Gl X x) (hm : X.mg x = some (.ref C)) (ha : PA X (e :: es) t)
    (hdb : (x == ("__debug__" : Str)) = false := by decide) (he : starEach (e :: es) X.env = (false, eval e X.env) :: starEach es X.env := by rfl) (hpl : (backTo pos (starEach es X.env)).any (·.1) = false := by rfl) :
    PE X (.Call (.Name x p) (e :: es) [] pos) (tMake C sp [] E0 t) := by
  obtain ⟨f, fd, M, F, b, _⟩ := D
  exact pe_make (ds := []) M F hr hg hm b .nil pass0 ha hdb he hpl
def tMk0 (K : PySem.W.Frag) (C : Addr) (sp : Sp) : TE := fun σ H Q => ∀ t, (∀ H, SqT K H t []) → tMake C sp [V.ref t] E0 tNil σ H Q
theorem pe_mk0 (D : MkFn X.prog X.w X.K X.mg X.base C k ps sp) (hr : Room (k + 1) X.A) (hg : Gl X x) (hm : X.mg x = some (.ref C))
    (hdb : (x == ("__debug__" : Str)) = false := by decide) : PE X (.Call (.Name x p) [] [] pos) (tMk0 X.K C sp) := by
  obtain ⟨f, fd, M, F, _, t, ds, hv, b, hT⟩ := D
  refine ⟨fun pins s σ H Q I h => ?_⟩
  exact (pe_make0 M F hr hg hm b hv pass0 hdb).run pins s σ H Q I (h t hT)
end

def Good (U : List Int) (es : List (Int × Str)) : Prop := (keys es).Nodup ∧ (∀ k ∈ keys es, k ∈ U) ∧ U.length ≤ 1000
def FD (U : List Int) (H : Hp) (d : Addr) (es : List (Int × Str)) : Prop := H d = some (.dK (ents es)) ∧ Good U es
def FS (C : Addr) (U : List Int) (H : Hp) (x : Addr) (es : List (Int × Str)) : Prop := ∃ dx d, H x = some (.ins C dx [("_forms", .ref d)]) ∧ FD U H d es
theorem FD.same {U : List Int} {H H' : Hp} {d : Addr} {es : List (Int × Str)} (h : FD U H d es) (s : Same H H') : FD U H' d es := ⟨s _ _ h.1, h.2⟩
theorem FS.same {C : Addr} {U : List Int} {H H' : Hp} {d : Addr} {es : List (Int × Str)} (h : FS C U H d es) (s : Same H H') : FS C U H' d es := by
  obtain ⟨dx, d, h1, h2⟩ := h
  exact ⟨dx, d, s _ _ h1, h2.same s⟩
theorem nodup_sub : ∀ {l U : List Int}, l.Nodup → (∀ k ∈ l, k ∈ U) → l.length ≤ U.length
  | [], U, _, _ => Nat.zero_le _
  | a :: r, U, nd, h => by
    have ha : a ∈ U := h a List.mem_cons_self
    have := nodup_sub (l := r) (U := U.erase a) (List.nodup_cons.mp nd).2 fun k hk =>
      (List.mem_erase_of_ne (fun e : k = a => (List.nodup_cons.mp nd).1 (by rw [← e]; exact hk))).mpr (h k (List.mem_cons_of_mem _ hk))
    rw [List.length_erase_of_mem ha] at this
    have p := List.length_pos_of_mem ha
    rw [List.length_cons]
    omega
theorem Good.len {U : List Int} {es : List (Int × Str)} (g : Good U es) : es.length ≤ 1000 := by
  have := nodup_sub g.1 g.2.1
  unfold keys at this
  rw [List.length_map] at this
  exact Nat.le_trans this g.2.2
def has (es : List (Int × Str)) (k : Int) : Bool := (look es k).isSome
theorem has_iff {es : List (Int × Str)} {k : Int} : has es k = true ↔ k ∈ keys es := look_some
def united (es fs : List (Int × Str)) : List (Int × Str) := es ++ fs.filter fun p => !has es p.1
def common (es fs : List (Int × Str)) : List (Int × Str) := es.filter fun p => has fs p.1
def rest (es fs : List (Int × Str)) : List (Int × Str) := es.filter fun p => !has fs p.1
theorem look_app (es gs : List (Int × Str)) (k : Int) : look (es ++ gs) k = (look es k).or (look gs k) := by
  induction es with
  | nil => rfl
  | cons p r ih =>
    rw [List.cons_append, look_cons, look_cons]
    by_cases e : p.1 = k
    · rw [if_pos e, if_pos e]; rfl
    · rw [if_neg e, if_neg e, ih]
theorem look_filter (c : Int → Bool) (es : List (Int × Str)) (k : Int) : look (es.filter fun p => c p.1) k = if c k = true then look es k else none := by
  induction es with
  | nil => rw [List.filter_nil, look_nil, ite_self]
  | cons p r ih =>
    rw [List.filter_cons]
    by_cases e : p.1 = k
    · rw [e]
      by_cases q : c k = true
      · rw [if_pos q, if_pos q, look_cons, look_cons, if_pos e, if_pos e]
      · rw [if_neg q, if_neg q, ih, if_neg q]
    · by_cases q : c p.1 = true
      · rw [if_pos q, look_cons, if_neg e, ih, look_cons, if_neg e]
      · rw [if_neg q, ih, look_cons, if_neg e]
theorem look_united (es fs : List (Int × Str)) (k : Int) : look (united es fs) k = (look es k).or (look fs k) := by
  unfold united
  rw [look_app, look_filter fun k => !has es k]
  unfold has
  cases look es k <;> rfl
theorem look_common (es fs : List (Int × Str)) (k : Int) : look (common es fs) k = if (look fs k).isSome = true then look es k else none :=
  look_filter (fun k => has fs k) es k
theorem look_rest (es fs : List (Int × Str)) (k : Int) : look (rest es fs) k = if (look fs k).isSome = true then none else look es k := by
  refine (look_filter (fun k => !has fs k) es k).trans ?_
  unfold has
  cases look fs k <;> rfl
theorem keys_filter_sub (c : Int × Str → Bool) (es : List (Int × Str)) : (keys (es.filter c)).Sublist (keys es) := List.Sublist.map _ List.filter_sublist
theorem Good.filter {U : List Int} {es : List (Int × Str)} (g : Good U es) (c : Int × Str → Bool) : Good U (es.filter c) :=
  ⟨g.1.sublist (keys_filter_sub c es), fun k hk => g.2.1 k ((keys_filter_sub c es).subset hk), g.2.2⟩
theorem Good.common {U : List Int} {es : List (Int × Str)} (g : Good U es) (fs : List (Int × Str)) : Good U (common es fs) := g.filter _
theorem Good.rest {U : List Int} {es : List (Int × Str)} (g : Good U es) (fs : List (Int × Str)) : Good U (rest es fs) := g.filter _
theorem mem_keys_filter {c : Int → Bool} {es : List (Int × Str)} {k : Int} : k ∈ keys (es.filter fun p => c p.1) ↔ k ∈ keys es ∧ c k = true := by
  unfold keys
  simp only [List.mem_map, List.mem_filter]
  constructor
  · rintro ⟨p, ⟨h1, h2⟩, rfl⟩; exact ⟨⟨p, h1, rfl⟩, h2⟩
  · rintro ⟨⟨p, h1, rfl⟩, h2⟩; exact ⟨p, ⟨h1, h2⟩, rfl⟩
theorem keys_app (es fs : List (Int × Str)) : keys (es ++ fs) = keys es ++ keys fs := List.map_append
theorem Good.united {U : List Int} {es fs : List (Int × Str)} (g : Good U es) (h : Good U fs) : Good U (united es fs) := by
  refine ⟨?_, ?_, g.2.2⟩
  · unfold My.united
    rw [keys_app]
    refine List.nodup_append.mpr ⟨g.1, (h.filter _).1, fun a ha b hb e => ?_⟩
    subst e
    have := (mem_keys_filter (c := fun k => !has es k)).mp hb
    have q := this.2
    rw [has_iff.mpr ha] at q
    cases q
  · intro k hk
    unfold My.united at hk
    rw [keys_app] at hk
    rcases List.mem_append.mp hk with hk | hk
    · exact g.2.1 k hk
    · exact (h.filter _).2.1 k hk

def spRaw (f : List (Int × Str) → List (Int × Str) → List (Int × Str)) : Sp := fun vs H Q _ => ∃ U a b es fs, vs = [.ref a, .ref b] ∧ FD U H a es ∧ FD U H b fs ∧
  ∀ d H', Same H H' → FD U H' d (f es fs) → Q (.ref d) H'
def spSetOf (C : Addr) : Sp := fun vs H Q _ => ∃ U d es, vs = [.ref d] ∧ FD U H d es ∧ ∀ x H', Same H H' → FS C U H' x es → Q (.ref x) H'
def spOp (C : Addr) (f : List (Int × Str) → List (Int × Str) → List (Int × Str)) : Sp := fun vs H Q _ => ∃ U a b es fs, vs = [.ref a, .ref b] ∧ FS C U H a es ∧ FS C U H b fs ∧
  ∀ d H', Same H H' → FS C U H' d (f es fs) → Q (.ref d) H'
def spLen (C : Addr) : Sp := fun vs H Q _ => ∃ U a es, vs = [.ref a] ∧ FS C U H a es ∧ Q (.int (es.length : Nat)) H
def alike (es fs : List (Int × Str)) : Prop := es.length = fs.length ∧ ∀ p ∈ es, look fs p.1 = some p.2
def spEqT (C : Addr) : Sp := fun vs H Q _ => ∃ U a b es fs, vs = [.ref a, .ref b] ∧ FS C U H a es ∧ FS C U H b fs ∧ alike es fs ∧ Q (.bl true) H
def smaller (es fs : List (Int × Str)) : List (Int × Str) := if es.length < fs.length then common es fs else common fs es
def apart (es fs : List (Int × Str)) : List (Int × Str) := united (rest es fs) (rest fs es)
theorem look_ents {es : List (Int × Str)} {p : Int × Str} (nd : (keys es).Nodup) (h : p ∈ es) : look es p.1 = some p.2 := by
  induction es with
  | nil => cases h
  | cons q r ih =>
    rw [look_cons]
    have nd2 : q.1 ∉ keys r ∧ (keys r).Nodup := List.nodup_cons.mp nd
    rcases List.mem_cons.mp h with rfl | h
    · rw [if_pos rfl]
    · rw [if_neg (fun e : q.1 = p.1 => nd2.1 (by rw [e]; exact List.mem_map_of_mem h)), ih nd2.2 h]

inductive ElAll (K : PySem.W.Frag) (H : Hp) : List V → List (Int × Str) → Prop
  | nil : ElAll K H [] []
  | cons {t : Addr} {k : Int} {x : Str} {vs : List V} {es : List (Int × Str)} (h : SqT K H t [.int k, .str x]) (hk : 0 ≤ k ∧ k ≤ 999999) (hx : nameOk x = true) (r : ElAll K H vs es) : ElAll K H (.ref t :: vs) ((k, x) :: es)
theorem sqT_same {K : PySem.W.Frag} {H H' : Hp} {a : Addr} {xs : List V} (e : Same H H') (h : SqT K H a xs) : SqT K H' a xs := by
  rcases h with h | h
  · rcases h with h | ⟨o, h⟩
    · exact .inl (.inl (e _ _ h))
    · exact .inl (.inr ⟨o, e _ _ h⟩)
  · exact .inr h
theorem ElAll.same {K : PySem.W.Frag} {H H' : Hp} (s : Same H H') : ∀ {vs : List V} {es : List (Int × Str)}, ElAll K H vs es → ElAll K H' vs es
  | _, _, .nil => .nil
  | _, _, .cons h hk hx r => .cons (sqT_same s h) hk hx (ElAll.same s r)
theorem ElAll.len {K : PySem.W.Frag} {H : Hp} : ∀ {vs : List V} {es : List (Int × Str)}, ElAll K H vs es → vs.length = es.length
  | _, _, .nil => rfl
  | _, _, .cons _ _ _ r => by rw [List.length_cons, List.length_cons, r.len]
theorem ElAll.at {K : PySem.W.Frag} {H : Hp} : ∀ {vs : List V} {es : List (Int × Str)} {i : Nat} {v : V}, ElAll K H vs es → vs[i]? = some v →
    ∃ t k x, v = .ref t ∧ es[i]? = some (k, x) ∧ SqT K H t [.int k, .str x] ∧ (0 ≤ k ∧ k ≤ 999999) ∧ nameOk x = true
  | _, _, i, v, .nil, h => by simp at h
  | _, _, 0, v, .cons h1 hk hx r, h => by
    cases Option.some.inj h
    exact ⟨_, _, _, rfl, rfl, h1, hk, hx⟩
  | _, _, i + 1, v, .cons h1 hk hx r, h => r.at h
def firsts (l : List (Int × Str)) : List (Int × Str) := l.foldl (fun acc p => if has acc p.1 = true then acc else acc ++ [p]) []
end My
set_option Elab.async false
set_option maxRecDepth 100000
set_option maxHeartbeats 4000000
set_option linter.unusedVariables false
namespace My
open PySem PySem.Spec PyProof.Rows L2


def Xc (P : Program) (w : World) (K : PySem.W.Frag) (mg : Str → Option Value) (base : Heap) (C : Addr) (k : Nat) (ps : List Str) (sp : Sp) : Prop :=
  ∃ f fd, OwnX K C ∧ PySem.W.findIn K (.ref C) "__init__" = some (some (.ref f)) ∧ PySem.W.typeIn K (.ref f) = some (.type "function") ∧ FnOk P w K mg base CX0 k f fd ps sp ∧ Binds K fd ps []

def MtX (P : Program) (w : World) (K : PySem.W.Frag) (mg : Str → Option Value) (base : Heap) (C : Addr) (m : Str) (k : Nat) (ps : List Str) (sp : Sp) : Prop :=
  ∃ f fd, PySem.W.findIn K (.ref C) m = some (some (.ref f)) ∧ PySem.W.isFn K (.ref f) = true ∧ PySem.W.keepIn K (.ref f) = true ∧ FnOk P w K mg base (L2.CX P w) k f fd ps sp ∧ Binds K fd ps []
theorem passNone {X : Cx} : Passes (L2.CX X.prog X.w) X E0 := fun pins σ H s e s' I c => by
  obtain ⟨_, _, _, _, _, _, _, _, _, _, _, _, z⟩ := c
  exact z.elim
section
variable {X : Cx} {C : Addr} {k : Nat} {ps : List Str} {sp : Sp} {x m : Str} {p pos apos : Pos} {e o : Expr} {es : List Expr} {t ta : TA} {to : TE} {E : XK}
theorem mk_xc (D : Xc X.prog X.w X.K X.mg X.base C k ps sp) (hr : Room (k + 1) X.A) (hg : Gl X x) (hm : X.mg x = some (.ref C)) (ha : PA X (e :: es) ta)
    (hdb : (x == ("__debug__" : Str)) = false := by decide) (he : starEach (e :: es) X.env = (false, eval e X.env) :: starEach es X.env := by rfl) (hpl : (backTo pos (starEach es X.env)).any (·.1) = false := by rfl) :
    PMk X (.Call (.Name x p) (e :: es) [] pos) (tMkO C sp [] ta) := by
  obtain ⟨f, fd, T, h1, h2, F, b⟩ := D
  exact pmkX (CX := CX0) T h1 h2 F hr b .nil (fun _ _ _ _ _ _ _ h => h.elim) hg hm ha hdb he hpl

theorem pe_mtX {pl : Sem Bool} (D : MtX X.prog X.w X.K X.mg X.base C m k ps sp) (hr : Room k X.A) (c : Cls X.K C) (hx : Passes (L2.CX X.prog X.w) X E) (he : PE X o to) (ha : PA X (e :: es) t)
    (hst : starEach (e :: es) X.env = (false, eval e X.env) :: starEach es X.env := by rfl) (hpl : (backTo pos (starEach es X.env)).any (·.1) = false := by rfl)
    (ht : eval (.Call (.Attribute o m apos) (e :: es) [] pos) X.env = (do
      let ov ← eval o X.env
      standAt apos.atName
      let (f, first) ← holding [ov] (getMethod ov m pl)
      callWith pos f first (backTo pos (starEach (e :: es) X.env)) (backToKw pos (keywordEach [] X.env))) := by rfl) :
    PE X (.Call (.Attribute o m apos) (e :: es) [] pos) (tMeth C m sp [] E to t) := by
  obtain ⟨f, fd, h1, h2, h3, F, b⟩ := D
  exact pe_meth (ds := []) he c ⟨h1, h2, h3⟩ F hr b .nil hx ha hst hpl ht

def tMethS (C : Addr) (m : Str) (sp : Sp) (W : WX) (ta : TE) (t : TA) : TE := fun σ H Q => ta σ H fun x H1 => ∃ a dx fs, x = .ref a ∧ H1 a = some (.ins C dx fs) ∧ fs.lookup m = none ∧
  t σ H1 fun vs H2 => sp (x :: vs) H2 Q (WE W σ)
theorem pe_mtS {pl : Sem Bool} {W : WX} (D : MtX X.prog X.w X.K X.mg X.base C m k ps sp) (hr : Room k X.A) (c : Cls X.K C) (tk : Takes X W) (he : PE X o to) (ha : PA X (e :: es) t)
    (hst : starEach (e :: es) X.env = (false, eval e X.env) :: starEach es X.env := by rfl) (hpl : (backTo pos (starEach es X.env)).any (·.1) = false := by rfl)
    (ht : eval (.Call (.Attribute o m apos) (e :: es) [] pos) X.env = (do
      let ov ← eval o X.env
      standAt apos.atName
      let (f, first) ← holding [ov] (getMethod ov m pl)
      callWith pos f first (backTo pos (starEach (e :: es) X.env)) (backToKw pos (keywordEach [] X.env))) := by rfl) :
    PE X (.Call (.Attribute o m apos) (e :: es) [] pos) (tMethS C m sp W to t) := by
  obtain ⟨f, fd, h1, h2, h3, F, b⟩ := D
  refine ⟨fun pins s σ H Q I h => ?_⟩
  refine PySem.W.methodCall_KW (pl := pl) (thn (he.run pins s σ H _ I h) fun u s1 hh => ?_) ht
  obtain ⟨x, H1, I1, rx, a, dx, fs, ex, ea, l, q⟩ := hh
  subst ex
  obtain rfl : u = Value.ref a := rx
  refine getmeth_ok I1 ea c ⟨h1, h2, h3⟩ l ?_
  refine PySem.W.callWith_K (first := [.ref a]) (h₀ := X.base) I1.ok.mod.kin h3 (thn (ha.run pos pins s1 σ H1 _ I1 q) fun us s2 ⟨vs, H2, I2, r, q2⟩ => ⟨I2.kIn, ?_⟩) hst hpl
  exact run_fnS (E := WE W) (us := .ref a :: us) (vs := .ref a :: vs) F hr b (passAt tk σ) I2 (.cons rfl r) q2
end
end My
set_option Elab.async false
set_option maxRecDepth 100000
set_option maxHeartbeats 4000000
namespace My
open PySem PySem.Spec PyProof.Rows L2
section
variable {X : Cx} {k : Nat} {C : Addr} {ps : List Str} {sp : Sp} {x m : Str} {p pos apos : Pos} {e o : Expr} {es : List Expr} {ta : TE} {t : TA}
theorem pe_mtR {pl : Sem Bool} (D : MtR X.prog X.w X.K X.mg X.base C m k ps sp) (hr : Room k X.A) (c : Cls X.K C) (he : PE X o ta) (ha : PA X (e :: es) t)
    (hst : starEach (e :: es) X.env = (false, eval e X.env) :: starEach es X.env := by rfl) (hpl : (backTo pos (starEach es X.env)).any (·.1) = false := by rfl)
    (ht : eval (.Call (.Attribute o m apos) (e :: es) [] pos) X.env = (do
      let ov ← eval o X.env
      standAt apos.atName
      let (f, first) ← holding [ov] (getMethod ov m pl)
      callWith pos f first (backTo pos (starEach (e :: es) X.env)) (backToKw pos (keywordEach [] X.env))) := by rfl) :
    PE X (.Call (.Attribute o m apos) (e :: es) [] pos) (tMethR C m (spStar ps sp) E0 ta t) := by
  obtain ⟨f, h1, h2, h3, F⟩ := D
  exact pe_methR he c ⟨h1, h2, h3⟩ F hr pass0 ha hst hpl ht
end

def spFirst (K : PySem.W.Frag) : Sp := fun vs H Q _ => ∃ (a : Addr) (xs : List V) (l : List (Int × Str)), vs = [.ref a] ∧ (H a = some (.lst xs) ∨ SqT K H a xs) ∧ ElAll K H xs l ∧ l.length ≤ 1000 ∧
  ∀ d H', Same H H' → H' d = some (.dK (ents (firsts l))) → Q (.ref d) H'
def spInit (K : PySem.W.Frag) (C : Addr) : Sp := fun vs H Q _ => ∃ (x dx a : Addr) (xs : List V) (l : List (Int × Str)), vs = [.ref x, .ref a] ∧ H x = some (.ins C dx []) ∧
  (H a = some (.lst xs) ∨ SqT K H a xs) ∧ ElAll K H xs l ∧ l.length ≤ 1000 ∧
  ∀ d H', Same (del x H) (del x H') → H' x = some (.ins C dx [("_forms", .ref d)]) → H' d = some (.dK (ents (firsts l))) → Q .non H'
def joinAll (es : List (Int × Str)) (ls : List (List (Int × Str))) : List (Int × Str) := ls.foldl united es
inductive FSs (C : Addr) (U : List Int) (H : Hp) : List V → List (List (Int × Str)) → Prop
  | nil : FSs C U H [] []
  | cons {x : Addr} {es : List (Int × Str)} {vs : List V} {ls : List (List (Int × Str))} (h : FS C U H x es) (r : FSs C U H vs ls) : FSs C U H (.ref x :: vs) (es :: ls)
theorem FSs.same {C : Addr} {U : List Int} {H H' : Hp} (s : Same H H') : ∀ {vs : List V} {ls : List (List (Int × Str))}, FSs C U H vs ls → FSs C U H' vs ls
  | _, _, .nil => .nil
  | _, _, .cons h r => .cons (h.same s) (FSs.same s r)
theorem FSs.len {C : Addr} {U : List Int} {H : Hp} : ∀ {vs : List V} {ls : List (List (Int × Str))}, FSs C U H vs ls → vs.length = ls.length
  | _, _, .nil => rfl
  | _, _, .cons _ r => by rw [List.length_cons, List.length_cons, r.len]
theorem FSs.at {C : Addr} {U : List Int} {H : Hp} : ∀ {vs : List V} {ls : List (List (Int × Str))} {i : Nat} {v : V}, FSs C U H vs ls → vs[i]? = some v → ∃ x es, v = .ref x ∧ ls[i]? = some es ∧ FS C U H x es
  | _, _, i, v, .nil, h => by simp at h
  | _, _, 0, v, .cons h1 r, h => by
    cases Option.some.inj h
    exact ⟨_, _, rfl, rfl, h1⟩
  | _, _, i + 1, v, .cons h1 r, h => r.at h
def spJoin (K : PySem.W.Frag) (C : Addr) : Sp := fun vs H Q _ => ∃ U a p es xs ls, vs = [.ref a, .ref p] ∧ FS C U H a es ∧ SqT K H p xs ∧ FSs C U H xs ls ∧
  ∀ d H', Same H H' → FS C U H' d (joinAll es ls) → Q (.ref d) H'
def likeKeys (es fs : List (Int × Str)) : Prop := ∀ k, has es k = has fs k
def spEqK (C : Addr) : Sp := fun vs H Q _ => ∃ U a b es fs, vs = [.ref a, .ref b] ∧ FS C U H a es ∧ FS C U H b fs ∧ likeKeys es fs ∧ ∀ H', Same H H' → Q (.bl true) H'
def spAll3 (C : Addr) : Sp := fun vs H Q _ => ∃ U a b c es fs gs, vs = [.ref a, .ref b, .ref c] ∧ FS C U H a es ∧ FS C U H b fs ∧ FS C U H c gs ∧ ∀ H', Same H H' → Q (.bl true) H'
def spAll2 (C : Addr) : Sp := fun vs H Q _ => ∃ U a b es fs, vs = [.ref a, .ref b] ∧ FS C U H a es ∧ FS C U H b fs ∧ ∀ H', Same H H' → Q (.bl true) H'
def below (m : Nat) : List Int := (List.range m).map fun i : Nat => (i : Int)
def spSet (C : Addr) : Sp := fun vs H Q _ => ∃ (a : Addr) (n m : Nat) (x : Str), vs = [.ref a, .int m, .str x] ∧ Bag H a n ∧ n < 1000 ∧ 1 ≤ m ∧ m ≤ 20 ∧ (x = "p" ∨ x = "q" ∨ x = "r") ∧
  ∀ z es H', Same (del a H) (del a H') → Bag H' a (n + 100) → FS C (below m) H' z es → Q (.ref z) H'
theorem FD.app {U : List Int} {es fs : List (Int × Str)} (g : Good U es) (h : Good U fs) (i : Nat) : (ents (es ++ (fs.take i).filter fun p => !has es p.1)).length < sizeLine := by
  rw [ents_len, List.length_append]
  have h1 := g.len
  have h2 := h.len
  have h3 : ((fs.take i).filter fun p => !has es p.1).length ≤ fs.length := Nat.le_trans (List.length_filter_le _ _) (by rw [List.length_take]; omega)
  exact Nat.lt_of_le_of_lt (Nat.le_trans (Nat.add_le_add h1 (Nat.le_trans h3 h2)) (by decide : 1000 + 1000 ≤ 2000)) (by decide)
theorem take_one {α : Type} {l : List α} {i : Nat} {x : α} (h : l[i]? = some x) : l.take (i + 1) = l.take i ++ [x] := by
  rw [List.take_add_one, h]
  rfl
theorem look_part {fs : List (Int × Str)} {i : Nat} {n : Int} {x : Str} (nd : (keys fs).Nodup) (h : fs[i]? = some (n, x)) : look (fs.take i) n = none := by
  refine look_none.mpr fun z => ?_
  have e := List.take_append_drop i fs
  have q : keys fs = keys (fs.take i) ++ keys (fs.drop i) := by rw [← keys_app, e]
  rw [q] at nd
  have := (List.nodup_append.mp nd).2.2 n z n ?_
  · exact this rfl
  · obtain ⟨hi, e2⟩ := List.getElem?_eq_some_iff.mp h
    have : (n, x) ∈ fs.drop i := by
      rw [List.mem_iff_getElem?]
      exact ⟨0, by rw [List.getElem?_drop]; exact h⟩
    exact List.mem_map_of_mem this
theorem united_old {es fs : List (Int × Str)} {i : Nat} {n : Int} {x : Str} {v : V} (nd : (keys fs).Nodup) (h : fs[i]? = some (n, x))
    (e : valV (ents (es ++ (fs.take i).filter fun q => !has es q.1)) (.inl n) = some v) :
    (es ++ (fs.take (i + 1)).filter fun q => !has es q.1) = es ++ (fs.take i).filter fun q => !has es q.1 := by
  rw [take_one h, List.filter_append]
  rw [valV_ents, look_app, look_filter fun k => !has es k, look_part nd h, ite_self, Option.or_none] at e
  have : has es n = true := by
    unfold has
    cases q : look es n with
    | none => rw [q] at e; cases e
    | some y => rfl
  rw [List.filter_cons, this]
  simp
theorem united_new {es fs : List (Int × Str)} {i : Nat} {n : Int} {x : Str} (nd : (keys fs).Nodup) (h : fs[i]? = some (n, x))
    (e : valV (ents (es ++ (fs.take i).filter fun q => !has es q.1)) (.inl n) = none) :
    putK (ents (es ++ (fs.take i).filter fun q => !has es q.1)) (.inl n) (.str x) = ents (es ++ (fs.take (i + 1)).filter fun q => !has es q.1) := by
  have e0 := e
  rw [valV_ents, look_app, look_filter fun k => !has es k, look_part nd h, ite_self, Option.or_none] at e
  have h0 : look es n = none := by
    cases q : look es n with
    | none => rfl
    | some y => rw [q] at e; cases e
  have : has es n = false := by unfold has; rw [h0]; rfl
  rw [take_one h, List.filter_append, List.filter_cons, this, ← List.append_assoc]
  refine put_new ?_
  refine look_none.mp ?_
  rw [valV_ents] at e0
  cases q : look (es ++ (fs.take i).filter fun q => !has es q.1) n with
  | none => rfl
  | some y => rw [q] at e0; cases e0
def iOr (w1 w2 : TI) : TI := fun σ H R => w1 σ H R ∨ w2 σ H R
theorem pi_or {X : Cx} {tg e : Expr} {w1 w2 : TI} (h1 : PI X tg e w1) (h2 : PI X tg e w2) : PI X tg e (iOr w1 w2) := by
  refine ⟨fun pins s σ H R I h => ?_⟩
  rcases h with h | h
  · exact h1.run pins s σ H R I h
  · exact h2.run pins s σ H R I h
theorem for_either {K : PySem.W.Frag} {a : Addr} {xs : List V} {g : TG} {tb : TS} {D : Ends} {σ : L2.St} {H : Hp} {tl : TE} {L : Hp → Prop} (hv : ∀ Q : VK, Q (.ref a) H → tl σ H Q)
    (hL : (∀ H, L H → SqL K H a xs) ∨ (∀ H, L H → SqT K H a xs)) (Pv : Nat → L2.St → Hp → Prop) (h0 : Pv 0 σ H) (hl : ∀ i σ H, i ≤ xs.length → Pv i σ H → L H)
    (hs : ∀ i x σ H, xs[i]? = some x → Pv i σ H → g x σ H fun σ2 H2 => tb { D with nx := Pv (i + 1), ct := Pv (i + 1), bk := D.nx } σ2 H2) (hd : ∀ σ H, Pv xs.length σ H → D.nx σ H) :
    tFor (iOr (iList K tl) (iTup K tl)) g tb D σ H := by
  rcases hL with h | h
  · exact .inl (hv _ ⟨a, rfl, ⟨xs, h _ (hl 0 _ _ (Nat.zero_le _) h0)⟩, for_list Pv h0 (fun i σ H hi p => h _ (hl i σ H hi p)) hs hd⟩)
  · exact .inr (hv _ ⟨a, rfl, ⟨xs, h _ (hl 0 _ _ (Nat.zero_le _) h0)⟩, for_tup Pv h0 (fun i σ H hi p => h _ (hl i σ H hi p)) hs hd⟩)
theorem kit_list (K : PySem.W.Frag) : PySem.W.kitAny K (.type "list") [.type "list", .type "tuple"] = some true :=
  kitAny_cons (b := true) (kit_ty (by decide +kernel)) (fun z => (nomatch z)) (fun _ => rfl)
theorem kit_tuple (K : PySem.W.Frag) : PySem.W.kitAny K (.type "tuple") [.type "list", .type "tuple"] = some true :=
  kitAny_cons (b := false) (kit_ty (by decide +kernel)) (fun _ => kitAny_cons (b := true) (kit_ty (by decide +kernel)) (fun z => (nomatch z)) (fun _ => rfl)) (fun z => (nomatch z))
theorem lt_ty {K : PySem.W.Frag} {H : Hp} {a : Addr} {xs : List V} (h : H a = some (.lst xs) ∨ SqT K H a xs) :
    ∃ t, TyX K H (.ref a) t ∧ PySem.W.kitAny K t [.type "list", .type "tuple"] = some true := by
  rcases h with h | (h | ⟨o, h⟩) | ⟨o, its, n, h1, h2, _⟩
  · exact ⟨_, .base (.lst h), kit_list K⟩
  · exact ⟨_, .base (.tup h), kit_tuple K⟩
  · exact ⟨_, .fTuple h, kit_tuple K⟩
  · exact ⟨_, .kTuple h1 h2, kit_tuple K⟩
theorem sqT_ext {K : PySem.W.Frag} {H H' : Hp} {a p : Addr} {xs : List V} (hp : H p = none) (e : Ext p H H') (h : SqT K H a xs) : SqT K H' a xs := by
  rcases h with (h | ⟨o, h⟩) | h
  · exact .inl (.inl (e _ _ (ne_of_none h hp) h))
  · exact .inl (.inr ⟨o, e _ _ (ne_of_none h hp) h⟩)
  · exact .inr h
theorem firsts_app (l : List (Int × Str)) (q : Int × Str) : firsts (l ++ [q]) = if has (firsts l) q.1 = true then firsts l else firsts l ++ [q] := by
  unfold firsts
  rw [List.foldl_append]
  rfl
theorem firsts_len (l : List (Int × Str)) : ∀ i, (firsts (l.take i)).length ≤ i
  | 0 => by rw [List.take_zero]; exact Nat.le_refl _
  | i + 1 => by
    have ih := firsts_len l i
    rw [List.take_add_one]
    cases h : l[i]? with
    | none => rw [Option.toList_none, List.append_nil]; omega
    | some q =>
      show (firsts (l.take i ++ [q])).length ≤ i + 1
      rw [firsts_app]
      split
      · omega
      · rw [List.length_append, List.length_singleton]; omega
theorem name_sm {x : Str} (h : nameOk x = true) : sm (.str x) := by
  unfold nameOk at h
  rw [Bool.and_eq_true, Bool.and_eq_true] at h
  have h1 := of_decide_eq_true h.1.1
  refine ⟨?_, .inl ?_⟩
  · show x.length ≤ 100000
    omega
  · show x.cps.all (· < 0x110000) = true
    rw [Array.all_eq_true']
    intro c hc
    have := List.all_eq_true.mp h.2 c (by simpa using hc)
    have m := of_decide_eq_true this
    have : ∀ c ∈ abc.cps.toList, c < 0x110000 := by decide
    exact decide_eq_true (this c m)
theorem el_sm {k : Int} {x : Str} (hk : 0 ≤ k ∧ k ≤ 999999) (h : nameOk x = true) : sm (.tuple [.int k, .str x]) := by
  have s := name_sm h
  unfold nameOk at h
  rw [Bool.and_eq_true, Bool.and_eq_true] at h
  have h1 := of_decide_eq_true h.1.1
  refine ⟨?_, .inl ?_⟩
  · show PyData.weightAll [.int k, .str x] ≤ 100000
    have e : x.cps.size = x.length := rfl
    have b : (if (k == 0) = true then 0 else k.natAbs.log2 + 1) ≤ 21 := by
      split
      · omega
      · rename_i z
        have nz : k.natAbs ≠ 0 := by
          intro q
          apply z
          rw [Int.natAbs_eq_zero.mp q]
          rfl
        have := (Nat.log2_lt nz (k := 20)).mpr (by omega)
        omega
    simp only [PyData.weightAll, PyData.weight]
    omega
  · rcases s.2 with q | ⟨_, q⟩
    · show (PyData.canLay0 (.int k) && (PyData.canLay0 (.str x) && true)) = true
      rw [q]; rfl
    · cases q
theorem el_ok {k : Int} {x : Str} (hk : 0 ≤ k ∧ k ≤ 999999) (h : nameOk x = true) : mEl (.tuple [.int k, .str x]) = true := by
  show ((decide (0 ≤ k) && decide (k ≤ 999999)) && nameOk x) = true
  rw [h, decide_eq_true hk.1, decide_eq_true hk.2]
  rfl
theorem el_dx {K : PySem.W.Frag} {H : Hp} {t : Addr} {k : Int} {x : Str} (h : SqT K H t [.int k, .str x]) : Dx K H (.ref t) (.tuple [.int k, .str x]) :=
  .of (.tup h (.cons (.int k) (.cons (.str x) .nil)))
end My
set_option Elab.async false
set_option maxRecDepth 100000
set_option maxHeartbeats 4000000
set_option linter.unusedVariables false
namespace My
open PySem PySem.Spec PyProof.Rows L2

def Den (C : Addr) (U : List Int) (σ : L2.St) (F : Hp → Prop) (t : TE) (es : List (Int × Str)) : Prop :=
  ∀ (H : Hp) (Q : VK), F H → (∀ y H', Same H H' → FS C U H' y es → Q (.ref y) H') → t σ H Q
def Stable (F : Hp → Prop) : Prop := ∀ H H', Same H H' → F H → F H'
section
variable {C : Addr} {U : List Int} {σ : L2.St} {F : Hp → Prop} {ta tb tc : TE} {es fs gs : List (Int × Str)} {f : List (Int × Str) → List (Int × Str) → List (Int × Str)} {K : PySem.W.Frag}
theorem den_var {i : Nat} {a : Addr} (e : σ[i]? = some (some (.ref a))) (h : ∀ H, F H → FS C U H a es) : Den C U σ F (tVar i) es :=
  fun H Q hf k => ⟨_, e, k a H (Same.refl H) (h H hf)⟩
theorem den_op (hF : Stable F) (ha : Den C U σ F ta es) (hb : Den C U σ F tb fs) : Den C U σ F (tOp (rBin C (spOp C f)) ta tb) (f es fs) := by
  intro H Q hf k
  refine ha H _ hf fun x H1 s1 hx => hb H1 _ (hF _ _ s1 hf) fun y H2 s2 hy => ?_
  have hx2 := hx.same s2
  have hy2 := hy
  obtain ⟨dx, d, e1, _⟩ := hx2
  obtain ⟨dy, d', e2, _⟩ := hy2
  exact ⟨x, y, _, _, _, _, rfl, rfl, e1, e2, U, x, y, es, fs, rfl, hx.same s2, hy, fun d H3 s3 hd => k d H3 ((s1.trans s2).trans s3) hd⟩
theorem den_meth {m : Str} (hm : ∀ v : V, List.lookup m [(("_forms" : Str), v)] = none) (hF : Stable F) (ha : Den C U σ F ta es) (hb : Den C U σ F tb fs) :
    Den C U σ F (tMeth C m (spOp C f) [] E0 ta (tCons tb tNil)) (f es fs) := by
  intro H Q hf k
  refine ha H _ hf fun x H1 s1 hx => ?_
  have hx1 := hx
  obtain ⟨dx, d, e1, _⟩ := hx1
  refine ⟨x, _, _, rfl, e1, hm _, hb H1 _ (hF _ _ s1 hf) fun y H2 s2 hy => ?_⟩
  exact ⟨U, x, y, es, fs, rfl, hx.same s2, hy, fun d H3 s3 hd => k d H3 ((s1.trans s2).trans s3) hd⟩
theorem den_join2 {m : Str} (hm : ∀ v : V, List.lookup m [(("_forms" : Str), v)] = none) (hF : Stable F) (ha : Den C U σ F ta es) (hb : Den C U σ F tb fs) (hc : Den C U σ F tc gs) :
    Den C U σ F (tMethR C m (spStar ["self"] (spJoin K C)) E0 ta (tCons tb (tCons tc tNil))) (united (united es fs) gs) := by
  intro H Q hf k
  refine ha H _ hf fun x H1 s1 hx => ?_
  have hx1 := hx
  obtain ⟨dx, d, e1, _⟩ := hx1
  refine ⟨x, _, _, rfl, e1, hm _, hb H1 _ (hF _ _ s1 hf) fun y H2 s2 hy => hc H2 _ (hF _ _ s2 (hF _ _ s1 hf)) fun z H3 s3 hz => ?_⟩
  refine ⟨[.ref x], [.ref y, .ref z], rfl, rfl, size_ok (by simp), fun p hp => ?_⟩
  have s4 := same_new hp (o := .tup [.ref y, .ref z])
  refine ⟨U, x, p, es, [.ref y, .ref z], [fs, gs], rfl, ((hx.same s2).same s3).same s4, .inl (.inl upd_same), .cons ((hy.same s3).same s4) (.cons (hz.same s4) .nil), fun d H5 s5 hd => ?_⟩
  exact k d H5 ((((s1.trans s2).trans s3).trans s4).trans s5) hd
theorem good_nil (hU : U.length ≤ 1000) : Good U [] := ⟨List.nodup_nil, fun _ h => (nomatch h), hU⟩
theorem den_mk0 (hU : U.length ≤ 1000) : Den C U σ F (tMk0 K C (spInit K C)) [] := by
  intro H Q hf k t ht x dx hx hdx hne
  refine ⟨x, dx, t, [], [], rfl, upd_same, .inr (ht _), .nil, by decide, fun d H' s hx' hd => ⟨rfl, k x H' ?_ ⟨dx, d, hx', hd, good_nil hU⟩⟩⟩
  intro b o e
  have n1 := ne_of_none e hx
  have n2 := ne_of_none e hdx
  have q := s b o ((del_at n1).trans ((upd_ne n1).trans ((upd_ne n2).trans e)))
  rw [del_at n1] at q
  exact q

theorem den_if {c1 c2 t1 t2 : TE} {es1 es2 : List (Int × Str)} {g1 g2 : List (Int × Str)} (hF : Stable F) (h1 : Den C U σ F c1 es1) (h2 : Den C U σ F c2 es2) (ht : Den C U σ F t1 g1) (he : Den C U σ F t2 g2) :
    Den C U σ F (tIf (tB (tOp (rI0 fun i j => V.bl (decide (i < j))) (tCB (rLen1 C (spLen C)) (tCons c1 tNil)) (tCB (rLen1 C (spLen C)) (tCons c2 tNil)))) t1 t2)
      (if es1.length < es2.length then g1 else g2) := by
  intro H Q hf k
  refine h1 H _ hf fun x H1 s1 hx => ?_
  have hx1 := hx
  obtain ⟨dx, d, e1, hd⟩ := hx1
  have l1 := hd.2.len
  refine ⟨x, _, _, rfl, e1, U, x, es1, rfl, hx, _, rfl, by omega, by omega, ?_⟩
  refine h2 H1 _ (hF _ _ s1 hf) fun y H2 s2 hy => ?_
  have hy1 := hy
  obtain ⟨dy, d2, e2, hd2⟩ := hy1
  have l2 := hd2.2.len
  refine ⟨y, _, _, rfl, e2, U, y, es2, rfl, hy, _, rfl, by omega, by omega, ?_⟩
  refine ⟨_, _, rfl, rfl, _, rfl, ?_⟩
  have hf2 := hF _ _ s2 (hF _ _ s1 hf)
  by_cases c : es1.length < es2.length
  · have c2 : ((es1.length : Nat) : Int) < ((es2.length : Nat) : Int) := by omega
    rw [if_pos c] at k
    rw [decide_eq_true c2]
    exact ht H2 _ hf2 fun z H3 s3 hz => k z H3 ((s1.trans s2).trans s3) hz
  · have c2 : ¬ ((es1.length : Nat) : Int) < ((es2.length : Nat) : Int) := by omega
    rw [if_neg c] at k
    rw [decide_eq_false c2]
    exact he H2 _ hf2 fun z H3 s3 hz => k z H3 ((s1.trans s2).trans s3) hz
end

abbrev Rl := List (Int × Str) → List (Int × Str) → Prop
def Pairs (C : Addr) (U : List Int) (R : Rl) (H : Hp) (ps : List V) : Prop := ∀ v ∈ ps, ∃ t x y es fs, v = V.ref t ∧ H t = some (.tup [.ref x, .ref y]) ∧ FS C U H x es ∧ FS C U H y fs ∧ R es fs
theorem Pairs.same {C : Addr} {U : List Int} {R : Rl} {H H' : Hp} {ps : List V} (h : Pairs C U R H ps) (s : Same H H') : Pairs C U R H' ps := fun v hv => by
  obtain ⟨t, x, y, es, fs, h1, h2, h3, h4, h5⟩ := h v hv
  exact ⟨t, x, y, es, fs, h1, s _ _ h2, h3.same s, h4.same s, h5⟩
theorem FS.upd {C : Addr} {U : List Int} {H : Hp} {D x : Addr} {ls : List V} {o : HO} {es : List (Int × Str)} (h : FS C U H x es) (e : H D = some (.lst ls)) : FS C U (upd H D o) x es := by
  obtain ⟨dx, d, h1, h2, h3⟩ := h
  refine ⟨dx, d, (upd_ne fun z => ?_).trans h1, (upd_ne fun z => ?_).trans h2, h3⟩
  · rw [z, e] at h1; cases h1
  · rw [z, e] at h2; cases h2
theorem Pairs.upd {C : Addr} {U : List Int} {R : Rl} {H : Hp} {D : Addr} {ls : List V} {o : HO} {ps : List V} (h : Pairs C U R H ps) (e : H D = some (.lst ls)) : Pairs C U R (L2.upd H D o) ps := fun v hv => by
  obtain ⟨t, x, y, es, fs, h1, h2, h3, h4, h5⟩ := h v hv
  exact ⟨t, x, y, es, fs, h1, (upd_ne fun z => by rw [z, e] at h2; cases h2).trans h2, h3.upd e, h4.upd e, h5⟩
theorem Pairs.app {C : Addr} {U : List Int} {R : Rl} {H : Hp} {ps qs : List V} (h : Pairs C U R H ps) (g : Pairs C U R H qs) : Pairs C U R H (ps ++ qs) := fun v hv => by
  rcases List.mem_append.mp hv with hv | hv
  · exact h v hv
  · exact g v hv

def DenL (C : Addr) (U : List Int) (R : Rl) (σ : L2.St) (F : Hp → Prop) (t : TA) (n : Nat) : Prop :=
  ∀ (H : Hp) (Q : List V → Hp → Prop), F H → (∀ qs H', Same H H' → qs.length = n → Pairs C U R H' qs → Q qs H') → t σ H Q
section
variable {C : Addr} {U : List Int} {R : Rl} {σ : L2.St} {F : Hp → Prop} {t1 t2 : TE} {t : TA} {es fs : List (Int × Str)} {n : Nat} {K : PySem.W.Frag}
theorem denl_nil : DenL C U R σ F tNil 0 := fun H Q _ k => k [] H (Same.refl H) rfl fun _ h => (nomatch h)
theorem denl_cons (hF : Stable F) (h1 : Den C U σ F t1 es) (h2 : Den C U σ F t2 fs) (r : R es fs) (ht : DenL C U R σ F t n) :
    DenL C U R σ F (tCons (tTup (tCons t1 (tCons t2 tNil))) t) (n + 1) := by
  intro H Q hf k
  refine h1 H _ hf fun x H1 s1 hx => h2 H1 _ (hF _ _ s1 hf) fun y H2 s2 hy => ⟨size_ok (by simp), fun p hp => ?_⟩
  have s3 := same_new hp (o := .tup [.ref x, .ref y])
  refine ht _ _ (hF _ _ s3 (hF _ _ s2 (hF _ _ s1 hf))) fun qs H4 s4 hl hp4 => ?_
  refine k _ H4 (((s1.trans s2).trans s3).trans s4) (by rw [List.length_cons, hl]) fun v hv => ?_
  rcases List.mem_cons.mp hv with rfl | hv
  · exact ⟨p, x, y, es, fs, rfl, s4 _ _ upd_same, ((hx.same s2).same s3).same s4, (hy.same s3).same s4, r⟩
  · exact hp4 v hv

structure Du (C : Addr) (U : List Int) (R : Rl) (vars : List (Addr × List (Int × Str))) (H0 : Hp) (D : Addr) (ps : List V) (H : Hp) : Prop where
  vs : ∀ p ∈ vars, FS C U H p.1 p.2
  here : H D = some (.lst ps)
  pr : Pairs C U R H ps
  fresh : H0 D = none
  ext : Ext D H0 H
def Vs (C : Addr) (U : List Int) (vars : List (Addr × List (Int × Str))) (H : Hp) : Prop := ∀ p ∈ vars, FS C U H p.1 p.2
theorem Vs.stable {vars : List (Addr × List (Int × Str))} : Stable (Vs C U vars) := fun H H' s h p hp => (h p hp).same s
theorem Du.stable {vars : List (Addr × List (Int × Str))} {H0 : Hp} {D : Addr} {ps : List V} : Stable (Du C U R vars H0 D ps) := fun H H' s h =>
  ⟨fun p hp => (h.vs p hp).same s, s _ _ h.here, h.pr.same s, h.fresh, h.ext.trans (Ext.of s)⟩
theorem du_start {vars : List (Addr × List (Int × Str))} {i : Nat} {D' : Ends} {H : Hp} (ht : DenL C U R σ (Vs C U vars) t n) (hn : n ≤ 1000) (h : Vs C U vars H)
    (k : ∀ D ps H', ps.length = n → Du C U R vars H D ps H' → D'.nx (σ.set i (some (.ref D))) H') : tAsg (tLst t) (gName i) D' σ H := by
  refine ht H _ h fun qs H1 s1 hl hq => ⟨size_ok (by omega), fun D hD => ?_⟩
  refine k D qs _ hl ⟨fun p hp => ((h p hp).same s1).same (same_new hD), upd_same, hq.same (same_new hD), s1.free hD, fun b o n e => (upd_ne n).trans (s1 _ _ e)⟩
theorem du_append {vars : List (Addr × List (Int × Str))} {H0 : Hp} {D : Addr} {ps : List V} {i : Nat} {D' : Ends} {H : Hp} (hσ : σ[i]? = some (some (.ref D)))
    (ht : DenL C U R σ (Du C U R vars H0 D ps) t 1) (hl : ps.length ≤ 1000) (h : Du C U R vars H0 D ps H)
    (k : ∀ qs H', qs.length = ps.length + 1 → Du C U R vars H0 D qs H' → D'.nx σ H') : tDrop (tBM K "list" rAppend (tVar i) t) D' σ H := by
  refine ⟨_, hσ, .inl ⟨rfl, ps, SqL.of h.here⟩, ?_⟩
  refine ht H _ h fun qs H1 s1 hq hp => ?_
  match qs, hq with
  | [y], _ =>
    have h1 := Du.stable H H1 s1 h
    refine ⟨D, ps, y, rfl, rfl, h1.here, Nat.lt_of_le_of_lt hl (by decide), ?_⟩
    refine k _ _ (by rw [List.length_append]; rfl) ⟨fun p hp => (h1.vs p hp).upd h1.here, upd_same, (h1.pr.app hp).upd h1.here, h1.fresh, fun b o n e => (upd_ne n).trans (h1.ext b o n e)⟩
theorem du_cat {vars : List (Addr × List (Int × Str))} {H0 : Hp} {D : Addr} {ps : List V} {i : Nat} {D' : Ends} {H : Hp} (hσ : σ[i]? = some (some (.ref D)))
    (ht : DenL C U R σ (Du C U R vars H0 D ps) t n) (hl : ps.length + n ≤ 1000) (h : Du C U R vars H0 D ps H)
    (k : ∀ D2 qs H', qs.length = ps.length + n → H' D2 = some (.lst qs) → Pairs C U R H' qs → Same H0 H' → D'.nx (σ.set i (some (.ref D2))) H') : tAsg (tOp rCat (tVar i) (tLst t)) (gName i) D' σ H := by
  refine ⟨_, hσ, ?_⟩
  refine ht H _ h fun qs H1 s1 hq hp => ⟨size_ok (by omega), fun p hp2 => ?_⟩
  have h1 := Du.stable H H1 s1 h
  have s2 := same_new hp2 (o := .lst qs)
  have h2 := Du.stable _ _ s2 h1
  refine ⟨D, p, ps, qs, rfl, rfl, h2.here, upd_same, size_ok (by omega), fun D2 hD2 => ?_⟩
  have s3 := same_new hD2 (o := .lst (ps ++ qs))
  have h3 := Du.stable _ _ s3 h2
  refine k D2 _ _ (by rw [List.length_append, hq]) upd_same (h3.pr.app ((hp.same s2).same s3)) fun b o e => h3.ext b o (ne_of_none e h3.fresh) e
end
end My
set_option Elab.async false
set_option maxRecDepth 100000
set_option maxHeartbeats 4000000
set_option linter.unusedVariables false
namespace My
open PySem PySem.Spec PyProof.Rows L2
theorem allB (n : Nat) : (List.replicate n true).all id = true := by
  rw [List.all_eq_true]
  intro b hb
  rw [(List.mem_replicate.mp hb).2]
  rfl

theorem pairs_all {C : Addr} {U : List Int} {R : Rl} {K : PySem.W.Frag} {σ : L2.St} {H : Hp} {D' : Ends} {i j l : Nat} {D : Addr} {qs : List V} {te : TE} (hσ : σ[i]? = some (some (.ref D))) (hD : H D = some (.lst qs)) (hp : Pairs C U R H qs) (hl : qs.length ≤ 1000)
    (hw : ∀ x y, wipe (((wipe σ [j, l]).set j x).set l y) [j, l] = wipe σ [j, l])
    (hte : ∀ x y es fs H1 (Q : VK), FS C U H1 x es → FS C U H1 y fs → R es fs → (∀ H2, Same H1 H2 → Q (.bl true) H2) → te (((wipe σ [j, l]).set j (some (.ref x))).set l (some (.ref y))) H1 Q)
    (k : ∀ H', Same H H' → D'.rt (.bl true) H') :
    tRet (tCB (rAll K) (tCons (tLc (iList K (tVar i)) (gTup K 2 (gCons (gName j) (gCons (gName l) gNil))) tYes te [j, l]) tNil)) D' σ H := by
  refine ⟨_, hσ, D, rfl, ⟨qs, SqL.of hD⟩, fun E hE => ?_⟩
  refine lc_list (xs := qs) (fun i H' => Ext E H H' ∧ H' E = some (.lst ((List.replicate i true).map V.bl))) ?_ ?_ ?_ ?_
  · exact ⟨fun b o n e => (upd_ne n).trans e, upd_same⟩
  · rintro i H' hi ⟨x, _⟩
    exact SqL.of (x _ _ (ne_of_none hD hE) hD)
  · rintro i v H' hv ⟨x, hd⟩
    obtain ⟨t, y, z, es, fs, rfl, h2, h3, h4, h5⟩ := hp v (List.mem_of_getElem? hv)
    refine ⟨t, _, rfl, .inl (.inl (x _ _ (ne_of_none h2 hE) h2)), rfl, _, _, rfl, _, _, rfl, rfl, hw _ _, ?_⟩
    have hd2 : ∀ {y es}, FS C U H y es → FS C U H' y es := by
      rintro y es ⟨dx, d, q1, q2, q3⟩
      exact ⟨dx, d, x _ _ (ne_of_none q1 hE) q1, x _ _ (ne_of_none q2 hE) q2, q3⟩
    refine hte y z es fs H' _ (hd2 h3) (hd2 h4) h5 fun H2 s2 => ?_
    refine ⟨_, s2 _ _ hd, ?_, ?_, upd_same.trans ?_⟩
    · rw [List.length_map, List.length_replicate]
      have := (List.getElem?_eq_some_iff.mp hv).1
      exact small1000 (by omega)
    · exact fun b o n e => (upd_ne n).trans (s2 _ _ (x b o n e))
    · rw [List.replicate_succ', List.map_append]
      rfl
  · rintro H' ⟨x, hd⟩
    refine ⟨E, _, rfl, SqL.of hd, ?_⟩
    rw [allB]
    exact k _ fun b o e => x b o (ne_of_none e hE) e

theorem look_mem {es : List (Int × Str)} {k : Int} {x : Str} (h : look es k = some x) : (k, x) ∈ es := by
  induction es with
  | nil => cases h
  | cons p r ih =>
    rw [look_cons] at h
    by_cases e : p.1 = k
    · rw [if_pos e] at h
      cases h
      subst e
      exact List.mem_cons_self
    · rw [if_neg e] at h
      exact List.mem_cons_of_mem _ (ih h)
theorem keys_len (es : List (Int × Str)) : (keys es).length = es.length := List.length_map _
theorem len_of_has {U V : List Int} {es fs : List (Int × Str)} (g : Good U es) (h : Good V fs) (e : ∀ k, has es k = has fs k) : es.length = fs.length := by
  rw [← keys_len, ← keys_len]
  refine Nat.le_antisymm (nodup_sub g.1 fun k hk => ?_) (nodup_sub h.1 fun k hk => ?_)
  · rw [← has_iff] at hk ⊢
    rw [← e]; exact hk
  · rw [← has_iff] at hk ⊢
    rw [e]; exact hk
theorem alike_of {U V : List Int} {es fs : List (Int × Str)} (g : Good U es) (h : Good V fs) (e : ∀ k, look es k = look fs k) : alike es fs :=
  ⟨len_of_has g h fun k => by unfold has; rw [e], fun p hp => by rw [← e]; exact look_ents g.1 hp⟩
theorem alike_same {U : List Int} {es : List (Int × Str)} (g : Good U es) : alike es es := alike_of g g fun _ => rfl
theorem Good.smaller {U : List Int} {es fs : List (Int × Str)} (g : Good U es) (h : Good U fs) : Good U (smaller es fs) := by
  unfold My.smaller
  split
  · exact g.common fs
  · exact h.common es
theorem Good.apart {U : List Int} {es fs : List (Int × Str)} (g : Good U es) (h : Good U fs) : Good U (apart es fs) := (g.rest fs).united (h.rest es)
theorem look_apart (es fs : List (Int × Str)) (k : Int) : look (apart es fs) k = (if (look fs k).isSome = true then none else look es k).or (if (look es k).isSome = true then none else look fs k) := by
  unfold apart
  rw [look_united, look_rest, look_rest]
theorem has_united (es fs : List (Int × Str)) (k : Int) : has (united es fs) k = (has es k || has fs k) := by
  unfold has; rw [look_united]; cases look es k <;> rfl
theorem has_common (es fs : List (Int × Str)) (k : Int) : has (common es fs) k = (has es k && has fs k) := by
  unfold has; rw [look_common]; cases look es k <;> cases look fs k <;> rfl
theorem has_rest (es fs : List (Int × Str)) (k : Int) : has (rest es fs) k = (has es k && !has fs k) := by
  unfold has; rw [look_rest]; cases look es k <;> cases look fs k <;> rfl
theorem has_apart (es fs : List (Int × Str)) (k : Int) : has (apart es fs) k = ((has es k && !has fs k) || (has fs k && !has es k)) := by
  unfold apart; rw [has_united, has_rest, has_rest]
theorem has_smaller (es fs : List (Int × Str)) (k : Int) : has (smaller es fs) k = (has es k && has fs k) := by
  unfold smaller
  split
  · exact has_common es fs k
  · rw [has_common, Bool.and_comm]
theorem good_if {U : List Int} {c : Prop} [Decidable c] {es fs : List (Int × Str)} (g : Good U es) (h : Good U fs) : Good U (if c then es else fs) := by
  split
  · exact g
  · exact h
def likeK : Rl := fun es fs => likeKeys es fs ∧ es.length = fs.length
theorem likeK_of {U V : List Int} {es fs : List (Int × Str)} (g : Good U es) (h : Good V fs) (e : ∀ k, has es k = has fs k) : likeK es fs := ⟨e, len_of_has g h e⟩
end My
set_option Elab.async false
set_option maxRecDepth 100000
set_option maxHeartbeats 4000000
set_option linter.unusedVariables false
namespace My
open PySem PySem.Spec PyProof.Rows L2
theorem sqT_chg {K : PySem.W.Frag} {H H' : Hp} {a t : Addr} {ls xs : List V} (e : H a = some (.lst ls)) (x : Ext a H H') (h : SqT K H t xs) : SqT K H' t xs := by
  rcases h with (h | ⟨o, h⟩) | h
  · exact .inl (.inl (x _ _ (fun z => by rw [z, e] at h; cases h) h))
  · exact .inl (.inr ⟨o, x _ _ (fun z => by rw [z, e] at h; cases h) h⟩)
  · exact .inr h
theorem ElAll.chg {K : PySem.W.Frag} {H H' : Hp} {a : Addr} {ls : List V} (e : H a = some (.lst ls)) (x : Ext a H H') : ∀ {vs : List V} {es : List (Int × Str)}, ElAll K H vs es → ElAll K H' vs es
  | _, _, .nil => .nil
  | _, _, .cons h hk hx r => .cons (sqT_chg e x h) hk hx (ElAll.chg e x r)
theorem ElAll.app {K : PySem.W.Frag} {H : Hp} {t : Addr} {k : Int} {x : Str} (h : SqT K H t [.int k, .str x]) (hk : 0 ≤ k ∧ k ≤ 999999) (hx : nameOk x = true) :
    ∀ {vs : List V} {es : List (Int × Str)}, ElAll K H vs es → ElAll K H (vs ++ [.ref t]) (es ++ [(k, x)])
  | _, _, .nil => .cons h hk hx .nil
  | _, _, .cons h1 hk1 hx1 r => .cons h1 hk1 hx1 (ElAll.app h hk hx r)
theorem firsts_from : ∀ (l acc : List (Int × Str)), (keys acc).Nodup →
    (keys (l.foldl (fun acc p => if has acc p.1 = true then acc else acc ++ [p]) acc)).Nodup ∧
    ∀ k ∈ keys (l.foldl (fun acc p => if has acc p.1 = true then acc else acc ++ [p]) acc), k ∈ keys acc ∨ k ∈ keys l
  | [], acc, nd => ⟨nd, fun k h => .inl h⟩
  | p :: r, acc, nd => by
    rw [List.foldl_cons]
    by_cases h : has acc p.1 = true
    · rw [if_pos h]
      obtain ⟨h1, h2⟩ := firsts_from r acc nd
      exact ⟨h1, fun k hk => (h2 k hk).imp id (List.mem_cons_of_mem _)⟩
    · rw [if_neg h]
      have nd2 : (keys (acc ++ [p])).Nodup := by
        rw [keys_app]
        refine List.nodup_append.mpr ⟨nd, List.nodup_cons.mpr ⟨List.not_mem_nil, List.nodup_nil⟩, fun a ha b hb e => ?_⟩
        have : b = p.1 := by simpa [keys] using hb
        subst this
        subst e
        exact h (has_iff.mpr ha)
      obtain ⟨h1, h2⟩ := firsts_from r _ nd2
      refine ⟨h1, fun k hk => ?_⟩
      rcases h2 k hk with q | q
      · rw [keys_app] at q
        rcases List.mem_append.mp q with q | q
        · exact .inl q
        · exact .inr (by simp [keys] at q ⊢; exact .inl q)
      · exact .inr (List.mem_cons_of_mem _ q)
theorem good_firsts {U : List Int} {l : List (Int × Str)} (h : ∀ p ∈ l, p.1 ∈ U) (hU : U.length ≤ 1000) : Good U (firsts l) := by
  obtain ⟨h1, h2⟩ := firsts_from l [] List.nodup_nil
  refine ⟨h1, fun k hk => ?_, hU⟩
  rcases h2 k hk with q | q
  · cases q
  · obtain ⟨p, hp, rfl⟩ := List.mem_map.mp q
    exact h p hp
theorem below_len (m : Nat) : (below m).length = m := by unfold below; rw [List.length_map, List.length_range]
theorem below_mem {m : Nat} {k : Int} (h0 : 0 ≤ k) (h1 : k < m) : k ∈ below m := by
  unfold below
  refine List.mem_map.mpr ⟨k.toNat, List.mem_range.mpr (by omega), by omega⟩
theorem name_two : ∀ x : Str, (x = "p" ∨ x = "q" ∨ x = "r") → ∀ y : Str, (y = "x" ∨ y = "y") → nameOk (x ++ y) = true := by
  rintro x (rfl | rfl | rfl) y (rfl | rfl) <;> decide +kernel
theorem made_same {H : Hp} {x dx C : Addr} {fs : List (Str × V)} (hx : H x = none) (hdx : H dx = none) (hne : dx ≠ x) : Same H (upd (upd H dx (.own x)) x (.ins C dx fs)) :=
  (same_new hdx).trans (same_new ((upd_ne (Ne.symm hne)).trans hx))
theorem FS.chg {C : Addr} {U : List Int} {H H' : Hp} {g x : Addr} {ls : List V} {es : List (Int × Str)} (e : H g = some (.lst ls)) (s : Ext g H H') (h : FS C U H x es) : FS C U H' x es := by
  obtain ⟨dx, d, h1, h2, h3⟩ := h
  exact ⟨dx, d, s _ _ (fun z => by rw [z, e] at h1; cases h1) h1, s _ _ (fun z => by rw [z, e] at h2; cases h2) h2, h3⟩
theorem FSs.chg {C : Addr} {U : List Int} {H H' : Hp} {g : Addr} {ls : List V} (e : H g = some (.lst ls)) (s : Ext g H H') : ∀ {vs : List V} {es : List (List (Int × Str))}, FSs C U H vs es → FSs C U H' vs es
  | _, _, .nil => .nil
  | _, _, .cons h r => .cons (h.chg e s) (FSs.chg e s r)
theorem FSs.app {C : Addr} {U : List Int} {H : Hp} {x : Addr} {es : List (Int × Str)} (h : FS C U H x es) : ∀ {vs : List V} {ls : List (List (Int × Str))}, FSs C U H vs ls → FSs C U H (vs ++ [.ref x]) (ls ++ [es])
  | _, _, .nil => .cons h .nil
  | _, _, .cons h1 r => .cons h1 (FSs.app h r)
theorem ext_del {g : Addr} {H H' : Hp} (s : Same (del g H) (del g H')) : Ext g H H' := fun b o n e => by
  have q := s b o ((del_at n).trans e)
  rw [del_at n] at q
  exact q
theorem FSs.pick {C : Addr} {U : List Int} {H : Hp} {vs : List V} {ls : List (List (Int × Str))} (h : FSs C U H vs ls) {i : Int} (h0 : 0 ≤ i) (h1 : i < vs.length) : ∃ x es, atI vs i = some (.ref x) ∧ FS C U H x es := by
  have hlt : i.toNat < vs.length := by omega
  obtain ⟨x, es, e, _, f⟩ := h.at (List.getElem?_eq_getElem hlt)
  refine ⟨x, es, ?_, f⟩
  rw [← e]
  unfold atI ixN
  rw [if_pos h0, if_pos h1]
  simp [hlt]
end My
set_option Elab.async false
set_option maxRecDepth 100000
set_option maxHeartbeats 4000000
set_option linter.unusedVariables false
namespace My
open PySem PySem.Spec PyProof.Rows L2

theorem above_go (n : Nat) : ∀ fuel size, SetTable.sizeAbove.go n fuel size ≤ max size (2 * n)
  | 0, size => by unfold SetTable.sizeAbove.go; exact Nat.le_max_left _ _
  | fuel + 1, size => by
    unfold SetTable.sizeAbove.go
    split
    · have := above_go n fuel (size * 2)
      omega
    · exact Nat.le_max_left _ _
theorem above_le {n : Nat} (h : n ≤ 100000) : ¬ SetTable.sizeAbove n > sizeLine := by
  have := above_go n 64 8
  have e : SetTable.sizeAbove n = SetTable.sizeAbove.go n 64 8 := rfl
  rw [e]
  have z : (200000 : Nat) ≤ sizeLine := by decide
  omega
theorem clean_nil (m : Nat) : SetTable.layClean m #[] = some (Array.replicate (m + 1) none) := rfl
theorem none_all (m j : Nat) : (Array.replicate m (none : Option Nat)).getD j none = none := by
  simp [Array.getD]
theorem live_nil (m : Nat) : ((List.range (m + 1)).filterMap fun j => ((Array.replicate (m + 1) (none : Option Nat)).getD j none).map (j, ·)) = [] := by
  rw [List.filterMap_eq_nil_iff]
  intro j _
  rw [none_all]
  rfl
theorem relaid_nil (t : SetTable) (wanted : Nat) : ∃ t', t.relaid #[] wanted = some (t', #[]) ∧ t'.place = #[] ∧ t'.dummies = #[] ∧ t'.led = t.led := by
  unfold SetTable.relaid SetTable.laid
  rw [clean_nil]
  refine ⟨⟨SetTable.sizeAbove wanted - 1, #[], #[], t.finger, t.led, t.movedTo (SetTable.sizeAbove wanted - 1), t.plain⟩, ?_, rfl, rfl, rfl⟩
  show some _ = some _
  rw [live_nil]
  rfl
section
variable {P : Program} {w : World} {s : Shared} {A : Around} {E : Value → Shared → Prop}
theorem room_for {a : Addr} {n ep : Nat} {o : Obj} {t : SetTable} {Q : Unit → Shared → Prop} (hn : n ≤ 1000) (ho : s.heap.get? a = some o) (hx : o.ExactSet) (hd : o.data = .set #[] ep t) (hp : t.place = #[]) (hdm : t.dummies = #[])
    (hl : w.params.followText "set-order" = true ∨ t.led = true)
    (h : ∀ h', Heap.SameBut a s.heap h' → SetR w h' a (fun _ => false) 0 → Q () { s with heap := h' }) : wpAny (model P w) A (setRoomFor a n) Q E s := by
  have hf : t.fits (#[] : Array (Int × Value)).size = true := by
    unfold SetTable.fits SetTable.fill
    rw [hp, hdm]
    rfl
  unfold setRoomFor
  refine wpAny_bind (wpAny_setState_of ho hd hf ?_)
  dsimp only
  have stay : SetR w s.heap a (fun _ => false) 0 := ⟨o, #[], ep, t, ho, hx, hd, (fun e he => by simp at he), (by simp), (fun k => by simp), (by decide), hf, rfl, by rw [hp]; exact List.Pairwise.nil, hl⟩
  cases hr : t.roomFor n with
  | none =>
    dsimp only
    exact wpAny_pure (h _ (Heap.SameBut.refl a s.heap) stay)
  | some wanted =>
    dsimp only
    have hw : wanted ≤ 100000 := by
      unfold SetTable.roomFor at hr
      split at hr
      · cases hr
        rw [hp]
        show (0 + n) * 2 ≤ 100000
        omega
      · cases hr
    obtain ⟨t', e1, e2, e3, e4⟩ := relaid_nil t wanted
    unfold setRelay
    refine wpAny_bind (wpAny_setState_of ho hd hf ?_)
    dsimp only
    refine wp_if_neg (above_le hw) ?_
    have er : (#[] : Array (Int × Value)).map (·.1) = #[] := by simp
    rw [er, e1]
    refine wpAny_bind (wpAny_pure (M := model P w) (A := A) (E := E) (s := s) (a := ((#[] : Array (Int × Value)), t')) ?_)
    refine wpAny_storeSet_of ho hd (h _ (Heap.SameBut.update s.heap a (Obj.putSet #[] t')) ?_) (by show 0 ≤ sizeLine; exact Nat.zero_le _)
    refine ⟨_, #[], _, t', store_at ho hd, hx, rfl, (fun e he => by simp at he), (by simp), (fun k => by simp), (by decide), ?_, rfl, by rw [e2]; exact List.Pairwise.nil, hl.imp id fun z => by rw [e4]; exact z⟩
    unfold SetTable.fits SetTable.fill
    rw [e2, e3]
    rfl

def IntKeys (es : Array DictEntry) (ns : List Int) : Prop := es.size = ns.length ∧ ∀ (i : Nat) (n : Int), ns[i]? = some n → ∃ (e : DictEntry) (tk : Tok), es[i]? = some e ∧ e.key = Value.int n tk ∧ e.hash = hashInt n

abbrev bare (w : World) : Obj := { cls := .type "set", dict := none, data := .set #[] 0 (.fresh 0 0 (!w.params.followText "set-order")) }
theorem bare_led (w : World) : w.params.followText "set-order" = true ∨ (SetTable.fresh 0 0 (!w.params.followText "set-order")).led = true := by
  show w.params.followText "set-order" = true ∨ (!w.params.followText "set-order") = true
  cases q : w.params.followText "set-order" <;> simp
theorem not_before {ns : List Int} {i : Nat} (nd : ns.Nodup) (h : i < ns.length) : ns[i] ∉ ns.take i := by
  intro z
  have e := List.take_append_drop i ns
  rw [← e] at nd
  refine (List.nodup_append.mp nd).2.2 _ z _ ?_ rfl
  rw [List.mem_iff_getElem?]
  exact ⟨0, by rw [List.getElem?_drop]; exact List.getElem?_eq_getElem h⟩
set_option maxHeartbeats 3200000 in
theorem call_set_dict {l : Addr} {od : Obj} {es : Array DictEntry} {ep : Nat} (ns : List Int) {Q : Value → Shared → Prop} (hl : s.heap.get? l = some od) (hcd : od.cls = .type "dict") (hod : od.data = .dict es ep)
    (hsm : (l == sysModules) = false) (hk : IntKeys es ns) (nd : ns.Nodup) (hb : ns.length ≤ 1000)
    (done : ∀ h' : Heap, SetR w h' s.heap.objs.size (fun j => decide (j ∈ ns)) ns.length → (∀ b o, s.heap.get? b = some o → h'.get? b = some o) → Q (.ref s.heap.objs.size) { s with heap := h' }) :
    wpAny (model P w) A (call (.type "set") [.ref l]) Q E s := by
  obtain ⟨_, _, m1⟩ := F.called_set.mro
  have m2 := F.called_set.made; have m3 := F.called_set.sub; have m4 := F.called_set.notType; have m5 := F.called_set.canCreate
  have m6 := F.typeCall_set_1 (.ref l)
  refine wpAny_call (codeAny_of_tree (show wpAny _ _ (callAny (.type "set") _) _ _ _ from wpAny_pure ⟨Code.quiet_builtin _ (by decide +kernel), codeAny_builtin F.entry_type_call ?_⟩))
  rw [Around.under_plain (weight_type_call_type "set" [Value.ref l] []) rfl]
  repeat any_goals first | assumption | wp_step
  refine codeAny_mono (code_set_led1 (.ref l) (E := E) (Q₁ := fun x s₁ => x = .ref s.heap.objs.size ∧ s₁ = { s with heap := s.heap.push (bare w) }) ⟨rfl, rfl⟩) ?_
  rintro (e | fl) s₁ hr
  · exact hr
  cases fl with
  | next | brk | cont => exact hr.elim
  | ret obj =>
    obtain ⟨rfl, rfl⟩ := hr
    have at0 : (s.heap.push (bare w)).get? s.heap.objs.size = some (bare w) := Heap.get?_push_size _ rfl
    have ty : Shared.TypeIs { s with heap := s.heap.push (bare w) } (.ref s.heap.objs.size) "set" := ⟨_, at0, rfl⟩
    have m7 := F.called_set.init.lookup; have m8 := F.called_set.init.bind (.ref s.heap.objs.size)
    repeat any_goals first | assumption | wp_step
    refine codeAny_mono (codeAny_call_builtin (R := wants (fun r s₂ => r = .none ∧ ∃ h', s₂ = { s with heap := h' } ∧ SetR w h' s.heap.objs.size (fun j => decide (j ∈ ns)) ns.length ∧
        ∀ b o, s.heap.get? b = some o → h'.get? b = some o) E) F.called_set.init.plain F.entry_set_init (check_set_init_1 ty ?body)) ?back
    case back =>
      rintro (e | fl) s₂ hr
      · exact hr
      cases fl with
      | next | brk | cont => exact hr.elim
      | ret r =>
        obtain ⟨rfl, h', rfl, hS, hK⟩ := hr
        repeat any_goals first | assumption | wp_step
        exact done _ hS hK
    case body =>
      obtain ⟨oc, odi, oda, osl⟩ := od
      simp only at hcd hod
      subst hcd hod
      have lt : l < s.heap.objs.size := Heap.lt_size hl
      have at1 : (s.heap.push (bare w)).get? l = some { cls := .type "dict", dict := odi, data := .dict es ep, slots := osl } := Heap.get?_push_of_some _ hl
      have n1 := F.sub_dict_set; have n2 := F.sub_dict_frozenset
      have n3 : (Value.type "dict" == Value.type "dict") = true := by decide
      unfold Builtin.«set.__init__»; unfold noKeywords Builtin.Frozenset.updateFrom
      generalize hRF : setRoomFor = RF
      wp_walk
      subst hRF
      have size : es.size = ns.length := hk.1
      refine room_for (t := .fresh 0 0 (!w.params.followText "set-order")) (by omega) at0 ⟨rfl, rfl, rfl⟩ rfl rfl rfl (bare_led w) fun h1 b1 r1 => ?_
      have ne : l ≠ s.heap.objs.size := Nat.ne_of_lt lt
      have at2 : ∀ h2 : Heap, Heap.SameBut s.heap.objs.size h1 h2 → h2.get? l = some { cls := .type "dict", dict := odi, data := .dict es ep, slots := osl } := by
        intro h2 b2
        rw [b2.2 l ne, b1.2 l ne]
        exact at1
      refine wpAny_bind (wpAny_dictEntries (at2 h1 (Heap.SameBut.refl _ h1)) rfl ?_)
      refine wpAny_bind (PySem.SeqAt.wpAny_forIn_span 0 es.size _ (fun i _ s' => ∃ h', s' = { s with heap := h' } ∧ Heap.SameBut s.heap.objs.size h1 h' ∧ SetR w h' s.heap.objs.size (fun j => decide (j ∈ ns.take i)) i) _ ?turn ?out _ ?start)
      case start => exact ⟨h1, rfl, Heap.SameBut.refl _ h1, by simpa using r1⟩
      case out =>
        rintro _ _ ⟨h2, rfl, b2, r2⟩
        rw [Nat.zero_max, size, List.take_length] at r2
        refine wpAny_pure ?_
        show wpAny _ _ (ret .none) _ _ _
        refine wpAny_pure ⟨rfl, h2, rfl, r2, fun b o e => ?_⟩
        have nb : b ≠ s.heap.objs.size := Nat.ne_of_lt (Heap.lt_size e)
        rw [b2.2 b nb, b1.2 b nb]
        exact (Heap.get?_push_of_some _ e)
      case turn =>
        rintro i _ _ _ hi ⟨h2, rfl, b2, r2⟩
        have hlt : i < ns.length := by omega
        obtain ⟨e, tk, e1, e2, e3⟩ := hk.2 i ns[i] (List.getElem?_eq_getElem hlt)
        refine wpAny_bind (wpAny_dictEntries (at2 h2 b2) rfl ?_)
        rw [e1]
        dsimp only
        rw [e2, e3]
        have fresh := not_before nd hlt
        refine wpAny_bind (wpAny_holding (setR_add_hashed (s := { s with heap := h2 }) r2 (by rw [show scanBound = 4096 from rfl]; omega) fun h3 b3 r3 => ?_))
        refine wpAny_bind (wpAny_dictEpoch (at2 h3 (b2.trans b3)) rfl ?_)
        rw [bne_self_eq_false]
        refine wpAny_pure ⟨h3, rfl, b2.trans b3, ?_⟩
        rw [decide_eq_false fresh, if_neg (by simp)] at r3
        refine r3.congr fun j => ?_
        rw [take_one (List.getElem?_eq_getElem hlt), ← Bool.decide_or]
        exact decide_eq_decide.mpr (by rw [List.mem_append, List.mem_singleton])
end
end My
set_option Elab.async false
set_option maxRecDepth 100000
set_option maxHeartbeats 4000000
set_option linter.unusedVariables false
namespace My
open PySem PySem.Spec PyProof.Rows L2
theorem slot_set_eq : Slot "set" (cmpInfo .Eq).2.1 "set.__eq__" :=
  .of (owner := "set") (n := "__eq__") (by rw [typeLookup_type, builtinLookup_eq_fast]; kernel_rfl) (by decide +kernel) (by decide +kernel) (by decide +kernel) (by first | exact .inl (by decide +kernel) | exact .inr (by decide +kernel)) (by rw [isSubtype_type]; kernel_rfl)
theorem entry_set_eq : entryFor table "set.__eq__" = some Builtin.«frozenset.__eq__» :=
  entryFor_alias (id' := "frozenset.__eq__") (by kernel_rfl) rfl (by decide +kernel) (by kernel_rfl)
theorem args_set_eq_2 (a b : Value) : argsOk "set.__eq__" ⟨[a, b], []⟩ := by unfold argsOk; kernel_rfl
section
variable {P : Program} {w : World} {A : Around} {E : Value → Shared → Prop} {s : Shared}
theorem quiet_int {k : Int} {tk : Tok} {A' : Around} {Q : Bool → Shared → Prop} (h : Q true s) : wpAny (model P w) A' (Builtin.Frozenset.quietEq (.int k tk)) Q E s := wpAny_pure h
theorem is_int {k : Int} {v : Value} (h : (intKind P w).is k v = true) : ∃ tk, v = .int k tk := Value.isInt_shape h
theorem walk_quiet {a b : Addr} {oa ob : Obj} {ea eb : Array (Int × Value)} {epa epb : Nat} {ta tb : SetTable} {A' : Around} {Q : List (Int × Value) → Shared → Prop} (hoa : s.heap.get? a = some oa) (hda : oa.data = .set ea epa ta) (hfa : ta.fits ea.size = true)
    (hob : s.heap.get? b = some ob) (hdb : ob.data = .set eb epb tb) (hfb : tb.fits eb.size = true) (ga : ElemsOf (intKind P w) ea.toList) (gb : ElemsOf (intKind P w) eb.toList) (h : Q ea.toList s) :
    wpAny (model P w) A' (Builtin.Frozenset.walkUnseen a b) Q E s := by
  have se : ∀ {c : Addr} {o : Obj} {es : Array (Int × Value)} {ep : Nat} {t : SetTable} {Q' : Array (Int × Value) → Shared → Prop}, s.heap.get? c = some o → o.data = .set es ep t → t.fits es.size = true → Q' es s →
      wpAny (model P w) A' (setEntries c) Q' E s := by
    intro c o es ep t Q' ho hd hf h
    unfold setEntries
    exact wpAny_bind (wpAny_setState_of ho hd hf (wpAny_pure h))
  unfold Builtin.Frozenset.walkUnseen
  refine wpAny_bind (se hoa hda hfa ?_)
  refine wpAny_bind (se hob hdb hfb ?_)
  refine wpAny_bind (wpAny_forIn_list _ (fun rest r s' => r.1 = none ∧ s' = s ∧ ∀ e ∈ rest, ∃ k tk, e.2 = Value.int k tk) _ ?_ ?_ _ _ ?_)
  · rintro ⟨hh, x⟩ rest r s' ⟨hr, rfl, hi⟩
    obtain ⟨k, tk, e⟩ := hi _ List.mem_cons_self
    dsimp only at e
    subst e
    refine wpAny_bind (quiet_int ?_)
    simp only [Bool.not_true, Bool.false_eq_true, if_false]
    exact wpAny_pure ⟨rfl, rfl, fun e he => hi e (List.mem_cons_of_mem _ he)⟩
  · rintro ⟨r, u⟩ s' ⟨hr, rfl, _⟩
    dsimp only at hr
    subst hr
    exact wpAny_pure h
  · refine ⟨rfl, rfl, fun e he => ?_⟩
    rcases List.mem_append.mp he with he | he
    · obtain ⟨⟨k, hk, _⟩, _⟩ := ga e he
      obtain ⟨tk, q⟩ := is_int hk
      exact ⟨k, tk, q⟩
    · obtain ⟨⟨k, hk, _⟩, _⟩ := gb e he
      obtain ⟨tk, q⟩ := is_int hk
      exact ⟨k, tk, q⟩
theorem subset_true {a b : Addr} {S : Int → Bool} {n : Nat} {nm : String} {A' : Around} {Q : Bool → Shared → Prop} (ha : s.heap.SetOf (intKind P w) a S n) (hb : s.heap.SetOf (intKind P w) b S n) (h : Q true s) :
    wpAny (model P w) A' (Builtin.Frozenset.subsetOf nm a b) Q E s := by
  obtain ⟨oa, ea, epa, ta, hoa, hxa, hda, hela, hma, hba, hfa, hna⟩ := id ha
  obtain ⟨ob, eb, epb, tb, hob, hxb, hdb, helb, hmb, hbb, hfb, hnb⟩ := id hb
  have sz : ∀ {c : Addr} {o : Obj} {es : Array (Int × Value)} {ep : Nat} {t : SetTable} {Q' : Nat → Shared → Prop} {A' : Around}, s.heap.get? c = some o → o.data = .set es ep t → t.fits es.size = true → Q' es.size s →
      wpAny (model P w) A' (Builtin.Frozenset.sizeOf c) Q' E s := by
    intro c o es ep t Q' A' ho hd hf h
    unfold Builtin.Frozenset.sizeOf setEntries
    exact wpAny_bind (wpAny_bind (wpAny_setState_of ho hd hf (wpAny_pure (wpAny_pure h))))
  unfold Builtin.Frozenset.subsetOf
  refine wpAny_bind (sz hoa hda hfa ?_)
  refine wpAny_bind (sz hob hdb hfb ?_)
  rw [hna, hnb, if_neg (by omega)]
  refine wpAny_bind (wpAny_setEpoch_of hoa hda hfa ?_)
  refine wpAny_bind (walk_quiet hoa hda hfa hob hdb hfb hela helb ?_)
  refine wpAny_bind (wpAny_forIn_list _ (fun rest r s' => r.1 = none ∧ s' = s ∧ ∀ e ∈ rest, e ∈ ea.toList) _ ?_ ?_ _ _ ?_)
  · rintro ⟨hh, x⟩ rest r s' ⟨hr, rfl, hi⟩
    have hm := hi _ List.mem_cons_self
    obtain ⟨⟨k, hk, hq⟩, hsc⟩ := hela _ hm
    dsimp only at hk hq hsc
    subst hq
    have hS : S k = true := (hma k).2 ⟨_, hm, hk⟩
    refine wpAny_bind (wpAny_holding (wpAny_setFind_of (knd := intKind P w) hk hsc hb fun r hr => ?_))
    cases r with
    | none => rw [hS] at hr; cases hr
    | some j =>
      simp only [Option.isNone_some, Bool.false_eq_true, if_false]
      unfold Builtin.Frozenset.unchanged
      refine wpAny_bind (wpAny_bind (wpAny_setEpoch_of hoa hda hfa ?_))
      rw [bne_self_eq_false]
      simp only [Bool.false_eq_true, if_false]
      exact wpAny_pure (wpAny_pure ⟨rfl, rfl, fun e he => hi e (List.mem_cons_of_mem _ he)⟩)
  · rintro ⟨r, u⟩ s' ⟨hr, rfl, _⟩
    dsimp only at hr
    subst hr
    exact wpAny_pure h
  · exact ⟨rfl, rfl, fun e he => he⟩
theorem set_eq {a b : Addr} {S : Int → Bool} {n : Nat} {Q : Value → Shared → Prop} (ha : s.heap.SetOf (intKind P w) a S n) (hb : s.heap.SetOf (intKind P w) b S n) (hu : A.units < cLine) (h : Q (.bool true) s) :
    wpAny (model P w) A (compareOp .Eq (.ref a) (.ref b)) Q E s := by
  refine wpAny_richCompare_same_room (op := .Eq) ha.typeIs hb.typeIs slot_set_eq (wpAny_call_entry slot_set_eq ha.typeIs entry_set_eq ?_ (args_set_eq_2 _ _)) hu
  have f1 := F.sub_set_set
  obtain ⟨oa, ea, epa, ta, hoa, hxa, hda, hela, hma, hba, hfa, hna⟩ := id ha
  obtain ⟨ob, eb, epb, tb, hob, hxb, hdb, helb, hmb, hbb, hfb, hnb⟩ := id hb
  obtain ⟨ac, ad, adt, asl⟩ := oa
  obtain ⟨bc, bd, bdt, bsl⟩ := ob
  simp only at hda hdb
  have hca : ac = .type "set" := hxa.1
  have hcb : bc = .type "set" := hxb.1
  subst hda hdb hca hcb
  have f2 := F.sub_set_frozenset
  have sz : ∀ {c : Addr} {o : Obj} {es : Array (Int × Value)} {ep : Nat} {t : SetTable} {Q' : Nat → Shared → Prop} {A' : Around}, s.heap.get? c = some o → o.data = .set es ep t → t.fits es.size = true → Q' es.size s →
      wpAny (model P w) A' (Builtin.Frozenset.sizeOf c) Q' E s := by
    intro c o es ep t Q' A' ho hd hf h
    unfold Builtin.Frozenset.sizeOf setEntries
    exact wpAny_bind (wpAny_bind (wpAny_setState_of ho hd hf (wpAny_pure (wpAny_pure h))))
  unfold Builtin.«frozenset.__eq__»
  refine wpAny_bind ?_
  generalize hSZ : Builtin.Frozenset.sizeOf = SZ
  generalize hSB : Builtin.Frozenset.subsetOf = SB
  wp_walk
  subst hSZ
  refine sz hoa rfl hfa ?_
  refine wpAny_bind (sz hob rfl hfb ?_)
  rw [hna, hnb, bne_self_eq_false]
  wp_walk
  subst hSB
  refine subset_true ha hb ?_
  exact wpAny_pure ⟨_, rfl, fun z => (nomatch z), h⟩
end
end My
set_option Elab.async false
set_option maxRecDepth 100000
set_option maxHeartbeats 4000000
set_option linter.unusedVariables false
namespace My
open PySem PySem.Spec PyProof.Rows L2
theorem FunV.bindsFull {K : PySem.W.Frag} {x qual : Str} {st : Stmt} {f t : Addr} {fd : FuncData} {o : Obj} {v : Value} {m : Nat} {ps : List Str} (F : FunV K x qual st (.ref t) f fd) (lt : K.lookup t = some o) (ot : o.data = .seq #[v] m)
    (h : ∀ (kV doc pm : Value) (an : Option Addr) (cdv ct : Value) (us : List Value), us.length = ps.length →
      ∃ k, bindArgs (PySem.W.fnOf x qual (defArgs st) (defBody st) (defScope st) (.ref t) kV doc pm an cdv ct) ⟨us, []⟩ = seqItems? (.ref t) >>= k ∧ k (some #[v]) = pure (ps.zip us)) : Binds K fd ps [] := by
  obtain ⟨oc, od, kV, doc, pm, an, cdv, ct, osl, rfl, lk, hcd⟩ := F.ex
  intro s us X hlen
  rw [List.append_nil] at hlen ⊢
  obtain ⟨k, e1, e2⟩ := h kV doc pm an cdv ct us hlen
  refine BindsTo.of_looks fun M => ?_
  rw [e1]
  exact looks_items X lt ot (.of_pure e2)
section
variable {X : Cx}
def rSetD : List V → Hp → VK → Prop := fun xs H Q => ∃ (d : Addr) (es : List (Int × Str)), xs = [.ref d] ∧ H d = some (.dK (ents es)) ∧ (keys es).Nodup ∧ es.length ≤ 1000 ∧
  ∀ p, H p = none → Q (.ref p) (upd H p (.set (has es) es.length))
theorem KV.at_key {kvs : List (Key × V)} {vs : List (Key × Value)} (r : KV kvs vs) : ∀ {i : Nat} {k : Key} {v : V}, kvs[i]? = some (k, v) → ∃ u, vs[i]? = some (k, u) := by
  unfold KV at r
  induction r with
  | nil => intro i k v h; simp at h
  | cons h r ih =>
    intro i k v e
    cases i with
    | zero =>
      cases Option.some.inj e
      obtain ⟨h1, _⟩ := h
      dsimp only at h1
      subst h1
      exact ⟨_, rfl⟩
    | succ i => exact ih e
theorem pairs_at {P : Program} {w : World} {l : List DictEntry} {vs : List (Key × Value)} (r : PySem.Pairs (mixKind P w) l vs) : ∀ {i : Nat} {k : Key} {u : Value}, vs[i]? = some (k, u) → ∃ e, l[i]? = some e ∧ (mixKind P w).is k e.key = true := by
  induction r with
  | nil => intro i k v h; simp at h
  | cons h1 h2 r ih =>
    intro i k v e
    cases i with
    | zero =>
      cases Option.some.inj e
      exact ⟨_, rfl, h1⟩
    | succ i => exact ih e
theorem pairs_len {P : Program} {w : World} {l : List DictEntry} {vs : List (Key × Value)} (r : PySem.Pairs (mixKind P w) l vs) : l.length = vs.length := by
  induction r with
  | nil => rfl
  | cons h1 h2 r ih => rw [List.length_cons, List.length_cons, ih]
theorem kv_len {kvs : List (Key × V)} {vs : List (Key × Value)} (r : KV kvs vs) : kvs.length = vs.length := by
  unfold KV at r
  induction r with
  | nil => rfl
  | cons h r ih => rw [List.length_cons, List.length_cons, ih]
theorem int_keys {P : Program} {w : World} {es : List (Int × Str)} {vs : List (Key × Value)} {ed : Array DictEntry} (kv : KV (ents es) vs) (ks : KeysOf (mixKind P w) ed) (pr : PySem.Pairs (mixKind P w) ed.toList vs) : IntKeys ed (keys es) := by
  refine ⟨?_, fun i n h => ?_⟩
  · rw [← Array.length_toList, pairs_len pr, ← kv_len kv, ents_len, keys_len]
  · unfold keys at h
    rw [List.getElem?_map] at h
    cases q : es[i]? with
    | none => rw [q] at h; cases h
    | some p =>
      rw [q] at h
      cases h
      have e1 : (ents es)[i]? = some (.inl p.1, .str p.2) := by unfold ents; rw [List.getElem?_map, q]; rfl
      obtain ⟨u, e2⟩ := KV.at_key kv e1
      obtain ⟨e, e3, e4⟩ := pairs_at pr e2
      rw [Array.getElem?_toList] at e3
      obtain ⟨k, hk1, hk2⟩ := ks e (Array.mem_of_getElem? e3)
      have : k = .inl p.1 := (mixKind P w).inj _ _ _ hk1 e4
      subst this
      rcases keyIs_shape (k := .inl p.1) (v := e.key) e4 with ⟨j, t, z, e5⟩ | ⟨x, t, z, e5⟩
      · cases z
        exact ⟨e, t, e3, e5, hk2⟩
      · cases z
theorem call_setD (hc : X.calm = true) : CallR X (.type "set") rSetD := by
  intro pins s σ H xs us Q I r h
  obtain ⟨d, es, rfl, hd, nd, hl, q⟩ := h
  obtain ⟨u, rfl, ru⟩ := vals1 r
  obtain rfl : u = Value.ref d := ru
  obtain ⟨_, hs, vs, kv, o, ed, ep, ho, hx, hdt, ks, pr, _⟩ := dk_of I.hok hd
  refine call_set_dict (keys es) ho hx.1 hdt hs (int_keys kv ks pr) nd (by rw [keys_len]; exact hl) fun h' R k => ?_
  have R2 : SetR X.w h' s.heap.objs.size (has es) es.length := by
    rw [keys_len] at R
    refine R.congr fun j => ?_
    cases q : has es j with
    | true => rw [decide_eq_true (has_iff.mp q)]
    | false => rw [decide_eq_false fun z => by rw [has_iff.mpr z] at q; cases q]
  exact ⟨.ref _, upd H s.heap.objs.size (.set (has es) es.length), I.laid (t' := s.toks) k (Nat.le_refl _) R2.setOf, rfl, q _ (I.hok.fresh (Nat.le_refl _))⟩
def rEqSet : R2 := fun x y H Q => ∃ a b S n, x = .ref a ∧ y = .ref b ∧ H a = some (.set S n) ∧ H b = some (.set S n) ∧ Q (.bl true) H
theorem op_eqSet (hu : X.A.units + 1 < cLine) : OpR X (compareOp .Eq) rEqSet := by
  intro pins s σ H x y v u Q I rx ry h
  obtain ⟨a, b, S, n, rfl, rfl, ha, hb, q⟩ := h
  cases rx; cases ry
  exact set_eq (I.hok a _ ha) (I.hok b _ hb) (Nat.lt_of_succ_lt hu) ⟨.bl true, H, I, rfl, q⟩
end
end My
set_option Elab.async false
set_option maxRecDepth 100000
set_option maxHeartbeats 4000000
set_option linter.unusedVariables false
namespace My
open PySem PySem.Spec PyProof.Rows L2


def Ent (h : Heap) (v : Value) (x : Int) (y : Str) : Prop := ∃ a o t u n, v = .ref a ∧ h.get? a = some o ∧ o.cls = .type "tuple" ∧ o.data = .seq #[.int x t, .str y u] n
theorem Ent.keeps {h h' : Heap} {v : Value} {x : Int} {y : Str} (p : Ent h v x y) (k : ∀ b o, h.get? b = some o → o.cls = .type "tuple" → h'.get? b = some o) : Ent h' v x y := by
  obtain ⟨a, o, t, u, n, e, ho, hc, hd⟩ := p
  exact ⟨a, o, t, u, n, e, k a o ho hc, hc, hd⟩
theorem ent_firsts {h : Heap} : ∀ {vs : List Value}, (∀ v ∈ vs, ∃ x y, Ent h v x y) → ∃ fs : List Value, PySem.W.KatTups h vs fs ∧ fs.length = vs.length ∧ ∀ f ∈ fs, ∃ x t, f = Value.int x t
  | [], _ => ⟨[], .nil, rfl, fun _ hm => (nomatch hm)⟩
  | v :: vs, hp => by
    obtain ⟨fs, h1, h2, h3⟩ := ent_firsts (vs := vs) fun z hz => hp z (List.mem_cons_of_mem _ hz)
    obtain ⟨x, y, a, o, t, u, n, rfl, ho, hc, hd⟩ := hp v List.mem_cons_self
    refine ⟨Value.int x t :: fs, .cons ho hc hd rfl h1, congrArg Nat.succ h2, ?_⟩
    intro f hf
    rcases List.mem_cons.mp hf with e | hf
    · exact ⟨x, t, e⟩
    · exact h3 f hf
section
variable {P : Program} {w : World} {A : Around} {E : Value → Shared → Prop} {s : Shared}
theorem ent_cmp {vs : List Value} {k : Value → Int} {y : Value → Str} (hp : ∀ v ∈ vs, Ent s.heap v (k v) (y v)) (one : ∀ v ∈ vs, ∀ u ∈ vs, k v = k u → y v = y u) :
    SrtO.Cmp P w A s (tuples' true) (fun p => p.1 ∈ vs) (SrtO.lt2 fun v u => decide (k v < k u)) := by
  intro p q hm hm'
  have h1 := hp _ hm
  have h2 := hp _ hm'
  have h3 := one _ hm _ hm'
  show wpAny (model P w) A (keyLt' (tuples' true) p.1 q.1) (fun r s' => s' = s ∧ r = decide (k p.1 < k q.1)) (fun _ _ => False) s
  generalize k p.1 = x1 at h1 h3 ⊢
  generalize k q.1 = x2 at h2 h3 ⊢
  generalize y p.1 = y1 at h1 h3
  generalize y q.1 = y2 at h2 h3
  obtain ⟨a, o, t, u, n, e, ho, hc, hd⟩ := h1
  obtain ⟨b, o', t', u', n', e', ho', hc', hd'⟩ := h2
  rw [e, e']
  refine PySem.W.kat_lt ho hd ho' hd' ?_
  show PySem.W.KatLex P w A true (decide (2 < 2)) _ [(.int x1 t, .int x2 t'), (.str y1 u, .str y2 u')] 0 s
  refine PySem.W.kat_cons (SeqAt.EqAt.int_int x1 t x2 t' P w _ _ (PySem.W.kat_go (fun e1 => ?_) fun e1 => ?_))
  · have ex : x1 = x2 := by simpa using e1
    have ey := h3 ex
    subst ex
    subst ey
    refine PySem.W.kat_yes (PySem.W.kat_cons (SeqAt.EqAt.str_str y1 u y1 u' P w _ _ (PySem.W.kat_go (fun _ => ?_) fun e2 => ?_)))
    · exact PySem.W.kat_yes (PySem.W.kat_nil ⟨rfl, (decide_eq_false (Int.lt_irrefl _)).symm⟩)
    · simp at e2
  · exact PySem.W.kat_no (oneLt_int ⟨rfl, rfl⟩)
theorem swo_key (k : Value → Int) : SrtO.Swo fun v u => decide (k v < k u) := by
  refine ⟨fun x y h => ?_, fun x y z h1 h2 => ?_⟩
  · have := of_decide_eq_true h
    exact decide_eq_false (by omega)
  · have a := of_decide_eq_false h1
    have b := of_decide_eq_false h2
    exact decide_eq_false (by omega)
theorem ent_sortable {a : Addr} {vs : List Value} {k : Value → Int} {y : Value → Str} (h0 : 0 < vs.length) (hp : ∀ v ∈ vs, Ent s.heap v (k v) (y v)) (one : ∀ v ∈ vs, ∀ u ∈ vs, k v = k u → y v = y u)
    (ha : ∀ o, s.heap.get? a = some o → o.cls ≠ .type "tuple") : SrtO.SortableO P w A s a vs fun v u => decide (k v < k u) := by
  intro h' keep
  have hp2 : ∀ v ∈ vs, Ent h' v (k v) (y v) := fun v hm => (hp v hm).keeps fun b o e c => keep b o (fun z => by rw [z] at e; exact ha o e c) e
  obtain ⟨fs, h1, h2, h3⟩ := ent_firsts fun v hm => ⟨_, _, hp2 v hm⟩
  refine ⟨tuples' true, fun Q E hq => ?_, ent_cmp hp2 one⟩
  refine PySem.W.kat_kind (T := .type "int") h1 (by omega) (fun f hm => ?_) rfl ?_
  · obtain ⟨x, t, rfl⟩ := h3 f hm
    exact PySem.W.Looks.now
  · rw [show (Value.type "int" != Value.type "tuple") = true by decide]
    exact hq
end
end My
set_option Elab.async false
set_option maxRecDepth 100000
set_option maxHeartbeats 4000000
set_option linter.unusedVariables false
namespace My
open PySem PySem.Spec PyProof.Rows L2 L2.DX

def rItemsK : V → List V → Hp → VK → Prop := fun x xs H Q => ∃ (a : Addr) (kvs : List (Key × V)), x = .ref a ∧ xs = [] ∧ H a = some (.dK kvs) ∧ ∀ p, H p = none → Q (.ref p) (upd H p (itemsO p a))
inductive TupS (H : Hp) : List V → List (Int × Str) → Prop
  | nil : TupS H [] []
  | cons {a : Addr} {k : Int} {x : Str} {vs : List V} {es : List (Int × Str)} (h : H a = some (.tup [.int k, .str x])) (r : TupS H vs es) : TupS H (.ref a :: vs) ((k, x) :: es)
def rSortE : List V → Hp → VK → Prop := fun vs H Q => ∃ (p d : Addr) (es : List (Int × Str)), vs = [.ref p] ∧ H p = some (itemsO p d) ∧ H d = some (.dK (ents es)) ∧ (keys es).Nodup ∧ es.length ≤ 1000 ∧
  ∀ (H' : Hp) (l : Addr) (ts : List V) (es' : List (Int × Str)), Same H H' → H' l = some (.lst ts) → TupS H' ts es' → es'.Perm es → es'.Pairwise (fun p q => p.1 < q.1) → Q (.ref l) H'
theorem perm_map {α β : Type} (f : α → β) {l : List α} {out : List β} (h : out.Perm (l.map f)) : ∃ zs : List α, zs.Perm l ∧ zs.map f = out := by
  generalize e : l.map f = m at h
  induction h generalizing l with
  | nil => exact ⟨[], by rw [List.map_eq_nil_iff.mp e], rfl⟩
  | cons x _ ih =>
    match l, e with
    | a :: r, e =>
      rw [List.map_cons] at e
      injection e with e1 e2
      obtain ⟨zs, h1, h2⟩ := ih e2
      exact ⟨a :: zs, h1.cons a, by rw [List.map_cons, h2, e1]⟩
  | swap x y t =>
    match l, e with
    | a :: b :: r, e =>
      rw [List.map_cons, List.map_cons] at e
      injection e with e1 e2
      injection e2 with e2 e3
      exact ⟨b :: a :: r, List.Perm.swap _ _ _, by rw [List.map_cons, List.map_cons, e1, e2, e3]⟩
  | trans _ _ ih1 ih2 =>
    obtain ⟨z2, h1, h2⟩ := ih2 e
    obtain ⟨z1, h3, h4⟩ := ih1 h2
    exact ⟨z1, h3.trans h1, h4⟩
def keyIn (h : Heap) (v : Value) : Int := match v with
  | .ref a => (match h.get? a with
    | some o => (match o.data with
      | .seq its _ => (match (its[0]? : Option Value) with
        | some (Value.int x _) => x
        | _ => 0)
      | _ => 0)
    | none => 0)
  | _ => 0
def txtIn (h : Heap) (v : Value) : Str := match v with
  | .ref a => (match h.get? a with
    | some o => (match o.data with
      | .seq its _ => (match (its[1]? : Option Value) with
        | some (Value.str x _) => x
        | _ => Str.empty)
      | _ => Str.empty)
    | none => Str.empty)
  | _ => Str.empty
theorem tupS_of {H : Hp} : ∀ zs : List (Addr × Int × Str), (∀ z ∈ zs, H z.1 = some (.tup [.int z.2.1, .str z.2.2])) → TupS H (zs.map fun z => V.ref z.1) (zs.map (·.2))
  | [], _ => .nil
  | z :: zs, h => .cons (h z List.mem_cons_self) (tupS_of zs fun y hy => h y (List.mem_cons_of_mem _ hy))
theorem ent_of {P : Program} {w : World} {es : List (Int × Str)} {vs : List (Key × Value)} {ed : Array DictEntry} (kv : KV (ents es) vs) (pr : PySem.Pairs (mixKind P w) ed.toList vs) {i : Nat} {n : Int} {x : Str} (h : es[i]? = some (n, x)) :
    ∃ (e : DictEntry) (t u : Tok), ed[i]? = some e ∧ e.key = Value.int n t ∧ e.val = Value.str x u := by
  have e1 : (ents es)[i]? = some (.inl n, .str x) := by unfold ents; rw [List.getElem?_map, h]; rfl
  have kv2 : ∀ {kvs : List (Key × V)} {vs : List (Key × Value)}, KV kvs vs → ∀ {i : Nat} {k : Key} {x : Str}, kvs[i]? = some (k, .str x) → ∃ u, vs[i]? = some (k, .str x u) := by
    intro kvs vs r
    unfold KV at r
    induction r with
    | nil => intro i k x h; simp at h
    | cons h r ih =>
      intro i k x e
      cases i with
      | zero =>
        cases Option.some.inj e
        rename_i b _ _
        obtain ⟨b1, b2⟩ := b
        obtain ⟨h1, u, h2⟩ := h
        dsimp only at h1 h2
        subst h1 h2
        exact ⟨u, rfl⟩
      | succ i => exact ih e
  have pr2 : ∀ {l : List DictEntry} {vs : List (Key × Value)}, PySem.Pairs (mixKind P w) l vs → ∀ {i : Nat} {k : Key} {u : Value}, vs[i]? = some (k, u) → ∃ e, l[i]? = some e ∧ (mixKind P w).is k e.key = true ∧ e.val = u := by
    intro l vs r
    induction r with
    | nil => intro i k v h; simp at h
    | cons h1 h2 r ih =>
      intro i k v e
      cases i with
      | zero =>
        cases Option.some.inj e
        exact ⟨_, rfl, h1, h2⟩
      | succ i => exact ih e
  obtain ⟨u, e2⟩ := kv2 kv e1
  obtain ⟨e, e3, e4, e5⟩ := pr2 pr e2
  rw [Array.getElem?_toList] at e3
  rcases keyIs_shape (k := .inl n) (v := e.key) e4 with ⟨j, t, z, e6⟩ | ⟨_, _, z, _⟩
  · cases z
    exact ⟨e, t, u, e3, e6, e5⟩
  · cases z
section
variable {X : Cx}
theorem mt_itemsK : L2.MtR X "dict.items" rItemsK := by
  intro pins s σ H x xs v us Q I rx rxs h
  obtain ⟨a, kvs, rfl, rfl, ha, q⟩ := h
  cases rx
  cases rxs
  obtain ⟨_, hd, _, _, o, ed, ep, ho, hx, hdt, _⟩ := dk_of I.hok ha
  refine DT.callItems (es := ed) (ep := ep) hd ⟨o, ho, hx, hdt⟩ ?_
  have free : H s.heap.objs.size = none := I.hok.fresh (Nat.le_refl _)
  refine ⟨.ref s.heap.objs.size, _, I.laid (t' := s.toks) (fun b u e => Heap.get?_push_of_some _ e) (Nat.le_refl _) (itemsO_ok (d := a) (Heap.get?_push_size _ rfl)), rfl, q _ free⟩
theorem cr_sortedE (hc : X.calm = true) : CallR X (.builtin "sorted") rSortE := by
  intro pins s σ H xs us Q I r h
  obtain ⟨p, d, es, rfl, hp, hd, nd, hlen, q⟩ := h
  obtain rfl := Vals.ref1 r
  have view : s.heap.IsItemsView p d := (show ObjOk X.prog X.w H s.heap p (itemsO p d) from I.hok p _ hp).1
  obtain ⟨_, hs, vs, kv, o, ed, ep, ho, hx, hdt, ks, pr, _⟩ := dk_of I.hok hd
  have size : ed.size = es.length := by rw [← Array.length_toList, pairs_len pr, ← kv_len kv, ents_len]
  refine DT.sortedI (es := ed) (ep := ep) (I.ok.hd hc) view ⟨o, ho, hx, hdt⟩ (by rw [size]; exact size_ok (by omega)) fun h' tk as hk hlt hl hG => ?_
  have la : as.length = es.length := hl.trans size
  have nda : as.Nodup := List.Pairwise.imp (fun h => Nat.ne_of_lt h) hG.rise
  have made : ∀ (j : Nat) (b : Addr), as[j]? = some b → ∃ n x t u, es[j]? = some (n, x) ∧ h'.get? b = some { cls := .type "tuple", data := .seq #[Value.int n t, Value.str x u] } := by
    intro j b hj
    obtain ⟨e, he, hb⟩ := hG.pairs j b hj
    have hj2 : j < es.length := by rw [← la]; exact (List.getElem?_eq_some_iff.mp hj).1
    have hj3 : es[j]? = some (es[j].1, es[j].2) := List.getElem?_eq_getElem hj2
    obtain ⟨e2, t, u, h1, h2, h3⟩ := ent_of kv pr hj3
    obtain rfl := Option.some.inj (he.symm.trans h1)
    exact ⟨_, _, t, u, hj3, by rw [hb, h2, h3]⟩
  have hget : ∀ (b : Addr), b ∈ as → ∃ (j : Nat) (n : Int) (x : Str) (t u : Tok), as[j]? = some b ∧ es[j]? = some (n, x) ∧ h'.get? b = some { cls := .type "tuple", data := .seq #[Value.int n t, Value.str x u] } := by
    intro b hb
    obtain ⟨j, hj⟩ := List.mem_iff_getElem?.mp hb
    obtain ⟨n, x, t, u, h1, h2⟩ := made j b hj
    exact ⟨j, n, x, t, u, hj, h1, h2⟩
  have kk : ∀ {b : Addr} {n : Int} {x : Str} {t u : Tok}, h'.get? b = some { cls := .type "tuple", data := .seq #[Value.int n t, Value.str x u] } → keyIn h' (.ref b) = n ∧ txtIn h' (.ref b) = x := by
    intro b n x t u e
    unfold keyIn txtIn
    dsimp only
    rw [e]
    exact ⟨rfl, rfl⟩
  have old : ∀ b o, h'.get? b = some o → b ≠ h'.objs.size := fun b o e => Nat.ne_of_lt (Heap.lt_size e)
  have hob : (h'.push { cls := .type "list", data := .seq (as.map Value.ref).toArray }).get? h'.objs.size = some (seqObj "list" (as.map Value.ref).toArray 0) := Heap.get?_push_size _ rfl
  have ka : ∀ b o, h'.get? b = some o → (h'.push { cls := .type "list", data := .seq (as.map Value.ref).toArray }).get? b = some o := fun b o e => Heap.get?_push_of_some _ e
  generalize h'.push { cls := .type "list", data := .seq (as.map Value.ref).toArray } = h2 at hob ka ⊢
  have hz : (as.map Value.ref).length ≤ sizeLine := by rw [List.length_map, la]; exact size_ok (by omega)
  have ents2 : ∀ v ∈ as.map Value.ref, Ent h2 v (keyIn h' v) (txtIn h' v) := by
    intro v hv
    obtain ⟨b, hb, rfl⟩ := List.mem_map.mp hv
    obtain ⟨j, n, x, t, u, _, _, e⟩ := hget b hb
    rw [(kk e).1, (kk e).2]
    exact ⟨b, _, t, u, _, rfl, ka _ _ e, rfl, rfl⟩
  have one : ∀ v ∈ as.map Value.ref, ∀ u ∈ as.map Value.ref, keyIn h' v = keyIn h' u → txtIn h' v = txtIn h' u := by
    intro v hv u hu e
    obtain ⟨b, hb, rfl⟩ := List.mem_map.mp hv
    obtain ⟨c, hc2, rfl⟩ := List.mem_map.mp hu
    obtain ⟨j, n, x, t1, u1, _, e1, g1⟩ := hget b hb
    obtain ⟨i, m, y, t2, u2, _, e2, g2⟩ := hget c hc2
    rw [(kk g1).1, (kk g2).1] at e
    subst e
    rw [(kk g1).2, (kk g2).2]
    have l1 := look_ents nd (List.mem_of_getElem? e1)
    have l2 := look_ents nd (List.mem_of_getElem? e2)
    dsimp only at l1 l2
    rw [l1] at l2
    exact Option.some.inj l2
  refine wpAny_call_entry PyProof.Rows.slot_list_sort ⟨_, hob, rfl⟩ PyProof.Rows.entry_list_sort
    (SrtO.list_sort_ord (s := { s with heap := h2, toks := tk }) (swo_key (keyIn h')) hob hz (fun n2 => ent_sortable (by omega) ents2 one fun o e => ?_) fun out o1 o2 => ⟨.none, rfl, ?_⟩) (PyProof.Rows.args_list_sort _)
  · cases hob.symm.trans e
    intro z
    injection z with z
    revert z
    decide
  · show EP X pins σ Q (.ref h'.objs.size) { s with heap := sortedHeap h2 h'.objs.size (as.map Value.ref) out.toArray, toks := tk }
    have ez : (as.zip es).map (fun z => Value.ref z.1) = as.map Value.ref := by
      have q : (as.zip es).map (·.1) = as := List.map_fst_zip (by omega)
      rw [show (fun z : Addr × Int × Str => Value.ref z.1) = Value.ref ∘ (·.1) from rfl, ← List.map_map, q]
    obtain ⟨zs, pz, eo⟩ := perm_map (fun z : Addr × Int × Str => Value.ref z.1) (l := as.zip es) (out := out) (by rw [ez]; exact o2.perm)
    have at_ : ∀ z ∈ zs, ∃ j : Nat, as[j]? = some z.1 ∧ es[j]? = some z.2 := by
      intro z hz
      obtain ⟨j, hj⟩ := List.mem_iff_getElem?.mp (pz.mem_iff.mp hz)
      exact ⟨j, List.getElem?_zip_eq_some.mp hj⟩
    have pes : (zs.map (·.2)).Perm es := by
      have e := pz.map (·.2)
      rw [List.map_snd_zip (by omega)] at e
      exact e
    have key : ∀ z ∈ zs, keyIn h' (.ref z.1) = z.2.1 := by
      intro z hz
      obtain ⟨j, j1, j2⟩ := at_ z hz
      obtain ⟨n, x, t, u, e1, e2⟩ := made j z.1 j1
      rw [(kk e2).1]
      rw [j2] at e1
      rw [Option.some.inj e1]
    have srt : (zs.map (·.2)).Pairwise (fun p q => p.1 < q.1) := by
      have le : (zs.map (·.2)).Pairwise (fun p q => p.1 ≤ q.1) := by
        rw [← eo] at o1
        rw [List.pairwise_map]
        refine List.Pairwise.imp_of_mem (fun {a b} ha hb h => ?_) (List.pairwise_map.mp o1)
        have := of_decide_eq_false h
        rw [key a ha, key b hb] at this
        omega
      have nd2 : ((zs.map (·.2)).map (fun p : Int × Str => p.1)).Nodup := ((pes.map (fun p : Int × Str => p.1)).nodup_iff).mpr nd
      have ne : (zs.map (·.2)).Pairwise (fun p q => p.1 ≠ q.1) := List.pairwise_map.mp nd2
      exact (List.Pairwise.and le ne).imp fun h => by have := h.1; have := h.2; omega
    have kF : ∀ b o, b ≠ h'.objs.size → h2.get? b = some o → (sortedHeap h2 h'.objs.size (as.map Value.ref) out.toArray).get? b = some o :=
      fun b o nb e => (PyProof.Rows.sortedHeap_old nb (Heap.lt_size e)).trans e
    obtain ⟨eF, heF⟩ := PyProof.Rows.sortedHeap_at (vs := as.map Value.ref) (out := out.toArray) hob
    have I1 : Inv X pins σ H { s with heap := sortedHeap h2 h'.objs.size (as.map Value.ref) out.toArray, toks := tk } :=
      I.kept (t' := tk) fun b o e => kF b o (old _ _ (hk b o e)) (ka b o (hk b o e))
    have hn : H h'.objs.size = none := I.hok.fresh (Nat.le_of_lt hlt)
    have lz : zs.length = es.length := by
      have := pes.length_eq
      rw [List.length_map] at this
      exact this
    have rv : Vals (zs.map fun z => V.ref z.1) out := by
      rw [← eo]
      exact vals_maps (fun z : Addr × Int × Str => V.ref z.1) (fun z => Value.ref z.1) zs fun _ _ => rfl
    have I2 : Inv X pins σ (upd H h'.objs.size (.lst (zs.map fun z => V.ref z.1))) { s with heap := sortedHeap h2 h'.objs.size (as.map Value.ref) out.toArray, toks := tk } :=
      I1.take (h' := sortedHeap h2 h'.objs.size (as.map Value.ref) out.toArray) (t' := tk) (fun b ob _ e => e) (I.fpOk (Nat.le_of_lt hlt) hn)
        ⟨by rw [List.length_map, lz]; exact size_ok (by omega), out, eF, rv, by simpa using heF⟩
    obtain ⟨H2, I3, g, qt⟩ := takeT (P := fun b vs => ∃ (j : Nat) (n : Int) (x : Str), as[j]? = some b ∧ es[j]? = some (n, x) ∧ vs = [.int n, .str x]) I as _ I2 nda fun b hb => by
      obtain ⟨j, n, x, t, u, j1, j2, e⟩ := hget b hb
      have lb : s.heap.objs.size ≤ b := Nat.le_of_lt (hG.above b hb)
      refine ⟨lb, ?_, [.int n, .str x], ⟨j, n, x, j1, j2, rfl⟩, fun H3 => ⟨size_ok (by simp), [Value.int n t, Value.str x u], .cons ⟨_, rfl⟩ (.cons ⟨_, rfl⟩ .nil), ⟨_, kF _ _ (old _ _ e) (ka _ _ e), rfl, 0, rfl⟩⟩⟩
      rw [upd_ne (old _ _ e)]
      exact I.hok.fresh lb
    have gr : Same H H2 := fun b o e => g b o ((upd_ne (ne_of_none e hn)).trans e)
    refine ⟨.ref h'.objs.size, H2, I3, rfl, q H2 h'.objs.size _ _ gr (g _ _ upd_same) (tupS_of zs fun z hz => ?_) pes srt⟩
    obtain ⟨i, i1, i2⟩ := at_ z hz
    obtain ⟨vs, ⟨j, n, x, j1, j2, rfl⟩, hH⟩ := qt z.1 (List.mem_of_getElem? i1)
    have eij : i = j := (List.getElem?_inj (List.getElem?_eq_some_iff.mp i1).1 nda).mp (i1.trans j1.symm)
    subst eij
    rw [i2] at j2
    rw [Option.some.inj j2]
    exact hH
end
end My
set_option Elab.async false
set_option maxRecDepth 100000
set_option linter.unusedVariables false
namespace My
open PySem

section
variable {α β : Type}
def lk (es : List (Int × α)) (k : Int) : Option α := (es.find? fun p => decide (p.1 = k)).map (·.2)
def ks (es : List (Int × α)) : List Int := es.map (·.1)
def hs (es : List (Int × α)) (k : Int) : Bool := (lk es k).isSome
theorem lk_nil (k : Int) : lk ([] : List (Int × α)) k = none := rfl
theorem lk_cons (p : Int × α) (es : List (Int × α)) (k : Int) : lk (p :: es) k = if p.1 = k then some p.2 else lk es k := by
  unfold lk
  rw [List.find?_cons]
  by_cases e : p.1 = k
  · rw [if_pos e, decide_eq_true e]; rfl
  · rw [if_neg e, decide_eq_false e]
theorem ks_len (es : List (Int × α)) : (ks es).length = es.length := List.length_map _
theorem ks_app (es fs : List (Int × α)) : ks (es ++ fs) = ks es ++ ks fs := List.map_append
theorem lk_none {es : List (Int × α)} {k : Int} : lk es k = none ↔ k ∉ ks es := by
  induction es with
  | nil => exact ⟨fun _ => List.not_mem_nil, fun _ => rfl⟩
  | cons p es ih =>
    rw [lk_cons]
    unfold ks at ih ⊢
    rw [List.map_cons, List.mem_cons, not_or]
    by_cases e : p.1 = k
    · rw [if_pos e]
      exact ⟨fun z => (nomatch z), fun z => absurd e.symm z.1⟩
    · rw [if_neg e, ih]
      exact ⟨fun z => ⟨fun q => e q.symm, z⟩, fun z => z.2⟩
theorem hs_iff {es : List (Int × α)} {k : Int} : hs es k = true ↔ k ∈ ks es := by
  unfold hs
  cases e : lk es k with
  | none =>
    refine ⟨fun z => ?_, fun z => absurd z (lk_none.mp e)⟩
    cases z
  | some x =>
    refine ⟨fun _ => Decidable.byContradiction fun n => ?_, fun _ => rfl⟩
    rw [lk_none.mpr n] at e
    cases e
theorem hs_not {es : List (Int × α)} {k : Int} : hs es k = false ↔ k ∉ ks es := by
  rw [← hs_iff]
  cases hs es k <;> simp
theorem lk_app (es gs : List (Int × α)) (k : Int) : lk (es ++ gs) k = (lk es k).or (lk gs k) := by
  induction es with
  | nil => rfl
  | cons p r ih =>
    rw [List.cons_append, lk_cons, lk_cons]
    by_cases e : p.1 = k
    · rw [if_pos e, if_pos e]; rfl
    · rw [if_neg e, if_neg e, ih]
theorem lk_filter (c : Int → Bool) (es : List (Int × α)) (k : Int) : lk (es.filter fun p => c p.1) k = if c k = true then lk es k else none := by
  induction es with
  | nil => rw [List.filter_nil, lk_nil, ite_self]
  | cons p r ih =>
    rw [List.filter_cons]
    by_cases e : p.1 = k
    · rw [e]
      by_cases q : c k = true
      · rw [if_pos q, if_pos q, lk_cons, lk_cons, if_pos e, if_pos e]
      · rw [if_neg q, if_neg q, ih, if_neg q]
    · by_cases q : c p.1 = true
      · rw [if_pos q, lk_cons, if_neg e, ih, lk_cons, if_neg e]
      · rw [if_neg q, ih, lk_cons, if_neg e]
theorem lk_ents {es : List (Int × α)} {p : Int × α} (nd : (ks es).Nodup) (h : p ∈ es) : lk es p.1 = some p.2 := by
  induction es with
  | nil => cases h
  | cons q r ih =>
    rw [lk_cons]
    have nd2 : q.1 ∉ ks r ∧ (ks r).Nodup := List.nodup_cons.mp nd
    rcases List.mem_cons.mp h with rfl | h
    · rw [if_pos rfl]
    · rw [if_neg (fun e : q.1 = p.1 => nd2.1 (by rw [e]; exact List.mem_map_of_mem h)), ih nd2.2 h]
theorem lk_mem {es : List (Int × α)} {k : Int} {x : α} (h : lk es k = some x) : (k, x) ∈ es := by
  induction es with
  | nil => cases h
  | cons p r ih =>
    rw [lk_cons] at h
    by_cases e : p.1 = k
    · rw [if_pos e] at h
      cases h
      subst e
      exact List.mem_cons_self
    · rw [if_neg e] at h
      exact List.mem_cons_of_mem _ (ih h)
theorem ks_filter_sub (c : Int × α → Bool) (es : List (Int × α)) : (ks (es.filter c)).Sublist (ks es) := List.Sublist.map _ List.filter_sublist
theorem lk_map (f : Int → α → β) (es : List (Int × α)) (k : Int) : lk (es.map fun p => (p.1, f p.1 p.2)) k = (lk es k).map (f k) := by
  induction es with
  | nil => rfl
  | cons p r ih =>
    rw [List.map_cons, lk_cons, lk_cons, ih]
    by_cases e : p.1 = k
    · rw [if_pos e, if_pos e, e]; rfl
    · rw [if_neg e, if_neg e]
theorem ks_map (f : Int → α → β) (es : List (Int × α)) : ks (es.map fun p => (p.1, f p.1 p.2)) = ks es := by
  unfold ks
  rw [List.map_map]
  rfl

def putA (es : List (Int × α)) (k : Int) (x : α) : List (Int × α) := if hs es k = true then es.map fun p => if p.1 = k then (p.1, x) else p else es ++ [(k, x)]
theorem ks_put (es : List (Int × α)) (k : Int) (x : α) : ks (putA es k x) = if hs es k = true then ks es else ks es ++ [k] := by
  unfold putA
  by_cases h : hs es k = true
  · rw [if_pos h, if_pos h]
    unfold ks
    rw [List.map_map]
    refine List.map_congr_left fun p _ => ?_
    show (if p.1 = k then (p.1, x) else p).1 = p.1
    split <;> rfl
  · rw [if_neg h, if_neg h, ks_app]
    rfl
theorem lk_put (es : List (Int × α)) (k : Int) (x : α) (n : Int) : lk (putA es k x) n = if n = k then some x else lk es n := by
  unfold putA
  by_cases h : hs es k = true
  · rw [if_pos h]
    have main : ∀ es : List (Int × α), lk (es.map fun p => if p.1 = k then (p.1, x) else p) n = if n = k then (if hs es k = true then some x else none) else lk es n := by
      intro es
      induction es with
      | nil => show none = _; split <;> rfl
      | cons p r ih =>
        rw [List.map_cons, lk_cons, ih]
        by_cases e : p.1 = k
        · rw [if_pos e]
          by_cases q : n = k
          · have hh : hs (p :: r) k = true := by unfold hs; rw [lk_cons, if_pos e]; rfl
            rw [if_pos (show p.1 = n by rw [e, q]), hh, if_pos rfl, if_pos q]
          · rw [if_neg q, lk_cons]
            have z : ¬ p.1 = n := fun z => q (by rw [← z, e])
            rw [if_neg z, if_neg z, if_neg q]
        · rw [if_neg e]
          by_cases q : n = k
          · have z : ¬ p.1 = n := fun z => e (by rw [z, q])
            have hh : hs (p :: r) k = hs r k := by unfold hs; rw [lk_cons, if_neg e]
            rw [if_neg z, hh, if_pos q, if_pos q]
          · rw [if_neg q, lk_cons, if_neg q]
    rw [main, h]
    rfl
  · rw [if_neg h, lk_app, lk_cons, lk_nil]
    have hk : lk es k = none := by
      cases q : lk es k with
      | none => rfl
      | some y => exact absurd (by unfold hs; rw [q]; rfl) h
    by_cases e : n = k
    · rw [if_pos e, e, hk, if_pos rfl]; rfl
    · rw [if_neg e, if_neg (fun z => e z.symm), Option.or_none]
theorem put_len (es : List (Int × α)) (k : Int) (x : α) : (putA es k x).length ≤ es.length + 1 := by
  rw [← ks_len, ks_put]
  split
  · rw [ks_len]; omega
  · rw [List.length_append, ks_len]; exact Nat.le_refl _
theorem put_all {P : Int × α → Prop} {es : List (Int × α)} (h : ∀ p ∈ es, P p) (k : Int) (x : α) (hx : P (k, x)) : ∀ p ∈ putA es k x, P p := by
  intro p hp
  unfold putA at hp
  split at hp
  · obtain ⟨q, hq, rfl⟩ := List.mem_map.mp hp
    split
    · rename_i e; rw [e]; exact hx
    · exact h q hq
  · rcases List.mem_append.mp hp with hp | hp
    · exact h p hp
    · rw [List.mem_singleton.mp hp]; exact hx
theorem nd_sub : ∀ {l U : List Int}, l.Nodup → (∀ k ∈ l, k ∈ U) → l.length ≤ U.length
  | [], U, _, _ => Nat.zero_le _
  | a :: r, U, nd, h => by
    have ha : a ∈ U := h a List.mem_cons_self
    have := nd_sub (l := r) (U := U.erase a) (List.nodup_cons.mp nd).2 fun k hk =>
      (List.mem_erase_of_ne (fun e : k = a => (List.nodup_cons.mp nd).1 (by rw [← e]; exact hk))).mpr (h k (List.mem_cons_of_mem _ hk))
    rw [List.length_erase_of_mem ha] at this
    have p := List.length_pos_of_mem ha
    rw [List.length_cons]
    omega

def Gd (U : List Int) (es : List (Int × α)) : Prop := (ks es).Nodup ∧ (∀ k ∈ ks es, k ∈ U) ∧ U.length ≤ 1000
theorem Gd.len {U : List Int} {es : List (Int × α)} (g : Gd U es) : es.length ≤ 1000 := by
  have := nd_sub g.1 g.2.1
  rw [ks_len] at this
  exact Nat.le_trans this g.2.2
theorem Gd.nil {U : List Int} (h : U.length ≤ 1000) : Gd U ([] : List (Int × α)) := ⟨List.nodup_nil, fun _ h => (nomatch h), h⟩
theorem Gd.filter {U : List Int} {es : List (Int × α)} (g : Gd U es) (c : Int × α → Bool) : Gd U (es.filter c) :=
  ⟨g.1.sublist (ks_filter_sub c es), fun k hk => g.2.1 k ((ks_filter_sub c es).subset hk), g.2.2⟩
theorem Gd.put {U : List Int} {es : List (Int × α)} (g : Gd U es) {k : Int} (x : α) (hk : k ∈ U) : Gd U (putA es k x) := by
  unfold Gd
  rw [ks_put]
  by_cases h : hs es k = true
  · rw [if_pos h]; exact g
  · rw [if_neg h]
    refine ⟨List.nodup_append.mpr ⟨g.1, List.nodup_cons.mpr ⟨List.not_mem_nil, List.nodup_nil⟩, fun a ha b hb e => ?_⟩, fun q hq => ?_, g.2.2⟩
    · rw [List.mem_singleton.mp hb] at e
      rw [e] at ha
      exact h (hs_iff.mpr ha)
    · rcases List.mem_append.mp hq with hq | hq
      · exact g.2.1 q hq
      · rw [List.mem_singleton.mp hq]; exact hk
theorem Gd.of_ks {U : List Int} {es : List (Int × α)} {fs : List (Int × β)} (g : Gd U es) (e : ks fs = ks es) : Gd U fs := by
  unfold Gd
  rw [e]
  exact g
theorem len_of_hs {U V : List Int} {es : List (Int × α)} {fs : List (Int × β)} (g : Gd U es) (h : Gd V fs) (e : ∀ k, hs es k = hs fs k) : es.length = fs.length := by
  rw [← ks_len, ← ks_len fs]
  refine Nat.le_antisymm (nd_sub g.1 fun k hk => ?_) (nd_sub h.1 fun k hk => ?_)
  · rw [← hs_iff] at hk ⊢
    rw [← e]; exact hk
  · rw [← hs_iff] at hk ⊢
    rw [e]; exact hk
theorem lk_part {fs : List (Int × α)} {i : Nat} {n : Int} {x : α} (nd : (ks fs).Nodup) (h : fs[i]? = some (n, x)) : lk (fs.take i) n = none := by
  refine lk_none.mpr fun z => ?_
  have e := List.take_append_drop i fs
  have q : ks fs = ks (fs.take i) ++ ks (fs.drop i) := by rw [← ks_app, e]
  rw [q] at nd
  refine (List.nodup_append.mp nd).2.2 n z n ?_ rfl
  have : (n, x) ∈ fs.drop i := by
    rw [List.mem_iff_getElem?]
    exact ⟨0, by rw [List.getElem?_drop]; exact h⟩
  exact List.mem_map_of_mem this
theorem lk_take_snoc {fs : List (Int × α)} {i : Nat} {p : Int × α} (h : fs[i]? = some p) : fs.take (i + 1) = fs.take i ++ [p] := by
  rw [List.take_add_one, h]
  rfl
end

abbrev Rw := Str × Int

def over1 (a : Option Rw) (b : Rw) : Rw := ((a.map (·.1)).getD b.1, b.2)
def over (a b : Option Rw) : Option Rw := match b with
  | none => a
  | some r => some (over1 a r)

def lay1 (base acc : List (Int × Rw)) (r : Int × Rw) : List (Int × Rw) := putA acc r.1 (over1 (lk base r.1) r.2)
theorem lk_lay {base acc : List (Int × Rw)} (r : Int × Rw) (h : lk base r.1 = lk acc r.1) (k : Int) : lk (lay1 base acc r) k = over (lk acc k) (if k = r.1 then some r.2 else none) := by
  unfold lay1
  rw [lk_put]
  by_cases e : k = r.1
  · rw [if_pos e, if_pos e, h, e]; rfl
  · rw [if_neg e, if_neg e]; rfl
def mergedA (es fs : List (Int × Rw)) : List (Int × Rw) := fs.foldl (lay1 es) es
def laid1 (acc : List (Int × Rw)) (r : Int × Rw) : List (Int × Rw) := lay1 acc acc r
def laidA (es fs : List (Int × Rw)) : List (Int × Rw) := fs.foldl laid1 es
theorem lk_mergedA_take {es fs : List (Int × Rw)} (nd : (ks fs).Nodup) (k : Int) : ∀ i, i ≤ fs.length → lk ((fs.take i).foldl (lay1 es) es) k = over (lk es k) (lk (fs.take i) k)
  | 0, _ => by rw [List.take_zero]; rfl
  | i + 1, hi => by
    have e : fs[i]? = some (fs[i].1, fs[i].2) := List.getElem?_eq_getElem (by omega)
    generalize fs[i].1 = n at e
    generalize fs[i].2 = r at e
    have ih := fun k => lk_mergedA_take (es := es) nd k i (by omega)
    have e0 := lk_part nd e
    rw [lk_take_snoc e, List.foldl_append, List.foldl_cons, List.foldl_nil]
    rw [lk_lay (n, r) (by rw [ih]; show lk es n = over (lk es n) (lk (fs.take i) n); rw [e0]; rfl), ih, lk_app, lk_cons, lk_nil]
    by_cases z : k = n
    · rw [if_pos z, if_pos z.symm, z, e0]; rfl
    · rw [if_neg z, if_neg (fun q => z q.symm), Option.or_none]; rfl
theorem lk_mergedA {es fs : List (Int × Rw)} (nd : (ks fs).Nodup) (k : Int) : lk (mergedA es fs) k = over (lk es k) (lk fs k) := by
  have := lk_mergedA_take (es := es) nd k fs.length (Nat.le_refl _)
  rw [List.take_length] at this
  exact this
theorem lk_laidA {es fs : List (Int × Rw)} (nd : (ks fs).Nodup) (k : Int) : lk (laidA es fs) k = over (lk es k) (lk fs k) := by
  unfold laidA
  induction fs generalizing es with
  | nil => rfl
  | cons p r ih =>
    obtain ⟨n, x⟩ := p
    have nd2 : n ∉ ks r ∧ (ks r).Nodup := List.nodup_cons.mp nd
    rw [List.foldl_cons, ih nd2.2]
    show over (lk (lay1 es es (n, x)) k) (lk r k) = _
    rw [lk_lay (n, x) rfl, lk_cons]
    by_cases z : k = n
    · have e : lk r n = none := lk_none.mpr nd2.1
      rw [if_pos z, if_pos z.symm, z, e]; rfl
    · rw [if_neg z, if_neg (fun q => z q.symm)]; rfl
theorem laid_self {l : List (Int × Rw)} (nd : (ks l).Nodup) : laidA [] l = l := by
  have main : ∀ (r acc : List (Int × Rw)), (ks (acc ++ r)).Nodup → laidA acc r = acc ++ r := by
    intro r
    induction r with
    | nil => intro acc _; rw [List.append_nil]; rfl
    | cons p r ih =>
      intro acc h
      have e : acc ++ p :: r = (acc ++ [p]) ++ r := by simp
      have hk : hs acc p.1 = false := by
        cases q : hs acc p.1 with
        | false => rfl
        | true =>
          rw [ks_app] at h
          exact absurd rfl ((List.nodup_append.mp h).2.2 p.1 (hs_iff.mp q) p.1 List.mem_cons_self)
      have l0 : lk acc p.1 = none := lk_none.mpr (hs_not.mp hk)
      have st : laid1 acc p = acc ++ [p] := by
        unfold laid1 lay1 putA
        rw [hk, if_neg (by simp), l0]
        rfl
      unfold laidA
      rw [List.foldl_cons, st]
      have := ih (acc ++ [p]) (by rw [← e]; exact h)
      unfold laidA at this
      rw [this, e]
  exact main l [] nd
section
variable {U : List Int} {P : Int × Rw → Prop}
theorem Gd.lay {acc : List (Int × Rw)} (base : List (Int × Rw)) {r : Int × Rw} (g : Gd U acc) (h : r.1 ∈ U) : Gd U (lay1 base acc r) := g.put _ h
theorem Gd.merged {es fs : List (Int × Rw)} (g : Gd U es) (h : Gd U fs) : Gd U (mergedA es fs) := by
  unfold mergedA
  have main : ∀ (l acc : List (Int × Rw)), Gd U acc → (∀ p ∈ l, p.1 ∈ U) → Gd U (l.foldl (lay1 es) acc) := by
    intro l
    induction l with
    | nil => exact fun acc g _ => g
    | cons p r ih => exact fun acc g h => ih _ (g.lay es (h p List.mem_cons_self)) fun q hq => h q (List.mem_cons_of_mem _ hq)
  exact main fs es g fun p hp => h.2.1 _ (List.mem_map_of_mem hp)
theorem Gd.laid {es fs : List (Int × Rw)} (g : Gd U es) (h : ∀ p ∈ fs, p.1 ∈ U) : Gd U (laidA es fs) := by
  unfold laidA
  induction fs generalizing es with
  | nil => exact g
  | cons p r ih => exact ih (g.lay es (h p List.mem_cons_self)) fun q hq => h q (List.mem_cons_of_mem _ hq)
end

theorem over_ok (P : Rw → Prop) (hP : ∀ a b : Rw, P a → P b → P (a.1, b.2)) {a : Option Rw} {b : Rw} (ha : ∀ x, a = some x → P x) (hb : P b) : P (over1 a b) := by
  unfold over1
  cases a with
  | none => exact hb
  | some x => exact hP x b (ha x rfl) hb

theorem sorted_to {α : Type} {es ds es' : List (Int × α)} {ys : List Int} (x0 : α) (ne : (ks es).Nodup) (nd : (ks ds).Nodup) (hl : ∀ k, lk es k = lk ds k) (p1 : es'.Perm es) (e2 : ks es' = ys) : es' = ys.map fun k => (k, (lk ds k).getD x0) := by
  rw [← e2]
  unfold ks
  rw [List.map_map]
  have main : ∀ p ∈ es', p = (p.1, (lk ds p.1).getD x0) := by
    intro p hp
    have l := lk_ents ne (p1.mem_iff.mp hp)
    rw [← hl, l]
    rfl
  exact (List.map_id _).symm.trans (List.map_congr_left main)
end My
set_option Elab.async false
set_option maxRecDepth 100000
set_option maxHeartbeats 4000000
set_option linter.unusedVariables false
namespace My
open PySem PySem.Spec PyProof.Rows L2

def EntV (h : Heap) (v : Value) (x : Int) (y : Value) : Prop := ∃ a o t n, v = .ref a ∧ h.get? a = some o ∧ o.cls = .type "tuple" ∧ o.data = .seq #[.int x t, y] n
theorem EntV.keeps {h h' : Heap} {v : Value} {x : Int} {y : Value} (p : EntV h v x y) (k : ∀ b o, h.get? b = some o → o.cls = .type "tuple" → h'.get? b = some o) : EntV h' v x y := by
  obtain ⟨a, o, t, n, e, ho, hc, hd⟩ := p
  exact ⟨a, o, t, n, e, k a o ho hc, hc, hd⟩
theorem entV_firsts {h : Heap} : ∀ {vs : List Value}, (∀ v ∈ vs, ∃ x y, EntV h v x y) → ∃ fs : List Value, PySem.W.KatTups h vs fs ∧ fs.length = vs.length ∧ ∀ f ∈ fs, ∃ x t, f = Value.int x t
  | [], _ => ⟨[], .nil, rfl, fun _ hm => (nomatch hm)⟩
  | v :: vs, hp => by
    obtain ⟨fs, h1, h2, h3⟩ := entV_firsts (vs := vs) fun z hz => hp z (List.mem_cons_of_mem _ hz)
    obtain ⟨x, y, a, o, t, n, rfl, ho, hc, hd⟩ := hp v List.mem_cons_self
    refine ⟨Value.int x t :: fs, .cons ho hc hd rfl h1, congrArg Nat.succ h2, ?_⟩
    intro f hf
    rcases List.mem_cons.mp hf with e | hf
    · exact ⟨x, t, e⟩
    · exact h3 f hf
section
variable {P : Program} {w : World} {A : Around} {E : Value → Shared → Prop} {s : Shared}
theorem entV_cmp {vs : List Value} {k : Value → Int} {y : Value → Value} (hp : ∀ v ∈ vs, EntV s.heap v (k v) (y v)) (one : ∀ v ∈ vs, ∀ u ∈ vs, k v = k u → y v = y u) :
    SrtO.Cmp P w A s (tuples' true) (fun p => p.1 ∈ vs) (SrtO.lt2 fun v u => decide (k v < k u)) := by
  intro p q hm hm'
  have h1 := hp _ hm
  have h2 := hp _ hm'
  have h3 := one _ hm _ hm'
  show wpAny (model P w) A (keyLt' (tuples' true) p.1 q.1) (fun r s' => s' = s ∧ r = decide (k p.1 < k q.1)) (fun _ _ => False) s
  generalize k p.1 = x1 at h1 h3 ⊢
  generalize k q.1 = x2 at h2 h3 ⊢
  generalize y p.1 = y1 at h1 h3
  generalize y q.1 = y2 at h2 h3
  obtain ⟨a, o, t, n, e, ho, hc, hd⟩ := h1
  obtain ⟨b, o', t', n', e', ho', hc', hd'⟩ := h2
  rw [e, e']
  refine PySem.W.kat_lt ho hd ho' hd' ?_
  show PySem.W.KatLex P w A true (decide (2 < 2)) _ [(.int x1 t, .int x2 t'), (y1, y2)] 0 s
  refine PySem.W.kat_cons (SeqAt.EqAt.int_int x1 t x2 t' P w _ _ (PySem.W.kat_go (fun e1 => ?_) fun e1 => ?_))
  · have ex : x1 = x2 := by simpa using e1
    have ey := h3 ex
    subst ex
    subst ey
    refine PySem.W.kat_yes (PySem.W.kat_cons (SeqAt.EqAt.same y1 P w _ _ (PySem.W.kat_go (fun _ => ?_) fun e2 => ?_)))
    · exact PySem.W.kat_yes (PySem.W.kat_nil ⟨rfl, (decide_eq_false (Int.lt_irrefl _)).symm⟩)
    · simp at e2
  · exact PySem.W.kat_no (oneLt_int ⟨rfl, rfl⟩)
theorem swoV (k : Value → Int) : SrtO.Swo fun v u => decide (k v < k u) := by
  refine ⟨fun x y h => ?_, fun x y z h1 h2 => ?_⟩
  · have := of_decide_eq_true h
    exact decide_eq_false (by omega)
  · have a := of_decide_eq_false h1
    have b := of_decide_eq_false h2
    exact decide_eq_false (by omega)
theorem entV_sortable {a : Addr} {vs : List Value} {k : Value → Int} {y : Value → Value} (h0 : 0 < vs.length) (hp : ∀ v ∈ vs, EntV s.heap v (k v) (y v)) (one : ∀ v ∈ vs, ∀ u ∈ vs, k v = k u → y v = y u)
    (ha : ∀ o, s.heap.get? a = some o → o.cls ≠ .type "tuple") : SrtO.SortableO P w A s a vs fun v u => decide (k v < k u) := by
  intro h' keep
  have hp2 : ∀ v ∈ vs, EntV h' v (k v) (y v) := fun v hm => (hp v hm).keeps fun b o e c => keep b o (fun z => by rw [z] at e; exact ha o e c) e
  obtain ⟨fs, h1, h2, h3⟩ := entV_firsts fun v hm => ⟨_, _, hp2 v hm⟩
  refine ⟨tuples' true, fun Q E hq => ?_, entV_cmp hp2 one⟩
  refine PySem.W.kat_kind (T := .type "int") h1 (by omega) (fun f hm => ?_) rfl ?_
  · obtain ⟨x, t, rfl⟩ := h3 f hm
    exact PySem.W.Looks.now
  · rw [show (Value.type "int" != Value.type "tuple") = true by decide]
    exact hq
end
end My
set_option Elab.async false
set_option maxRecDepth 100000
set_option maxHeartbeats 4000000
set_option linter.unusedVariables false
namespace My
open PySem PySem.Spec PyProof.Rows L2 L2.DX

theorem int_small {n : Int} (h : 0 ≤ n ∧ n ≤ 999999) : (PyData.int n).weight ≤ 100000 := by
  have b : (if (n == 0) = true then 0 else n.natAbs.log2 + 1) ≤ 21 := by
    split
    · omega
    · rename_i z
      have nz : n.natAbs ≠ 0 := by
        intro q
        apply z
        rw [Int.natAbs_eq_zero.mp q]
        rfl
      have := (Nat.log2_lt nz (k := 20)).mpr (by omega)
      omega
  exact Nat.le_trans b (by decide)
def without (es : List (Int × Str)) (k : Int) : List (Int × Str) := es.filter fun p => !decide (p.1 = k)
def spMem (C : Addr) : Sp := fun vs H Q _ => ∃ U a es, vs = [.ref a] ∧ FS C U H a es ∧
  ∀ (H' : Hp) (l : Addr) (ts : List V) (es' : List (Int × Str)), Same H H' → H' l = some (.lst ts) → TupS H' ts es' → es'.Perm es → es'.Pairwise (fun p q => p.1 < q.1) → Q (.ref l) H'
def spHas (C : Addr) : Sp := fun vs H Q _ => ∃ U a es n, vs = [.ref a, .int n] ∧ FS C U H a es ∧ (0 ≤ n ∧ n ≤ 999999) ∧ ∀ H', Same H H' → Q (.bl (has es n)) H'
def spWith (K : PySem.W.Frag) (C : Addr) : Sp := fun vs H Q _ => ∃ U a t es n x, vs = [.ref a, .ref t] ∧ FS C U H a es ∧ SqT K H t [.int n, .str x] ∧ (0 ≤ n ∧ n ≤ 999999) ∧ nameOk x = true ∧ n ∈ U ∧
  ∀ d H', Same H H' → FS C U H' d (united es [(n, x)]) → Q (.ref d) H'
def spLess (C : Addr) : Sp := fun vs H Q _ => ∃ U a es n, vs = [.ref a, .int n] ∧ FS C U H a es ∧ (0 ≤ n ∧ n ≤ 999999) ∧
  ∀ d H', Same H H' → FS C U H' d (without es n) → Q (.ref d) H'
theorem drop_ents (es : List (Int × Str)) (k : Int) : dropK (ents es) (.inl k) = ents (without es k) := by
  unfold dropK ents without
  rw [List.filter_map]
  congr 1
  refine List.filter_congr fun p _ => ?_
  show decide ((Sum.inl p.1 : Key) ≠ .inl k) = !decide (p.1 = k)
  by_cases e : p.1 = k
  · rw [e]; simp
  · rw [decide_eq_false e]
    exact decide_eq_true fun z => e (Sum.inl.inj z)
theorem without_id {es : List (Int × Str)} {k : Int} (h : has es k = false) : without es k = es := by
  unfold without
  rw [List.filter_eq_self]
  intro p hp
  have : p.1 ≠ k := fun e => by
    have q : k ∈ keys es := by rw [← e]; exact List.mem_map_of_mem hp
    rw [← has_iff] at q
    rw [h] at q
    cases q
  rw [decide_eq_false this]; rfl
theorem look_without (es : List (Int × Str)) (k n : Int) : look (without es k) n = if n = k then none else look es n := by
  unfold without
  rw [look_filter fun q => !decide (q = k)]
  by_cases e : n = k
  · rw [if_pos e, e]; simp
  · rw [if_neg e, decide_eq_false e]; rfl

def tupD (p : Int × Str) : PyData := .tuple [.int p.1, .str p.2]
theorem tupS_dp {K : PySem.W.Frag} {H : Hp} : ∀ {ts : List V} {es : List (Int × Str)}, TupS H ts es → DpAll K H ts (es.map tupD)
  | _, _, .nil => .nil
  | _, _, .cons h r => .cons (.tup (.inl (.inl h)) (.cons (.int _) (.cons (.str _) .nil))) (tupS_dp r)
theorem tupS_same {H H' : Hp} (s : Same H H') : ∀ {ts : List V} {es : List (Int × Str)}, TupS H ts es → TupS H' ts es
  | _, _, .nil => .nil
  | _, _, .cons h r => .cons (s _ _ h) (tupS_same s r)
theorem tupS_chg {H H' : Hp} {a : Addr} {ls : List V} (e : H a = some (.lst ls)) (x : Ext a H H') : ∀ {ts : List V} {es : List (Int × Str)}, TupS H ts es → TupS H' ts es
  | _, _, .nil => .nil
  | _, _, .cons h r => .cons (x _ _ (fun z => by rw [z, e] at h; cases h) h) (tupS_chg e x r)
theorem tupS_app {H : Hp} {t : Addr} {k : Int} {x : Str} (h : H t = some (.tup [.int k, .str x])) : ∀ {ts : List V} {es : List (Int × Str)}, TupS H ts es → TupS H (ts ++ [.ref t]) (es ++ [(k, x)])
  | _, _, .nil => .cons h .nil
  | _, _, .cons h1 r => .cons h1 (tupS_app h r)
theorem name_lay {x : Str} (h : nameOk x = true) : PyData.canLay0 (.str x) = true := by
  rcases (name_sm h).2 with q | ⟨_, q⟩
  · exact q
  · cases q
def NE (es : List (Int × Str)) : Prop := ∀ p ∈ es, nameOk p.2 = true
theorem lay_tups : ∀ {es : List (Int × Str)}, NE es → PyData.canLayAll0 (es.map tupD) = true
  | [], _ => rfl
  | p :: r, h => by
    show ((PyData.canLay0 (.int p.1) && (PyData.canLay0 (.str p.2) && true)) && PyData.canLayAll0 (r.map tupD)) = true
    rw [lay_tups fun q hq => h q (List.mem_cons_of_mem _ hq), name_lay (h p List.mem_cons_self)]
    rfl
theorem deep_tups : ∀ es : List (Int × Str), PyData.depthAll (es.map tupD) ≤ 1
  | [] => by decide
  | p :: r => by
    show max (PyData.depth (tupD p)) (PyData.depthAll (r.map tupD)) ≤ 1
    exact Nat.max_le.mpr ⟨Nat.le_of_eq rfl, deep_tups r⟩
theorem shaped_tups {es : List (Int × Str)} (h : NE es) : SeqAt.shaped (.list (es.map tupD)) = true := by
  show (PyData.canLayAll0 (es.map tupD) && decide (PyData.depthAll (es.map tupD) + 1 ≤ 64)) = true
  have := deep_tups es
  rw [lay_tups h, decide_eq_true (by omega)]
  rfl
theorem eqv_tups {es : List (Int × Str)} (h : NE es) : PyData.eqv (.list (es.map tupD)) (.list (es.map tupD)) = true :=
  PySem.SeqAt.eqv_refl _ (lay_tups h)

theorem sorted_eq {es ds es' : List (Int × Str)} {ks : List Int} (ne : (keys es).Nodup) (nd : (keys ds).Nodup) (hl : ∀ k, look es k = look ds k) (p1 : es'.Perm es) (s1 : es'.Pairwise (fun p q => p.1 < q.1))
    (p2 : ks.Perm (keys ds)) (s2 : ks.Pairwise (· ≤ ·)) : es' = ks.map fun k => (k, (look ds k).getD Str.empty) := by
  have hk : (keys es).Perm (keys ds) := by
    refine (List.perm_ext_iff_of_nodup ne nd).mpr fun k => ?_
    rw [← has_iff, ← has_iff]
    unfold has
    rw [hl]
  have e1 : (keys es').Perm ks := ((p1.map (fun p : Int × Str => p.1)).trans hk).trans p2.symm
  have s3 : (keys es').Pairwise (· ≤ ·) := List.pairwise_map.mpr (s1.imp fun h => Int.le_of_lt h)
  have e2 : keys es' = ks := PySem.W.os_sorted_one e1 s3 s2
  rw [← e2]
  unfold keys
  rw [List.map_map]
  have : ∀ p ∈ es', p = (p.1, (look ds p.1).getD Str.empty) := by
    intro p hp
    have l := look_ents ne (p1.mem_iff.mp hp)
    rw [← hl, l]
    rfl
  exact (List.map_id _).symm.trans (List.map_congr_left this)

def spIsIt (C : Addr) : Sp := fun vs H Q _ => ∃ U V2 x d es ds, vs = [.ref x, .ref d] ∧ FS C U H x es ∧ FD V2 H d ds ∧ ds.length < 64 ∧ NE ds ∧ (∀ k, look es k = look ds k) ∧ ∀ H', Same H H' → Q (.bl true) H'
def spPart : Sp := fun vs H Q _ => ∃ U V2 a b c es fs, vs = [.ref a, .ref b, .bl c] ∧ FD U H a es ∧ FD V2 H b fs ∧ ∀ d H', H d = none → Same H H' → FD U H' d (if c = true then common es fs else rest es fs) → Q (.ref d) H'
inductive FDs (U : List Int) (H : Hp) : List V → List (List (Int × Str)) → Prop
  | nil : FDs U H [] []
  | cons {x : Addr} {es : List (Int × Str)} {vs : List V} {ls : List (List (Int × Str))} (h : FD U H x es) (r : FDs U H vs ls) : FDs U H (.ref x :: vs) (es :: ls)
theorem FDs.same {U : List Int} {H H' : Hp} (s : Same H H') : ∀ {vs : List V} {ls : List (List (Int × Str))}, FDs U H vs ls → FDs U H' vs ls
  | _, _, .nil => .nil
  | _, _, .cons h r => .cons (h.same s) (FDs.same s r)
theorem FDs.len {U : List Int} {H : Hp} : ∀ {vs : List V} {ls : List (List (Int × Str))}, FDs U H vs ls → vs.length = ls.length
  | _, _, .nil => rfl
  | _, _, .cons _ r => by rw [List.length_cons, List.length_cons, r.len]
theorem FDs.at {U : List Int} {H : Hp} : ∀ {vs : List V} {ls : List (List (Int × Str))} {i : Nat} {v : V}, FDs U H vs ls → vs[i]? = some v → ∃ x es, v = .ref x ∧ ls[i]? = some es ∧ FD U H x es
  | _, _, i, v, .nil, h => by simp at h
  | _, _, 0, v, .cons h1 r, h => by
    cases Option.some.inj h
    exact ⟨_, _, rfl, rfl, h1⟩
  | _, _, i + 1, v, .cons h1 r, h => r.at h
def spJoined (K : PySem.W.Frag) : Sp := fun vs H Q _ => ∃ U l xs ess, vs = [.ref l] ∧ SqL K H l xs ∧ FDs U H xs ess ∧ U.length ≤ 1000 ∧ ∀ d H', Same H H' → FD U H' d (joinAll [] ess) → Q (.ref d) H'
def spRow (K : PySem.W.Frag) : Sp := fun vs H Q _ => ∃ (a b : Addr) (n m : Nat) (fl : List Str), vs = [.ref a, .int m, .ref b] ∧ Bag H a n ∧ n < 5000 ∧ 1 ≤ m ∧ m ≤ 20 ∧ H b = some (.lst (fl.map V.str)) ∧ 1 ≤ fl.length ∧ fl.length ≤ 10 ∧ (∀ x ∈ fl, nameOk x = true) ∧
  ∀ d es H', Same (del a H) (del a H') → Bag H' a (n + 100) → FD (below m) H' d es → NE es → Q (.ref d) H'
def spRows : Sp := fun vs H Q _ => ∃ (a : Addr) (n : Nat), vs = [.ref a] ∧ Bag H a n ∧ n < 1000 ∧
  ∀ l xs ess H', Same (del a H) (del a H') → Bag H' a (n + 1000) → H' l = some (.lst xs) → FDs (below 14) H' xs ess → (∀ es ∈ ess, NE es) → 2 ≤ xs.length → xs.length ≤ 5 → Q (.ref l) H'
def spJR (K : PySem.W.Frag) (C : Addr) : Sp := fun vs H Q _ => ∃ (l r : Addr) (xs ys : List V) (ess uss : List (List (Int × Str))), vs = [.ref l, .ref r] ∧ H l = some (.lst xs) ∧ FDs (below 14) H xs ess ∧ H r = some (.lst ys) ∧ FSs C (below 14) H ys uss ∧
  xs.length = ys.length ∧ 2 ≤ xs.length ∧ xs.length ≤ 5 ∧ (∀ es ∈ ess, NE es) ∧ (∀ (i : Nat) (e u : List (Int × Str)), ess[i]? = some e → uss[i]? = some u → ∀ j, look u j = look e j) ∧ ∀ H', Same H H' → Q (.bl true) H'
def spPR (C : Addr) : Sp := fun vs H Q _ => ∃ (a b x y : Addr) (es fs us ws : List (Int × Str)), vs = [.ref a, .ref b, .ref x, .ref y] ∧ FD (below 14) H a es ∧ FD (below 14) H b fs ∧ FS C (below 14) H x us ∧ FS C (below 14) H y ws ∧
  NE es ∧ NE fs ∧ (∀ k, look us k = look es k) ∧ (∀ k, look ws k = look fs k) ∧ ∀ H', Same H H' → Q (.bl true) H'
def spSR (C : Addr) : Sp := fun vs H Q _ => ∃ (a : Addr) (n : Nat) (d x : Addr) (es us : List (Int × Str)), vs = [.ref a, .ref d, .ref x] ∧ Bag H a n ∧ n < 5000 ∧ FD (below 14) H d es ∧ FS C (below 14) H x us ∧ NE es ∧ (∀ k, look us k = look es k) ∧
  ∀ H', Same (del a H) (del a H') → Bag H' a (n + 10) → Q (.bl true) H'
end My
set_option Elab.async false
set_option maxRecDepth 100000
set_option maxHeartbeats 4000000
set_option linter.unusedVariables false
namespace My
open PySem PySem.Spec PyProof.Rows L2 L2.DX

theorem for_keys {d : Addr} {od : Obj} {kvs : List (Key × V)} {g : TG} {tb : TS} {D : Ends} {σ : L2.St} {H : Hp} (Pv : Nat → L2.St → Hp → Prop)
    (h0 : Pv 0 σ H) (hl : ∀ i σ H, i ≤ kvs.length → Pv i σ H → H d = some (.frz od (.dK kvs)))
    (hs : ∀ i k v σ H, kvs[i]? = some (k, v) → Pv i σ H → g (kV k) σ H fun σ2 H2 => tb { D with nx := Pv (i + 1), ct := Pv (i + 1), bk := D.nx } σ2 H2)
    (hd : ∀ σ H, Pv kvs.length σ H → D.nx σ H) :
    ∃ W : Nat → Nat → L2.St → Hp → Prop, (∃ m, W 0 m σ H) ∧ ∀ i m σ H, W i m σ H → ((Itk d od kvs).stop i H ∧ D.nx σ H) ∨
      ((Itk d od kvs).go i H ∧ ∃ N : L2.St → Hp → Prop, (∀ σ' H', N σ' H' → ∃ m', m' < m ∧ W (i + 1) m' σ' H') ∧
        ∀ x H', (Itk d od kvs).yld i H x H' → g x σ H' fun σ2 H2 => tb { D with nx := N, ct := N, bk := D.nx } σ2 H2) := by
  refine ⟨fun i m σ H => i ≤ kvs.length ∧ m + i = kvs.length ∧ Pv i σ H, ⟨kvs.length, Nat.zero_le _, rfl, h0⟩, ?_⟩
  rintro i m σ H ⟨hi, hm, p⟩
  have q := hl i σ H hi p
  by_cases l : i < kvs.length
  · right
    refine ⟨⟨q, l⟩, Pv (i + 1), fun σ' H' z => ⟨m - 1, by omega, by omega, by omega, z⟩, ?_⟩
    rintro x H' ⟨rfl, k, v, e, rfl⟩
    exact hs i k v σ _ e p
  · left
    obtain rfl : i = kvs.length := by omega
    exact ⟨⟨q, Nat.le_refl _⟩, hd σ H p⟩
theorem lc_keys {d : Addr} {od : Obj} {kvs : List (Key × V)} {g : TG} {tt : TT} {te : TE} {vs : List Nat} {σ : L2.St} {H1 : Hp} {D : Addr} {Qd : Hp → Prop}
    (Pv : Nat → Hp → Prop) (h0 : Pv 0 (upd H1 D (.lst []))) (hl : ∀ i H, i ≤ kvs.length → Pv i H → H d = some (.frz od (.dK kvs)))
    (hs : ∀ i k v H, kvs[i]? = some (k, v) → Pv i H → g (kV k) (wipe σ vs) H fun σ2 H2 => wipe σ2 vs = wipe σ vs ∧ tt σ2 H2 fun b H3 =>
      if b = true then te σ2 H3 fun y H4 => ∃ acc, H4 D = some (.lst acc) ∧ acc.length < sizeLine ∧ Pv (i + 1) (upd H4 D (.lst (acc ++ [y]))) else Pv (i + 1) H3)
    (hd : ∀ H, Pv kvs.length H → Qd H) :
    ∃ W : Nat → Nat → Hp → Prop, (∃ m, W 0 m (upd H1 D (.lst []))) ∧ ∀ i m H, W i m H → ((Itk d od kvs).stop i H ∧ Qd H) ∨
      ((Itk d od kvs).go i H ∧ ∃ Nx : Hp → Prop, (∀ H', Nx H' → ∃ m', m' < m ∧ W (i + 1) m' H') ∧
        ∀ x H', (Itk d od kvs).yld i H x H' → g x (wipe σ vs) H' fun σ2 H2 => wipe σ2 vs = wipe σ vs ∧ tt σ2 H2 fun b H3 =>
          if b = true then te σ2 H3 fun y H4 => ∃ acc, H4 D = some (.lst acc) ∧ acc.length < sizeLine ∧ Nx (upd H4 D (.lst (acc ++ [y]))) else Nx H3) := by
  refine ⟨fun i m H => i ≤ kvs.length ∧ m + i = kvs.length ∧ Pv i H, ⟨kvs.length, Nat.zero_le _, rfl, h0⟩, ?_⟩
  rintro i m H ⟨hi, hm, p⟩
  have q := hl i H hi p
  by_cases l : i < kvs.length
  · right
    refine ⟨⟨q, l⟩, Pv (i + 1), fun H' z => ⟨m - 1, by omega, by omega, by omega, z⟩, ?_⟩
    rintro x H' ⟨rfl, k, v, e, rfl⟩
    exact hs i k v _ e p
  · left
    obtain rfl : i = kvs.length := by omega
    exact ⟨⟨q, Nat.le_refl _⟩, hd H p⟩
theorem tupS_refs {K : PySem.W.Frag} {H : Hp} : ∀ {ts : List V} {es : List (Int × Str)}, TupS H ts es → ∃ ps : List Addr, ts = ps.map V.ref ∧ Paired (fun p (kv : Key × V) => SqT K H p [kV kv.1, kv.2]) ps (ents es)
  | _, _, .nil => ⟨[], rfl, .nil⟩
  | _, _, .cons (a := a) h r => by
    obtain ⟨ps, rfl, h2⟩ := tupS_refs (K := K) r
    exact ⟨a :: ps, rfl, .cons (.inl (.inl h)) h2⟩
theorem merge_from : ∀ (es acc : List (Int × Str)), (keys (acc ++ es)).Nodup → mergeK (ents acc) (ents es) = ents (acc ++ es)
  | [], acc, _ => by rw [List.append_nil]; rfl
  | (k, x) :: r, acc, nd => by
    have e : acc ++ (k, x) :: r = (acc ++ [(k, x)]) ++ r := by simp
    have hk : k ∉ keys acc := by
      rw [keys_app] at nd
      intro z
      exact (List.nodup_append.mp nd).2.2 k z k List.mem_cons_self rfl
    have step : mergeK (ents acc) (ents ((k, x) :: r)) = mergeK (putK (ents acc) (.inl k) (.str x)) (ents r) := rfl
    rw [step, put_new hk, e]
    exact merge_from r _ (by rw [← e]; exact nd)
theorem merge_ents {es : List (Int × Str)} (nd : (keys es).Nodup) : mergeK [] (ents es) = ents es := merge_from es [] nd
theorem tupS_at {H : Hp} {a : Addr} {od : Obj} {u o : HO} (e : H a = some (.frz od u)) : ∀ {ts : List V} {es : List (Int × Str)}, TupS H ts es → TupS (upd H a o) ts es
  | _, _, .nil => .nil
  | _, _, .cons h r => .cons ((upd_ne fun z => by rw [z, e] at h; cases h).trans h) (tupS_at e r)
theorem sqL_ext {K : PySem.W.Frag} {H H' : Hp} {a p : Addr} {xs : List V} (hp : H p = none) (e : Ext p H H') (h : SqL K H a xs) : SqL K H' a xs := by
  rcases h with (h | ⟨o, h⟩) | h
  · exact .inl (.inl (e _ _ (ne_of_none h hp) h))
  · exact .inl (.inr ⟨o, e _ _ (ne_of_none h hp) h⟩)
  · exact .inr h
theorem join_good {U : List Int} (hU : U.length ≤ 1000) {ls : List (List (Int × Str))} (h : ∀ es ∈ ls, Good U es) : Good U (joinAll [] ls) := by
  have : ∀ (ls : List (List (Int × Str))) (acc : List (Int × Str)), Good U acc → (∀ es ∈ ls, Good U es) → Good U (ls.foldl united acc) := by
    intro ls
    induction ls with
    | nil => exact fun acc g _ => g
    | cons x r ih => exact fun acc g h => ih _ (g.united (h x List.mem_cons_self)) fun y hy => h y (List.mem_cons_of_mem _ hy)
  exact this ls [] (good_nil hU) h
theorem FDs.good {U : List Int} {H : Hp} : ∀ {vs : List V} {ls : List (List (Int × Str))}, FDs U H vs ls → ∀ es ∈ ls, Good U es
  | _, _, .nil => fun _ h => (nomatch h)
  | _, _, .cons h r => fun es hm => by
    rcases List.mem_cons.mp hm with rfl | hm
    · exact h.2
    · exact r.good es hm
theorem join_step (es : List (Int × Str)) (ls : List (List (Int × Str))) (fs : List (Int × Str)) : joinAll es (ls ++ [fs]) = united (joinAll es ls) fs := by
  unfold joinAll
  rw [List.foldl_append]
  rfl

def putE (es : List (Int × Str)) (k : Int) (x : Str) : List (Int × Str) := if has es k = true then es.map fun p => if p.1 = k then (p.1, x) else p else es ++ [(k, x)]
theorem put_ents (es : List (Int × Str)) (k : Int) (x : Str) : putK (ents es) (.inl k) (.str x) = ents (putE es k x) := by
  unfold putE
  by_cases h : has es k = true
  · rw [if_pos h]
    unfold putK
    have hv : (valV (ents es) (.inl k)).isSome = true := by
      rw [valV_ents]
      unfold has at h
      cases q : look es k with
      | none => rw [q] at h; cases h
      | some y => rfl
    rw [valV_any, hv, if_pos rfl]
    unfold ents
    rw [List.map_map, List.map_map]
    refine List.map_congr_left fun p _ => ?_
    show (if (Sum.inl p.1 : Key) = .inl k then _ else _) = _
    by_cases e : p.1 = k
    · rw [if_pos (by rw [e])]
      show _ = ((Sum.inl (if p.1 = k then (p.1, x) else p).1 : Key), V.str (if p.1 = k then (p.1, x) else p).2)
      rw [if_pos e]
    · rw [if_neg (fun z => e (Sum.inl.inj z))]
      show _ = ((Sum.inl (if p.1 = k then (p.1, x) else p).1 : Key), V.str (if p.1 = k then (p.1, x) else p).2)
      rw [if_neg e]
  · rw [if_neg h]
    exact put_new fun z => h (has_iff.mpr z)
theorem keys_put (es : List (Int × Str)) (k : Int) (x : Str) : keys (putE es k x) = if has es k = true then keys es else keys es ++ [k] := by
  unfold putE
  by_cases h : has es k = true
  · rw [if_pos h, if_pos h]
    unfold keys
    rw [List.map_map]
    refine List.map_congr_left fun p _ => ?_
    show (if p.1 = k then (p.1, x) else p).1 = p.1
    split <;> rfl
  · rw [if_neg h, if_neg h, keys_app]
    rfl
theorem Good.put {U : List Int} {es : List (Int × Str)} (g : Good U es) {k : Int} (x : Str) (hk : k ∈ U) : Good U (putE es k x) := by
  unfold Good
  rw [keys_put]
  by_cases h : has es k = true
  · rw [if_pos h]; exact g
  · rw [if_neg h]
    refine ⟨List.nodup_append.mpr ⟨g.1, List.nodup_cons.mpr ⟨List.not_mem_nil, List.nodup_nil⟩, fun a ha b hb e => ?_⟩, fun q hq => ?_, g.2.2⟩
    · rw [List.mem_singleton.mp hb] at e
      rw [e] at ha
      exact h (has_iff.mpr ha)
    · rcases List.mem_append.mp hq with hq | hq
      · exact g.2.1 q hq
      · rw [List.mem_singleton.mp hq]; exact hk
theorem NE.put {es : List (Int × Str)} (g : NE es) (k : Int) {x : Str} (hx : nameOk x = true) : NE (putE es k x) := by
  unfold putE
  intro p hp
  by_cases h : has es k = true
  · rw [if_pos h] at hp
    obtain ⟨q, hq, rfl⟩ := List.mem_map.mp hp
    split
    · exact hx
    · exact g q hq
  · rw [if_neg h] at hp
    rcases List.mem_append.mp hp with hp | hp
    · exact g p hp
    · rw [List.mem_singleton.mp hp]; exact hx
theorem look_put (es : List (Int × Str)) (k : Int) (x : Str) (n : Int) : look (putE es k x) n = if n = k then some x else look es n := by
  unfold putE
  by_cases h : has es k = true
  · rw [if_pos h]
    have : ∀ es : List (Int × Str), look (es.map fun p => if p.1 = k then (p.1, x) else p) n = if n = k then (if has es k = true then some x else none) else look es n := by
      intro es
      induction es with
      | nil => show none = _; split <;> rfl
      | cons p r ih =>
        rw [List.map_cons, look_cons, ih]
        by_cases e : p.1 = k
        · rw [if_pos e]
          by_cases q : n = k
          · have hh : has (p :: r) k = true := by unfold has; rw [look_cons, if_pos e]; rfl
            rw [if_pos (show p.1 = n by rw [e, q]), hh, if_pos rfl, if_pos q]
          · rw [if_neg q, look_cons]
            have : ¬ p.1 = n := fun z => q (by rw [← z, e])
            rw [if_neg this, if_neg this, if_neg q]
        · rw [if_neg e]
          by_cases q : n = k
          · have : ¬ p.1 = n := fun z => e (by rw [z, q])
            have hh : has (p :: r) k = has r k := by unfold has; rw [look_cons, if_neg e]
            rw [if_neg this, hh, if_pos q, if_pos q]
          · rw [if_neg q, look_cons, if_neg q]
    rw [this, h]
    rfl
  · rw [if_neg h, look_app, look_cons, look_nil]
    have hk : look es k = none := by
      cases q : look es k with
      | none => rfl
      | some y => exact absurd (by unfold has; rw [q]; rfl) h
    by_cases e : n = k
    · rw [if_pos e, e, hk, if_pos rfl]; rfl
    · rw [if_neg e, if_neg (fun z => e z.symm), Option.or_none]
end My
set_option Elab.async false
set_option maxRecDepth 100000
set_option maxHeartbeats 4000000
set_option linter.unusedVariables false
namespace My
open PySem PySem.Spec PyProof.Rows L2 L2.DX
section
variable {X : Cx}
def rUpdK : V → List V → Hp → VK → Prop := fun x xs H Q => ∃ (a b : Addr) (ks ls : List (Key × V)), x = .ref a ∧ xs = [.ref b] ∧ a ≠ b ∧ H a = some (.dK ks) ∧ H b = some (.dK ls) ∧ ks.length + ls.length ≤ 100000 ∧ Q .non (upd H a (.dK (mergeK ks ls)))
theorem merge_len : ∀ (ls ks : List (Key × V)), (mergeK ks ls).length ≤ ks.length + ls.length
  | [], ks => Nat.le_refl _
  | p :: r, ks => by
    have h := merge_len r (putK ks p.1 p.2)
    have e : mergeK ks (p :: r) = mergeK (putK ks p.1 p.2) r := rfl
    have h2 : (putK ks p.1 p.2).length ≤ ks.length + 1 := by
      unfold putK
      split
      · rw [List.length_map]; omega
      · rw [List.length_append]; exact Nat.le_refl _
    rw [e, List.length_cons]
    omega
theorem mt_updateK : MtM X "dict.update" rUpdK := by
  intro pins s σ H x xs v us Q I rx rxs h
  obtain ⟨a, b, ks, ls, rfl, rfl, nab, ha, hb, hz, q⟩ := h
  cases rx
  obtain ⟨u, rfl, ru⟩ := vals1 rxs
  cases ru
  obtain ⟨_, sa, va, kva, da⟩ := dk_of I.hok ha
  obtain ⟨_, sb, vb, kvb, db⟩ := dk_of I.hok hb
  have l1 := kv_len kva
  have l2 := kv_len kvb
  have big : (200000 : Nat) ≤ sizeLine := by decide
  refine call_meetsIn PySem.F.slot_dict_update da.typeIs PySem.F.entry_dict_update (PySem.F.args_dict_update_2 _ _) (meets_dict_update (mixKind X.prog X.w) a b nab sb)
    ⟨va, vb, da, db, by omega, fun h' hm _ hs => ?_⟩
  have hm2 := hm
  obtain ⟨o', _, _, ho', _⟩ := hm2
  have ml := merge_len ls ks
  exact ⟨.non, _, d_write (t' := s.toks) I (by rw [ha]; exact True.intro) hs ⟨o', ho'⟩ (dk_new (by omega) sa (KV.merge kvb kva) hm), rfl, q⟩
end

theorem merge_apart {es fs : List (Int × Str)} (nd : (keys (es ++ fs)).Nodup) : mergeK (ents es) (ents fs) = ents (es ++ fs) := merge_from fs es nd
theorem good_apart {U : List Int} {es fs : List (Int × Str)} (g : Good U es) (h : Good U fs) : Good U (rest es fs ++ rest fs es) := by
  refine ⟨?_, fun k hk => ?_, g.2.2⟩
  · rw [keys_app]
    refine List.nodup_append.mpr ⟨(g.rest fs).1, (h.rest es).1, fun a ha b hb e => ?_⟩
    subst e
    have h1 := has_iff.mpr ha
    have h2 := has_iff.mpr hb
    rw [has_rest] at h1 h2
    cases p : has es a <;> cases q : has fs a <;> rw [p, q] at h1 h2 <;> simp at h1 h2
  · rw [keys_app] at hk
    rcases List.mem_append.mp hk with hk | hk
    · exact (g.rest fs).2.1 k hk
    · exact (h.rest es).2.1 k hk
theorem FD.chg {U : List Int} {H H' : Hp} {g d : Addr} {ls : List V} {es : List (Int × Str)} (e : H g = some (.lst ls)) (s : Ext g H H') (h : FD U H d es) : FD U H' d es :=
  ⟨s _ _ (fun z => by have := h.1; rw [z, e] at this; cases this) h.1, h.2⟩
theorem FDs.chg {U : List Int} {H H' : Hp} {g : Addr} {ls : List V} (e : H g = some (.lst ls)) (s : Ext g H H') : ∀ {vs : List V} {es : List (List (Int × Str))}, FDs U H vs es → FDs U H' vs es
  | _, _, .nil => .nil
  | _, _, .cons h r => .cons (h.chg e s) (FDs.chg e s r)
theorem FDs.app {U : List Int} {H : Hp} {x : Addr} {es : List (Int × Str)} (h : FD U H x es) : ∀ {vs : List V} {ls : List (List (Int × Str))}, FDs U H vs ls → FDs U H (vs ++ [.ref x]) (ls ++ [es])
  | _, _, .nil => .cons h .nil
  | _, _, .cons h1 r => .cons h1 (FDs.app h r)
theorem FDs.set {U : List Int} {H : Hp} {x : Addr} {es : List (Int × Str)} (h : FD U H x es) : ∀ {vs : List V} {ls : List (List (Int × Str))} (i : Nat), FDs U H vs ls → FDs U H (vs.set i (.ref x)) (ls.set i es)
  | _, _, _, .nil => .nil
  | _, _, 0, .cons h1 r => .cons h r
  | _, _, i + 1, .cons h1 r => .cons h1 (FDs.set h i r)
theorem Good.widen {m : Nat} {es : List (Int × Str)} (g : Good (below m) es) (h : m ≤ 14) : Good (below 14) es := by
  refine ⟨g.1, fun k hk => ?_, by rw [below_len]; omega⟩
  have := g.2.1 k hk
  unfold below at this ⊢
  obtain ⟨i, hi, rfl⟩ := List.mem_map.mp this
  exact List.mem_map.mpr ⟨i, List.mem_range.mpr (by have := List.mem_range.mp hi; omega), rfl⟩
theorem FD.widen {m : Nat} {H : Hp} {d : Addr} {es : List (Int × Str)} (g : FD (below m) H d es) (h : m ≤ 14) : FD (below 14) H d es := ⟨g.1, g.2.widen h⟩
theorem keys_same (es : List (Int × Str)) (x : Str) : keys (es.map fun p => (p.1, x)) = keys es := by
  unfold keys
  rw [List.map_map]
  rfl
theorem at_zero (v : V) (r : List V) : atI (v :: r) 0 = some v := by
  unfold atI ixN
  rw [if_pos (by decide), if_pos (by rw [List.length_cons]; omega)]
  rfl
theorem ix_one {n : Nat} (h : 2 ≤ n) : ixN n 1 = some 1 := by
  unfold ixN
  rw [if_pos (by decide), if_pos (by omega)]
  rfl
section
variable {X : Cx} {k : Nat} {C : Addr} {ps : List Str} {sp : Sp} {m : Str} {pos apos : Pos} {o : Expr} {ta : TE}
theorem pe_mtR0 {pl : Sem Bool} (D : MtR X.prog X.w X.K X.mg X.base C m k ps sp) (hr : Room k X.A) (c : Cls X.K C) (he : PE X o ta)
    (ht : eval (.Call (.Attribute o m apos) [] [] pos) X.env = (do
      let ov ← eval o X.env
      standAt apos.atName
      let (f, first) ← holding [ov] (getMethod ov m pl)
      callWith pos f first (backTo pos (starEach [] X.env)) (backToKw pos (keywordEach [] X.env))) := by rfl) :
    PE X (.Call (.Attribute o m apos) [] [] pos) (tMethR C m (spStar ps sp) E0 ta tNil) := by
  obtain ⟨f, h1, h2, h3, F⟩ := D
  refine ⟨fun pins s σ H Q I h => ?_⟩
  refine PySem.W.methodCall_KW (pl := pl) (thn (he.run pins s σ H _ I h) fun u s1 ⟨x, H1, I1, rx, a, dx, fs, ex, ea, l, q⟩ => ?_) ht
  subst ex
  cases rx
  refine getmeth_ok I1 ea c (⟨h1, h2, h3⟩ : Meth X.K C m f) l ?_
  exact PySem.W.callWith_K0 (first := [.ref a]) I1.kIn h3 (wpAny_call (run_fnR (us := [.ref a]) (vs := [.ref a]) F hr pass0 I1 (.cons rfl .nil) q))
end

theorem range_all {K : PySem.W.Frag} {σ : L2.St} {H : Hp} {D' : Ends} {j : Nat} {n : Nat} {ta te : TE} (hta : ∀ R : VK, R (.int n) H → ta σ H R) (hn : n ≤ 1000)
    (hw : ∀ x, wipe ((wipe σ [j]).set j x) [j] = wipe σ [j])
    (hte : ∀ (i : Nat) (H1 : Hp) (Q : VK), i < n → Same H H1 → (∀ H2, Same H1 H2 → Q (.bl true) H2) → te ((wipe σ [j]).set j (some (.int (0 + i)))) H1 Q)
    (k : ∀ H', Same H H' → D'.rt (.bl true) H') :
    tRet (tCB (rAll K) (tCons (tLc (iRng1 (tCons ta tNil)) (gName j) tYes te [j]) tNil)) D' σ H := by
  refine hta _ ⟨n, rfl, by omega, by omega, fun E hE => ?_⟩
  refine lc_range (lo := 0) (fun i H' => Ext E H H' ∧ H' E = some (.lst ((List.replicate i true).map V.bl))) ?_ ?_ ?_
  · exact ⟨fun b o n e => (upd_ne n).trans e, upd_same⟩
  · rintro i H' hi ⟨x, hd⟩
    have hi2 : i < n := by omega
    refine ⟨hw _, hte i H' _ hi2 (fun b o e => x b o (ne_of_none e hE) e) fun H2 s2 => ?_⟩
    refine ⟨_, s2 _ _ hd, ?_, ?_, upd_same.trans ?_⟩
    · rw [List.length_map, List.length_replicate]
      exact small1000 (by omega)
    · exact fun b o nb e => (upd_ne nb).trans (s2 _ _ (x b o nb e))
    · rw [List.replicate_succ', List.map_append]
      rfl
  · rintro H' ⟨x, hd⟩
    refine ⟨E, _, rfl, SqL.of hd, ?_⟩
    rw [allB]
    exact k _ fun b o e => x b o (ne_of_none e hE) e

theorem sl_listK {X : Cx} {K : PySem.W.Frag} (h : X.K = K) : SlR X (rSlL K) := by
  subst h
  exact sl_list
theorem ix_listK {X : Cx} {K : PySem.W.Frag} (h : X.K = K) : IxR X (rIxL K) := by
  subst h
  exact ix_list
theorem look_join (ls : List (List (Int × Str))) : ∀ (es : List (Int × Str)) (k : Int), look (joinAll es ls) k = ls.foldl (fun acc l => acc.or (look l k)) (look es k) := by
  unfold joinAll
  induction ls with
  | nil => exact fun _ _ => rfl
  | cons l r ih =>
    intro es k
    rw [List.foldl_cons, List.foldl_cons, ih, look_united]
theorem look_join_like : ∀ (us ws : List (List (Int × Str))) (k : Int) (a : Option Str), us.length = ws.length → (∀ (i : Nat) (u w : List (Int × Str)), us[i]? = some u → ws[i]? = some w → look u k = look w k) →
    us.foldl (fun acc l => acc.or (look l k)) a = ws.foldl (fun acc l => acc.or (look l k)) a
  | [], [], _, _, _, _ => rfl
  | u :: us, w :: ws, k, a, hl, h => by
    rw [List.foldl_cons, List.foldl_cons, h 0 u w rfl rfl]
    exact look_join_like us ws k _ (by simpa using hl) fun i x y e1 e2 => h (i + 1) x y e1 e2
theorem NE.join {ls : List (List (Int × Str))} (h : ∀ es ∈ ls, NE es) : NE (joinAll [] ls) := by
  have : ∀ (ls : List (List (Int × Str))) (acc : List (Int × Str)), NE acc → (∀ es ∈ ls, NE es) → NE (ls.foldl united acc) := by
    intro ls
    induction ls with
    | nil => exact fun acc g _ => g
    | cons x r ih =>
      refine fun acc g h => ih _ (fun p hp => ?_) fun y hy => h y (List.mem_cons_of_mem _ hy)
      unfold united at hp
      rcases List.mem_append.mp hp with hp | hp
      · exact g p hp
      · exact h x List.mem_cons_self p (List.mem_filter.mp hp).1
  exact this ls [] (fun p hp => (nomatch hp)) h
theorem FDs.take {U : List Int} {H : Hp} : ∀ {vs : List V} {ls : List (List (Int × Str))} (i : Nat), FDs U H vs ls → FDs U H (vs.take i) (ls.take i)
  | _, _, 0, _ => by rw [List.take_zero, List.take_zero]; exact .nil
  | _, _, i + 1, .nil => .nil
  | _, _, i + 1, .cons h r => .cons h (FDs.take i r)
theorem cut_to (xs : List V) (i : Nat) (h : i ≤ xs.length) : cutV xs none (some (i : Int)) = xs.take i := by
  have e : HT.sIx xs.length xs.length (some (i : Int)) = i := by
    rw [HT.sIx_nat]
    omega
  unfold cutV
  rw [e]
  rfl
theorem range_allE {K : PySem.W.Frag} {σ : L2.St} {H : Hp} {Q : VK} {j : Nat} {n : Nat} {ta te : TE} (hta : ∀ R : VK, R (.int n) H → ta σ H R) (hn : n ≤ 1000)
    (hw : ∀ x, wipe ((wipe σ [j]).set j x) [j] = wipe σ [j])
    (hte : ∀ (i : Nat) (H1 : Hp) (Q : VK), i < n → Same H H1 → (∀ H2, Same H1 H2 → Q (.bl true) H2) → te ((wipe σ [j]).set j (some (.int (0 + i)))) H1 Q)
    (k : ∀ H', Same H H' → Q (.bl true) H') :
    tCB (rAll K) (tCons (tLc (iRng1 (tCons ta tNil)) (gName j) tYes te [j]) tNil) σ H Q :=
  range_all (D' := { nx := fun _ _ => True, rt := Q }) hta hn hw hte k
theorem firsts_self {es : List (Int × Str)} (nd : (keys es).Nodup) : firsts es = es := by
  have : ∀ (r acc : List (Int × Str)), (keys (acc ++ r)).Nodup → r.foldl (fun acc p => if has acc p.1 = true then acc else acc ++ [p]) acc = acc ++ r := by
    intro r
    induction r with
    | nil => intro acc _; rw [List.append_nil]; rfl
    | cons p r ih =>
      intro acc h
      rw [List.foldl_cons]
      have e : acc ++ p :: r = (acc ++ [p]) ++ r := by simp
      have hk : has acc p.1 = false := by
        cases q : has acc p.1 with
        | false => rfl
        | true =>
          rw [keys_app] at h
          exact absurd rfl ((List.nodup_append.mp h).2.2 p.1 (has_iff.mp q) p.1 List.mem_cons_self)
      rw [hk, if_neg (by simp), ih _ (by rw [← e]; exact h), e]
  exact this es [] nd
theorem elAll_of {K : PySem.W.Frag} {H : Hp} : ∀ {ts : List Addr} {es : List (Int × Str)}, Paired (fun (t : Addr) (q : Key × V) => H t = some (.tup [kV q.1, q.2])) ts (ents es) → Good (below 14) es → NE es → ElAll K H (ts.map V.ref) es
  | _, [], h, _, _ => by
    cases h
    exact .nil
  | _, (k, x) :: r, h, g, ne => by
    cases h with
    | cons h1 h2 =>
      have hk := g.2.1 k List.mem_cons_self
      unfold below at hk
      obtain ⟨i, hi, rfl⟩ := List.mem_map.mp hk
      have := List.mem_range.mp hi
      exact .cons (.inl (.inl h1)) ⟨by omega, by omega⟩ (ne _ List.mem_cons_self) (elAll_of h2 ⟨(List.nodup_cons.mp g.1).2, fun q hq => g.2.1 q (List.mem_cons_of_mem _ hq), g.2.2⟩ fun q hq => ne q (List.mem_cons_of_mem _ hq))
end My
set_option Elab.async false
set_option maxRecDepth 100000
set_option maxHeartbeats 4000000
set_option linter.unusedVariables false
namespace My
open PySem PySem.Spec PyProof.Rows L2 L2.DX

def entsV (es : List (Int × V)) : List (Key × V) := es.map fun p => (Sum.inl p.1, p.2)
theorem entsV_len (es : List (Int × V)) : (entsV es).length = es.length := List.length_map _
theorem entsV_app (xs ys : List (Int × V)) : entsV (xs ++ ys) = entsV xs ++ entsV ys := List.map_append
theorem entsV_at {es : List (Int × V)} {i : Nat} {k : Key} {v : V} (h : (entsV es)[i]? = some (k, v)) : ∃ n, es[i]? = some (n, v) ∧ k = .inl n := by
  unfold entsV at h
  rw [List.getElem?_map] at h
  cases e : es[i]? with
  | none => rw [e] at h; cases h
  | some p =>
    rw [e] at h
    cases h
    exact ⟨p.1, rfl, rfl⟩
theorem valV_entsV (k : Int) : ∀ es : List (Int × V), valV (entsV es) (.inl k) = lk es k
  | [] => rfl
  | p :: es => by
    rw [lk_cons]
    show valV ((Sum.inl p.1, p.2) :: entsV es) (.inl k) = _
    by_cases e : p.1 = k
    · rw [valV_pos (show (Sum.inl p.1 : Key) = .inl k by rw [e]), if_pos e]
    · rw [valV_neg (show ¬ (Sum.inl p.1 : Key) = .inl k from fun z => e (Sum.inl.inj z)), if_neg e, valV_entsV k es]
theorem put_entsV (es : List (Int × V)) (k : Int) (v : V) : putK (entsV es) (.inl k) v = entsV (putA es k v) := by
  unfold putK putA
  rw [valV_any, valV_entsV]
  by_cases h : hs es k = true
  · rw [if_pos (show (lk es k).isSome = true from h), if_pos h]
    unfold entsV
    rw [List.map_map, List.map_map]
    refine List.map_congr_left fun p _ => ?_
    show (if (Sum.inl p.1 : Key) = .inl k then ((Sum.inl p.1 : Key), v) else ((Sum.inl p.1 : Key), p.2)) = ((Sum.inl (if p.1 = k then (p.1, v) else p).1 : Key), (if p.1 = k then (p.1, v) else p).2)
    by_cases e : p.1 = k
    · rw [if_pos (by rw [e]), if_pos e]
    · rw [if_neg (fun z => e (Sum.inl.inj z)), if_neg e]
  · rw [if_neg (show ¬ (lk es k).isSome = true from h), if_neg h, entsV_app]
    rfl
theorem merge_fromV : ∀ (es acc : List (Int × V)), (ks (acc ++ es)).Nodup → mergeK (entsV acc) (entsV es) = entsV (acc ++ es)
  | [], acc, _ => by rw [List.append_nil]; rfl
  | (k, x) :: r, acc, nd => by
    have e : acc ++ (k, x) :: r = (acc ++ [(k, x)]) ++ r := by simp
    have hk : hs acc k = false := by
      rw [ks_app] at nd
      exact hs_not.mpr fun z => (List.nodup_append.mp nd).2.2 k z k List.mem_cons_self rfl
    have step : mergeK (entsV acc) (entsV ((k, x) :: r)) = mergeK (putK (entsV acc) (.inl k) x) (entsV r) := rfl
    have p1 : putA acc k x = acc ++ [(k, x)] := by unfold putA; rw [hk, if_neg (by simp)]
    rw [step, put_entsV, p1, e]
    exact merge_fromV r _ (by rw [← e]; exact nd)
theorem merge_entsV {es : List (Int × V)} (nd : (ks es).Nodup) : mergeK [] (entsV es) = entsV es := merge_fromV es [] nd

inductive Rws (K : PySem.W.Frag) (H : Hp) : List (Int × V) → List (Int × Rw) → Prop
  | nil : Rws K H [] []
  | cons {t : Addr} {k : Int} {x : Str} {v : Int} {es : List (Int × V)} {rs : List (Int × Rw)} (h : SqT K H t [.str x, .int v]) (r : Rws K H es rs) : Rws K H ((k, .ref t) :: es) ((k, (x, v)) :: rs)
section
variable {K : PySem.W.Frag} {H H' : Hp}
theorem Rws.same (s : Same H H') : ∀ {es : List (Int × V)} {rs : List (Int × Rw)}, Rws K H es rs → Rws K H' es rs
  | _, _, .nil => .nil
  | _, _, .cons h r => .cons (sqT_same s h) (Rws.same s r)
theorem sqT_chg2 {K : PySem.W.Frag} {H H' : Hp} {a t : Addr} {o : HO} {xs : List V} (e : H a = some o) (n1 : ∀ ys, o ≠ .tup ys) (n2 : ∀ q ys, o ≠ .frz q (.tup ys)) (x : Ext a H H') (h : SqT K H t xs) : SqT K H' t xs := by
  rcases h with (h | ⟨q, h⟩) | h
  · exact .inl (.inl (x _ _ (fun z => by rw [z, e] at h; exact n1 _ (Option.some.inj h)) h))
  · exact .inl (.inr ⟨q, x _ _ (fun z => by rw [z, e] at h; exact n2 _ _ (Option.some.inj h)) h⟩)
  · exact .inr h
theorem Rws.chg2 {a : Addr} {o : HO} (e : H a = some o) (n1 : ∀ ys, o ≠ .tup ys) (n2 : ∀ q ys, o ≠ .frz q (.tup ys)) (x : Ext a H H') : ∀ {es : List (Int × V)} {rs : List (Int × Rw)}, Rws K H es rs → Rws K H' es rs
  | _, _, .nil => .nil
  | _, _, .cons h r => .cons (sqT_chg2 e n1 n2 x h) (Rws.chg2 e n1 n2 x r)
theorem Rws.chg {a : Addr} {ls : List V} (e : H a = some (.lst ls)) (x : Ext a H H') {es : List (Int × V)} {rs : List (Int × Rw)} (r : Rws K H es rs) : Rws K H' es rs :=
  r.chg2 e (fun _ z => nomatch z) (fun _ _ z => nomatch z) x
theorem Rws.chgD {a : Addr} {kvs : List (Key × V)} (e : H a = some (.dK kvs)) (x : Ext a H H') {es : List (Int × V)} {rs : List (Int × Rw)} (r : Rws K H es rs) : Rws K H' es rs :=
  r.chg2 e (fun _ z => nomatch z) (fun _ _ z => nomatch z) x
theorem Rws.ks : ∀ {es : List (Int × V)} {rs : List (Int × Rw)}, Rws K H es rs → My.ks es = My.ks rs
  | _, _, .nil => rfl
  | _, _, .cons (k := k) h r => congrArg (k :: ·) r.ks
theorem Rws.len {es : List (Int × V)} {rs : List (Int × Rw)} (h : Rws K H es rs) : es.length = rs.length := by
  rw [← ks_len, h.ks, ks_len]
theorem Rws.at : ∀ {es : List (Int × V)} {rs : List (Int × Rw)} {i : Nat} {k : Int} {v : V}, Rws K H es rs → es[i]? = some (k, v) → ∃ t x n, v = .ref t ∧ rs[i]? = some (k, (x, n)) ∧ SqT K H t [.str x, .int n]
  | _, _, i, _, _, .nil, h => by simp at h
  | _, _, 0, _, _, .cons h1 r, h => by
    cases Option.some.inj h
    exact ⟨_, _, _, rfl, rfl, h1⟩
  | _, _, i + 1, _, _, .cons h1 r, h => r.at h
theorem Rws.lk (k : Int) : ∀ {es : List (Int × V)} {rs : List (Int × Rw)}, Rws K H es rs → (My.lk es k = none ∧ My.lk rs k = none) ∨ ∃ t x n, My.lk es k = some (.ref t) ∧ My.lk rs k = some (x, n) ∧ SqT K H t [.str x, .int n]
  | _, _, .nil => .inl ⟨rfl, rfl⟩
  | _, _, .cons (t := t) (k := j) (x := x) (v := v) (es := es) (rs := rs) h r => by
    rw [lk_cons, lk_cons]
    by_cases e : j = k
    · rw [if_pos e, if_pos e]
      exact .inr ⟨t, x, v, rfl, rfl, h⟩
    · rw [if_neg e, if_neg e]
      exact r.lk k
theorem Rws.lk' {es : List (Int × V)} {rs : List (Int × Rw)} (h : Rws K H es rs) {k : Int} {x : Str} {n : Int} (e : My.lk rs k = some (x, n)) : ∃ t, My.lk es k = some (.ref t) ∧ SqT K H t [.str x, .int n] := by
  rcases h.lk k with ⟨_, z⟩ | ⟨t, x', n', h1, h2, h3⟩
  · rw [z] at e; cases e
  · rw [h2] at e
    cases e
    exact ⟨t, h1, h3⟩
theorem Rws.hs {es : List (Int × V)} {rs : List (Int × Rw)} (h : Rws K H es rs) (k : Int) : My.hs es k = My.hs rs k := by
  unfold My.hs
  rcases h.lk k with ⟨h1, h2⟩ | ⟨t, x, n, h1, h2, _⟩
  · rw [h1, h2]; rfl
  · rw [h1, h2]; rfl
theorem Rws.app : ∀ {es fs : List (Int × V)} {rs qs : List (Int × Rw)}, Rws K H es rs → Rws K H fs qs → Rws K H (es ++ fs) (rs ++ qs)
  | _, _, _, _, .nil, g => g
  | _, _, _, _, .cons h r, g => .cons h (Rws.app r g)
theorem Rws.mapPut {k : Int} {t : Addr} {x : Str} {n : Int} (ht : SqT K H t [.str x, .int n]) : ∀ {es : List (Int × V)} {rs : List (Int × Rw)}, Rws K H es rs → Rws K H (es.map fun p => if p.1 = k then (p.1, .ref t) else p) (rs.map fun p => if p.1 = k then (p.1, (x, n)) else p)
  | _, _, .nil => .nil
  | _, _, .cons (t := u) (k := j) (x := y) (v := v) (es := es) (rs := rs) h r => by
    rw [List.map_cons, List.map_cons]
    show Rws K H ((if j = k then (j, V.ref t) else (j, V.ref u)) :: _) ((if j = k then (j, (x, n)) else (j, (y, v))) :: _)
    by_cases e : j = k
    · rw [if_pos e, if_pos e]
      exact .cons ht (Rws.mapPut ht r)
    · rw [if_neg e, if_neg e]
      exact .cons h (Rws.mapPut ht r)
theorem Rws.put {es : List (Int × V)} {rs : List (Int × Rw)} (h : Rws K H es rs) (k : Int) {t : Addr} {x : Str} {n : Int} (ht : SqT K H t [.str x, .int n]) : Rws K H (putA es k (.ref t)) (putA rs k (x, n)) := by
  unfold putA
  rw [h.hs k]
  split
  · exact h.mapPut ht
  · exact h.app (.cons ht .nil)
theorem Rws.filter (c : Int → Bool) : ∀ {es : List (Int × V)} {rs : List (Int × Rw)}, Rws K H es rs → Rws K H (es.filter fun p => c p.1) (rs.filter fun p => c p.1)
  | _, _, .nil => .nil
  | _, _, .cons (k := j) h r => by
    rw [List.filter_cons, List.filter_cons]
    dsimp only
    split
    · exact .cons h (r.filter c)
    · exact r.filter c
theorem Rws.take : ∀ {es : List (Int × V)} {rs : List (Int × Rw)} (i : Nat), Rws K H es rs → Rws K H (es.take i) (rs.take i)
  | _, _, 0, _ => by rw [List.take_zero, List.take_zero]; exact .nil
  | _, _, i + 1, .nil => .nil
  | _, _, i + 1, .cons h r => .cons h (r.take i)
end

def big : Int := 10 ^ 40 - 1
def rowOk (r : Int × Rw) : Prop := (0 ≤ r.1 ∧ r.1 ≤ 999999) ∧ nameOk r.2.1 = true ∧ (1 - 10 ^ 40 ≤ r.2.2 ∧ r.2.2 ≤ 10 ^ 40 - 1)
def VR (rs : List (Int × Rw)) : Prop := ∀ r ∈ rs, rowOk r
def RD (K : PySem.W.Frag) (U : List Int) (H : Hp) (d : Addr) (rs : List (Int × Rw)) : Prop := ∃ es, H d = some (.dK (entsV es)) ∧ Rws K H es rs ∧ Gd U rs
def DD (K : PySem.W.Frag) (C : Addr) (U : List Int) (H : Hp) (x : Addr) (rs : List (Int × Rw)) : Prop := ∃ dx d, H x = some (.ins C dx [("_rows", .ref d)]) ∧ RD K U H d rs ∧ VR rs
section
variable {K : PySem.W.Frag} {C : Addr} {U : List Int} {H H' : Hp} {d x : Addr} {rs qs : List (Int × Rw)}
theorem RD.same (h : RD K U H d rs) (s : Same H H') : RD K U H' d rs := by
  obtain ⟨es, h1, h2, h3⟩ := h
  exact ⟨es, s _ _ h1, h2.same s, h3⟩
theorem DD.same (h : DD K C U H x rs) (s : Same H H') : DD K C U H' x rs := by
  obtain ⟨dx, d, h1, h2, h3⟩ := h
  exact ⟨dx, d, s _ _ h1, h2.same s, h3⟩
theorem RD.chg {g : Addr} {ls : List V} (e : H g = some (.lst ls)) (s : Ext g H H') (h : RD K U H d rs) : RD K U H' d rs := by
  obtain ⟨es, h1, h2, h3⟩ := h
  exact ⟨es, s _ _ (fun z => by rw [z, e] at h1; cases h1) h1, h2.chg e s, h3⟩
theorem DD.chg {g : Addr} {ls : List V} (e : H g = some (.lst ls)) (s : Ext g H H') (h : DD K C U H x rs) : DD K C U H' x rs := by
  obtain ⟨dx, d, h1, h2, h3⟩ := h
  exact ⟨dx, d, s _ _ (fun z => by rw [z, e] at h1; cases h1) h1, h2.chg e s, h3⟩
theorem VR.put {k : Int} {r : Rw} (h : VR rs) (hr : rowOk (k, r)) : VR (putA rs k r) := put_all h k r hr
theorem VR.lay {base : List (Int × Rw)} {r : Int × Rw} (h : VR rs) (hb : VR base) (hr : rowOk r) : VR (lay1 base rs r) := by
  refine h.put ?_
  unfold over1
  cases e : lk base r.1 with
  | none => exact hr
  | some p => exact ⟨hr.1, (hb _ (lk_mem e)).2.1, hr.2.2⟩
theorem VR.merged (h : VR rs) (g : VR qs) : VR (mergedA rs qs) := by
  unfold mergedA
  have main : ∀ (l acc : List (Int × Rw)), VR acc → (∀ p ∈ l, rowOk p) → VR (l.foldl (lay1 rs) acc) := by
    intro l
    induction l with
    | nil => exact fun acc g _ => g
    | cons p r ih => exact fun acc g h2 => ih _ (g.lay h (h2 p List.mem_cons_self)) fun q hq => h2 q (List.mem_cons_of_mem _ hq)
  exact main qs rs h g
theorem VR.laid (h : VR rs) (g : VR qs) : VR (laidA rs qs) := by
  unfold laidA
  induction qs generalizing rs with
  | nil => exact h
  | cons p r ih => exact ih (VR.lay (base := rs) h h (g p List.mem_cons_self)) fun q hq => g q (List.mem_cons_of_mem _ hq)
theorem VR.filter (h : VR rs) (c : Int × Rw → Bool) : VR (rs.filter c) := fun r hr => h r (List.mem_filter.mp hr).1
theorem VR.of_lk {ds : List (Int × Rw)} (h : VR ds) (nd : (ks rs).Nodup) (e : ∀ k, lk rs k = lk ds k) : VR rs := fun r hr => by
  have l := lk_ents nd hr
  rw [e] at l
  exact h _ (lk_mem l)
end

def formsOf (rs : List (Int × Rw)) : List (Int × Str) := rs.map fun p => (p.1, p.2.1)
theorem look_lk (es : List (Int × Str)) (k : Int) : look es k = lk es k := rfl
theorem keys_ks (es : List (Int × Str)) : keys es = ks es := rfl
theorem look_forms (rs : List (Int × Rw)) (k : Int) : look (formsOf rs) k = (lk rs k).map (·.1) := lk_map (β := Str) (fun (_ : Int) (r : Rw) => r.1) rs k
theorem keys_forms (rs : List (Int × Rw)) : keys (formsOf rs) = ks rs := ks_map (β := Str) (fun (_ : Int) (r : Rw) => r.1) rs

section
variable {X : Cx}
def rEqRw (K : PySem.W.Frag) : R2 := fun x y H Q => ∃ a b es fs rs qs, x = .ref a ∧ y = .ref b ∧ H a = some (.dK (entsV es)) ∧ H b = some (.dK (entsV fs)) ∧ Rws K H es rs ∧ Rws K H fs qs ∧ (ks rs).Nodup ∧ VR rs ∧
  rs.length = qs.length ∧ (∀ p ∈ rs, lk qs p.1 = some p.2) ∧ Q (.bl true) H
theorem row_lay {x : Str} {v : Int} (h : nameOk x = true) : SeqAt.shaped (.tuple [.str x, .int v]) = true := by
  show (PyData.canLayAll0 [.str x, .int v] && decide (PyData.depthAll [.str x, .int v] + 1 ≤ 64)) = true
  rw [PyData.canLayAll0, name_lay h]
  rfl
theorem row_eqv {x : Str} {v : Int} (h : nameOk x = true) : PyData.eqv (.tuple [.str x, .int v]) (.tuple [.str x, .int v]) = true := by
  refine PySem.SeqAt.eqv_refl _ ?_
  show PyData.canLayAll0 [.str x, .int v] = true
  rw [PyData.canLayAll0, name_lay h]
  rfl
theorem op_eqRw (hu : X.A.units + 80 < cLine) : OpR X (compareOp .Eq) (rEqRw X.K) := by
  intro pins s σ H x y v u Q I rx ry h
  obtain ⟨a, b, es, fs, rs, qs, rfl, rfl, ha, hb, r1, r2, nd, hv, hl, hp, q⟩ := h
  refine eqR_run I (A := X.A) (F := fun x y => ∃ t u z n, x = V.ref t ∧ y = V.ref u ∧ SqT X.K H t [.str z, .int n] ∧ SqT X.K H u [.str z, .int n] ∧ nameOk z = true) (by omega) ?_
    (.inr ⟨a, b, entsV es, entsV fs, rfl, rfl, ha, hb, by rw [entsV_len, entsV_len, r1.len, r2.len, hl], ?_⟩) rx ry _ _ ⟨.bl true, H, I, rfl, q⟩
  · rintro x y v u ⟨t, w, z, n, rfl, rfl, h1, h2, hz⟩ rx ry
    cases rx; cases ry
    by_cases e : t = w
    · subst e
      exact (SeqAt.EqAt.same _).eqP
    · refine SeqAt.eqP_refs e fun E Q q => ?_
      obtain ⟨as, d1⟩ := Dp.reads I (.tuple [.str z, .int n]) (.ref t) (.ref t) (.tup h1 (.cons (.str _) (.cons (.int _) .nil))) rfl
      obtain ⟨bs, d2⟩ := Dp.reads I (.tuple [.str z, .int n]) (.ref w) (.ref w) (.tup h2 (.cons (.str _) (.cons (.int _) .nil))) rfl
      refine SeqAt.compareEq_shaped d1 d2 (row_lay hz) (row_lay hz) ?_ ?_
      · show X.A.units + 1 + 64 < cLine
        omega
      · rw [row_eqv hz]
        exact q
  · intro p hp2
    obtain ⟨i, hi⟩ := List.mem_iff_getElem?.mp hp2
    obtain ⟨k, w⟩ := p
    obtain ⟨n, e1, rfl⟩ := entsV_at hi
    obtain ⟨t, z, m, rfl, e2, ht⟩ := r1.at e1
    have hm := List.mem_of_getElem? e2
    obtain ⟨t2, e3, ht2⟩ := r2.lk' (hp _ hm)
    exact ⟨.ref t2, by rw [valV_entsV, e3], t, t2, z, m, rfl, rfl, ht, ht2, (hv _ hm).2.1⟩
end
end My
set_option Elab.async false
set_option maxRecDepth 100000
set_option maxHeartbeats 4000000
set_option linter.unusedVariables false
namespace My
open PySem PySem.Spec PyProof.Rows L2 L2.DX

inductive TupV (H : Hp) : List V → List (Int × V) → Prop
  | nil : TupV H [] []
  | cons {a : Addr} {k : Int} {x : V} {vs : List V} {es : List (Int × V)} (h : H a = some (.tup [.int k, x])) (r : TupV H vs es) : TupV H (.ref a :: vs) ((k, x) :: es)
def rSortV : List V → Hp → VK → Prop := fun vs H Q => ∃ (p d : Addr) (es : List (Int × V)), vs = [.ref p] ∧ H p = some (itemsO p d) ∧ H d = some (.dK (entsV es)) ∧ (ks es).Nodup ∧ es.length ≤ 1000 ∧
  ∀ (H' : Hp) (l : Addr) (ts : List V) (es' : List (Int × V)), Same H H' → H' l = some (.lst ts) → TupV H' ts es' → es'.Perm es → es'.Pairwise (fun p q => p.1 < q.1) → Q (.ref l) H'
def valIn (h : Heap) (v : Value) : Value := match v with
  | .ref a => (match h.get? a with
    | some o => (match o.data with
      | .seq its _ => (match (its[1]? : Option Value) with
        | some x => x
        | none => .none)
      | _ => .none)
    | none => .none)
  | _ => .none
theorem TupV.at {H : Hp} : ∀ {ts : List V} {es : List (Int × V)} {i : Nat} {v : V}, TupV H ts es → ts[i]? = some v → ∃ a k x, v = .ref a ∧ es[i]? = some (k, x) ∧ H a = some (.tup [.int k, x])
  | _, _, i, v, .nil, h => by simp at h
  | _, _, 0, v, .cons h1 r, h => by
    cases Option.some.inj h
    exact ⟨_, _, _, rfl, rfl, h1⟩
  | _, _, i + 1, v, .cons h1 r, h => r.at h
theorem TupV.len {H : Hp} : ∀ {ts : List V} {es : List (Int × V)}, TupV H ts es → ts.length = es.length
  | _, _, .nil => rfl
  | _, _, .cons _ r => by rw [List.length_cons, List.length_cons, r.len]
theorem TupV.same {H H' : Hp} (s : Same H H') : ∀ {ts : List V} {es : List (Int × V)}, TupV H ts es → TupV H' ts es
  | _, _, .nil => .nil
  | _, _, .cons h r => .cons (s _ _ h) (TupV.same s r)
theorem tupV_of {H : Hp} : ∀ zs : List (Addr × Int × V), (∀ z ∈ zs, H z.1 = some (.tup [.int z.2.1, z.2.2])) → TupV H (zs.map fun z => V.ref z.1) (zs.map (·.2))
  | [], _ => .nil
  | z :: zs, h => .cons (h z List.mem_cons_self) (tupV_of zs fun y hy => h y (List.mem_cons_of_mem _ hy))
theorem entV_of {P : Program} {w : World} {es : List (Int × V)} {vs : List (Key × Value)} {ed : Array DictEntry} (kv : KV (entsV es) vs) (pr : PySem.Pairs (mixKind P w) ed.toList vs) {i : Nat} {n : Int} {x : V} (h : es[i]? = some (n, x)) :
    ∃ (e : DictEntry) (t : Tok) (u : Value), ed[i]? = some e ∧ e.key = Value.int n t ∧ e.val = u ∧ RelV x u := by
  have e1 : (entsV es)[i]? = some (.inl n, x) := by unfold entsV; rw [List.getElem?_map, h]; rfl
  have kv2 : ∀ {kvs : List (Key × V)} {vs : List (Key × Value)}, KV kvs vs → ∀ {i : Nat} {k : Key} {x : V}, kvs[i]? = some (k, x) → ∃ u, vs[i]? = some (k, u) ∧ RelV x u := by
    intro kvs vs r
    unfold KV at r
    induction r with
    | nil => intro i k x h; simp at h
    | cons h r ih =>
      intro i k x e
      cases i with
      | zero =>
        cases Option.some.inj e
        rename_i b _ _
        obtain ⟨b1, b2⟩ := b
        obtain ⟨h1, h2⟩ := h
        dsimp only at h1 h2
        subst h1
        exact ⟨b2, rfl, h2⟩
      | succ i => exact ih e
  have pr2 : ∀ {l : List DictEntry} {vs : List (Key × Value)}, PySem.Pairs (mixKind P w) l vs → ∀ {i : Nat} {k : Key} {u : Value}, vs[i]? = some (k, u) → ∃ e, l[i]? = some e ∧ (mixKind P w).is k e.key = true ∧ e.val = u := by
    intro l vs r
    induction r with
    | nil => intro i k v h; simp at h
    | cons h1 h2 r ih =>
      intro i k v e
      cases i with
      | zero =>
        cases Option.some.inj e
        exact ⟨_, rfl, h1, h2⟩
      | succ i => exact ih e
  obtain ⟨u, e2, ru⟩ := kv2 kv e1
  obtain ⟨e, e3, e4, e5⟩ := pr2 pr e2
  rw [Array.getElem?_toList] at e3
  rcases keyIs_shape (k := .inl n) (v := e.key) e4 with ⟨j, t, z, e6⟩ | ⟨_, _, z, _⟩
  · cases z
    exact ⟨e, t, u, e3, e6, e5, ru⟩
  · cases z
section
variable {X : Cx}
theorem cr_sortedV (hc : X.calm = true) : CallR X (.builtin "sorted") rSortV := by
  intro pins s σ H xs us Q I r h
  obtain ⟨p, d, es, rfl, hp, hd, nd, hlen, q⟩ := h
  obtain rfl := Vals.ref1 r
  have view : s.heap.IsItemsView p d := (show ObjOk X.prog X.w H s.heap p (itemsO p d) from I.hok p _ hp).1
  obtain ⟨_, hs, vs, kv, o, ed, ep, ho, hx, hdt, _, pr, _⟩ := dk_of I.hok hd
  have size : ed.size = es.length := by rw [← Array.length_toList, pairs_len pr, ← kv_len kv, entsV_len]
  refine DT.sortedI (es := ed) (ep := ep) (I.ok.hd hc) view ⟨o, ho, hx, hdt⟩ (by rw [size]; exact size_ok (by omega)) fun h' tk as hk hlt hl hG => ?_
  have la : as.length = es.length := hl.trans size
  have nda : as.Nodup := List.Pairwise.imp (fun h => Nat.ne_of_lt h) hG.rise
  have made : ∀ (j : Nat) (b : Addr), as[j]? = some b → ∃ n x t u, es[j]? = some (n, x) ∧ RelV x u ∧ h'.get? b = some { cls := .type "tuple", data := .seq #[Value.int n t, u] } := by
    intro j b hj
    obtain ⟨e, he, hb⟩ := hG.pairs j b hj
    have hj2 : j < es.length := by rw [← la]; exact (List.getElem?_eq_some_iff.mp hj).1
    have hj3 : es[j]? = some (es[j].1, es[j].2) := List.getElem?_eq_getElem hj2
    obtain ⟨e2, t, u, h1, h2, h3, h4⟩ := entV_of kv pr hj3
    obtain rfl := Option.some.inj (he.symm.trans h1)
    exact ⟨_, _, t, u, hj3, h4, by rw [hb, h2, h3]⟩
  have hget : ∀ (b : Addr), b ∈ as → ∃ (j : Nat) (n : Int) (x : V) (t : Tok) (u : Value), as[j]? = some b ∧ es[j]? = some (n, x) ∧ RelV x u ∧ h'.get? b = some { cls := .type "tuple", data := .seq #[Value.int n t, u] } := by
    intro b hb
    obtain ⟨j, hj⟩ := List.mem_iff_getElem?.mp hb
    obtain ⟨n, x, t, u, h1, h2, h3⟩ := made j b hj
    exact ⟨j, n, x, t, u, hj, h1, h2, h3⟩
  have kk : ∀ {b : Addr} {n : Int} {t : Tok} {u : Value}, h'.get? b = some { cls := .type "tuple", data := .seq #[Value.int n t, u] } → keyIn h' (.ref b) = n ∧ valIn h' (.ref b) = u := by
    intro b n t u e
    unfold keyIn valIn
    dsimp only
    rw [e]
    exact ⟨rfl, rfl⟩
  have old : ∀ b o, h'.get? b = some o → b ≠ h'.objs.size := fun b o e => Nat.ne_of_lt (Heap.lt_size e)
  have hob : (h'.push { cls := .type "list", data := .seq (as.map Value.ref).toArray }).get? h'.objs.size = some (seqObj "list" (as.map Value.ref).toArray 0) := Heap.get?_push_size _ rfl
  have ka : ∀ b o, h'.get? b = some o → (h'.push { cls := .type "list", data := .seq (as.map Value.ref).toArray }).get? b = some o := fun b o e => Heap.get?_push_of_some _ e
  generalize h'.push { cls := .type "list", data := .seq (as.map Value.ref).toArray } = h2 at hob ka ⊢
  have hz : (as.map Value.ref).length ≤ sizeLine := by rw [List.length_map, la]; exact size_ok (by omega)
  have ents2 : ∀ v ∈ as.map Value.ref, EntV h2 v (keyIn h' v) (valIn h' v) := by
    intro v hv
    obtain ⟨b, hb, rfl⟩ := List.mem_map.mp hv
    obtain ⟨j, n, x, t, u, _, _, _, e⟩ := hget b hb
    rw [(kk e).1, (kk e).2]
    exact ⟨b, _, t, _, rfl, ka _ _ e, rfl, rfl⟩
  have one : ∀ v ∈ as.map Value.ref, ∀ u ∈ as.map Value.ref, keyIn h' v = keyIn h' u → valIn h' v = valIn h' u := by
    intro v hv u hu e
    obtain ⟨b, hb, rfl⟩ := List.mem_map.mp hv
    obtain ⟨c, hc2, rfl⟩ := List.mem_map.mp hu
    obtain ⟨j, n, x, t1, u1, j1, e1, _, g1⟩ := hget b hb
    obtain ⟨i, m, y, t2, u2, j2, e2, _, g2⟩ := hget c hc2
    rw [(kk g1).1, (kk g2).1] at e
    subst e
    have k1 : (ks es)[j]? = some n := by unfold ks; rw [List.getElem?_map, e1]; rfl
    have k2 : (ks es)[i]? = some n := by unfold ks; rw [List.getElem?_map, e2]; rfl
    have eij : j = i := (List.getElem?_inj (List.getElem?_eq_some_iff.mp k1).1 nd).mp (k1.trans k2.symm)
    subst eij
    rw [j1] at j2
    rw [Option.some.inj j2]
  refine wpAny_call_entry PyProof.Rows.slot_list_sort ⟨_, hob, rfl⟩ PyProof.Rows.entry_list_sort
    (SrtO.list_sort_ord (s := { s with heap := h2, toks := tk }) (swoV (keyIn h')) hob hz (fun n2 => entV_sortable (by omega) ents2 one fun o e => ?_) fun out o1 o2 => ⟨.none, rfl, ?_⟩) (PyProof.Rows.args_list_sort _)
  · cases hob.symm.trans e
    intro z
    injection z with z
    revert z
    decide
  · show EP X pins σ Q (.ref h'.objs.size) { s with heap := sortedHeap h2 h'.objs.size (as.map Value.ref) out.toArray, toks := tk }
    have ez : (as.zip es).map (fun z => Value.ref z.1) = as.map Value.ref := by
      have q : (as.zip es).map (·.1) = as := List.map_fst_zip (by omega)
      rw [show (fun z : Addr × Int × V => Value.ref z.1) = Value.ref ∘ (·.1) from rfl, ← List.map_map, q]
    obtain ⟨zs, pz, eo⟩ := perm_map (fun z : Addr × Int × V => Value.ref z.1) (l := as.zip es) (out := out) (by rw [ez]; exact o2.perm)
    have at_ : ∀ z ∈ zs, ∃ j : Nat, as[j]? = some z.1 ∧ es[j]? = some z.2 := by
      intro z hz
      obtain ⟨j, hj⟩ := List.mem_iff_getElem?.mp (pz.mem_iff.mp hz)
      exact ⟨j, List.getElem?_zip_eq_some.mp hj⟩
    have pes : (zs.map (·.2)).Perm es := by
      have e := pz.map (·.2)
      rw [List.map_snd_zip (by omega)] at e
      exact e
    have key : ∀ z ∈ zs, keyIn h' (.ref z.1) = z.2.1 := by
      intro z hz
      obtain ⟨j, j1, j2⟩ := at_ z hz
      obtain ⟨n, x, t, u, e1, _, e2⟩ := made j z.1 j1
      rw [(kk e2).1]
      rw [j2] at e1
      rw [Option.some.inj e1]
    have srt : (zs.map (·.2)).Pairwise (fun p q => p.1 < q.1) := by
      have le : (zs.map (·.2)).Pairwise (fun p q => p.1 ≤ q.1) := by
        rw [← eo] at o1
        rw [List.pairwise_map]
        refine List.Pairwise.imp_of_mem (fun {a b} ha hb h => ?_) (List.pairwise_map.mp o1)
        have := of_decide_eq_false h
        rw [key a ha, key b hb] at this
        omega
      have nd2 : ((zs.map (·.2)).map (fun p : Int × V => p.1)).Nodup := ((pes.map (fun p : Int × V => p.1)).nodup_iff).mpr nd
      have ne : (zs.map (·.2)).Pairwise (fun p q => p.1 ≠ q.1) := List.pairwise_map.mp nd2
      exact (List.Pairwise.and le ne).imp fun h => by have := h.1; have := h.2; omega
    have kF : ∀ b o, b ≠ h'.objs.size → h2.get? b = some o → (sortedHeap h2 h'.objs.size (as.map Value.ref) out.toArray).get? b = some o :=
      fun b o nb e => (PyProof.Rows.sortedHeap_old nb (Heap.lt_size e)).trans e
    obtain ⟨eF, heF⟩ := PyProof.Rows.sortedHeap_at (vs := as.map Value.ref) (out := out.toArray) hob
    have I1 : Inv X pins σ H { s with heap := sortedHeap h2 h'.objs.size (as.map Value.ref) out.toArray, toks := tk } :=
      I.kept (t' := tk) fun b o e => kF b o (old _ _ (hk b o e)) (ka b o (hk b o e))
    have hn : H h'.objs.size = none := I.hok.fresh (Nat.le_of_lt hlt)
    have lz : zs.length = es.length := by
      have := pes.length_eq
      rw [List.length_map] at this
      exact this
    have rv : Vals (zs.map fun z => V.ref z.1) out := by
      rw [← eo]
      exact vals_maps (fun z : Addr × Int × V => V.ref z.1) (fun z => Value.ref z.1) zs fun _ _ => rfl
    have I2 : Inv X pins σ (upd H h'.objs.size (.lst (zs.map fun z => V.ref z.1))) { s with heap := sortedHeap h2 h'.objs.size (as.map Value.ref) out.toArray, toks := tk } :=
      I1.take (h' := sortedHeap h2 h'.objs.size (as.map Value.ref) out.toArray) (t' := tk) (fun b ob _ e => e) (I.fpOk (Nat.le_of_lt hlt) hn)
        ⟨by rw [List.length_map, lz]; exact size_ok (by omega), out, eF, rv, by simpa using heF⟩
    obtain ⟨H2, I3, g, qt⟩ := takeT (P := fun b vs => ∃ (j : Nat) (n : Int) (x : V), as[j]? = some b ∧ es[j]? = some (n, x) ∧ vs = [.int n, x]) I as _ I2 nda fun b hb => by
      obtain ⟨j, n, x, t, u, j1, j2, ru, e⟩ := hget b hb
      have lb : s.heap.objs.size ≤ b := Nat.le_of_lt (hG.above b hb)
      refine ⟨lb, ?_, [.int n, x], ⟨j, n, x, j1, j2, rfl⟩, fun H3 => ⟨size_ok (by simp), [Value.int n t, u], .cons ⟨_, rfl⟩ (.cons ru .nil), ⟨_, kF _ _ (old _ _ e) (ka _ _ e), rfl, 0, rfl⟩⟩⟩
      rw [upd_ne (old _ _ e)]
      exact I.hok.fresh lb
    have gr : Same H H2 := fun b o e => g b o ((upd_ne (ne_of_none e hn)).trans e)
    refine ⟨.ref h'.objs.size, H2, I3, rfl, q H2 h'.objs.size _ _ gr (g _ _ upd_same) (tupV_of zs fun z hz => ?_) pes srt⟩
    obtain ⟨i, i1, i2⟩ := at_ z hz
    obtain ⟨vs, ⟨j, n, x, j1, j2, rfl⟩, hH⟩ := qt z.1 (List.mem_of_getElem? i1)
    have eij : i = j := (List.getElem?_inj (List.getElem?_eq_some_iff.mp i1).1 nda).mp (i1.trans j1.symm)
    subst eij
    rw [i2] at j2
    rw [Option.some.inj j2]
    exact hH
end

section
variable {X : Cx} {k : Nat} {C : Addr} {ps : List Str} {sp : Sp} {o i : Expr} {ta tb : TE} {pos : Pos}
def tGetO (C : Addr) (sp : Sp) (ta tb : TE) : TE := fun σ H Q => ta σ H fun x H1 => tb σ H1 fun y H2 => ∃ a dx fs, x = .ref a ∧ H2 a = some (.ins C dx fs) ∧ sp [x, y] H2 Q E0
theorem pe_getO (D : Mt X.prog X.w X.K X.mg X.base C "__getitem__" k ps sp) (fi : ∃ f, PySem.W.findIn X.K (.ref C) "__getitem__" = some (some (.ref f)) ∧ PySem.W.fnIn X.K f = true) (hr : Room (k + 1) X.A) (ha : PE X o ta) (hb : PE X i tb)
    (hsl : ∀ v u, subscripted i true v u = runValue (.builtin "lifetime.subscript" ⟨[v, u], []⟩)) : PE X (.Subscript o i pos) (tGetO C sp ta tb) := by
  obtain ⟨f, fd, h1, h2, h3, F, b⟩ := D
  obtain ⟨f', e1, e2⟩ := fi
  obtain rfl : f = f' := by
    have := h1.symm.trans e1
    injection this with this
    injection this with this
    injection this
  refine ⟨fun pins s σ H Q I h => ?_⟩
  refine Subscript_ (thn (ha.run pins s σ H _ I h) fun v s1 ⟨x, H1, I1, rx, q1⟩ => thn (hb.run pins s1 σ H1 _ I1 q1) fun u s2 ⟨y, H2, I2, ry, a, dx, fs, ex, ea, q⟩ => ?_)
  subst ex
  obtain rfl : v = Value.ref a := rx
  obtain ⟨m, Fr⟩ := fr_of I2
  obtain ⟨ox, od, J⟩ := inst_of I2 ea
  exact PySem.W.sub_K Fr I2.ok.mod.kin J h1 e2 h2 (run_in1 (us := [.ref a, u]) (vs := [.ref a, y]) F hr b I2 (.cons rfl (.cons ry .nil)) q) (hsl _ _)
end

structure CStat (K : PySem.W.Frag) (C : Addr) (m : Str) (g : Addr) : Prop where
  rd : PySem.W.readsIn K C (.type "type") = true
  ga : PySem.W.specialIn K (.ref C) "__getattribute__" = some (some (.builtin "type.__getattribute__"))
  at_ : ∃ p rest, PySem.W.findCls K (.ref C) (.type "type") m = some (.get (.builtin "staticmethod.__get__") (.ref p) .none (.ref C)) ∧ PySem.W.recIn K p "staticmethod" = some (.ref g :: rest)

def Sm (P : Program) (w : World) (K : PySem.W.Frag) (mg : Str → Option Value) (base : Heap) (C : Addr) (m : Str) (k : Nat) (ps : List Str) (sp : Sp) (n : Nat) (ks : List Str) : Prop :=
  ∃ f fd, CStat K C m f ∧ PySem.W.keepIn K (.ref f) = true ∧ FnOk P w K mg base CX0 k f fd ps sp ∧ Binds K fd ps [] ∧ KBn K fd ps n ks (fun us ws => us ++ ws) (fun vs zs => vs ++ zs)
section
variable {X : Cx} {k n : Nat} {C : Addr} {ps ks : List Str} {sp : Sp} {m : Str} {p pos apos : Pos} {o e : Expr} {es : List Expr} {kws : List Keyword} {ta : TE} {t tk : TA}
theorem getst_ok {pins : List (Addr × Obj)} {σ : L2.St} {H : Hp} {s : Shared} {A : Around} {E : Value → Shared → Prop} {g : Addr} {pl : Sem Bool} {Q : Value × List Value → Shared → Prop} (I : Inv X pins σ H s) (c : CStat X.K C m g)
    (h : ∀ s', Inv X pins σ H s' → Q (.ref g, []) s') : wpAny (model X.prog X.w) A (getMethod (.ref C) m pl) Q E s := by
  obtain ⟨p, rest, h1, h2⟩ := c.at_
  refine PySem.W.method_cls I.kIn c.ga (PySem.W.cls_bind I.kIn c.rd h1 (wpAny_call (PySem.W.sm_get (s := { s with toks := s.toks + 1 }) I.kIn h2 (PySem.W.handed_on rfl ?_))))
  exact h _ (I.tok _)
def tStat (C : Addr) (sp : Sp) (ta : TE) (t : TA) : TE := fun σ H Q => ta σ H fun x H1 => x = .ref C ∧ t σ H1 fun vs H2 => sp vs H2 Q E0
theorem pe_stat {pl : Sem Bool} (D : Sm X.prog X.w X.K X.mg X.base C m k ps sp n ks) (hr : Room k X.A) (he : PE X o ta) (ha : PA X (e :: es) t)
    (hst : starEach (e :: es) X.env = (false, eval e X.env) :: starEach es X.env := by rfl) (hpl : (backTo pos (starEach es X.env)).any (·.1) = false := by rfl)
    (ht : eval (.Call (.Attribute o m apos) (e :: es) [] pos) X.env = (do
      let ov ← eval o X.env
      standAt apos.atName
      let (f, first) ← holding [ov] (getMethod ov m pl)
      callWith pos f first (backTo pos (starEach (e :: es) X.env)) (backToKw pos (keywordEach [] X.env))) := by rfl) :
    PE X (.Call (.Attribute o m apos) (e :: es) [] pos) (tStat C sp ta t) := by
  obtain ⟨f, fd, c, kp, F, b, _⟩ := D
  refine ⟨fun pins s σ H Q I h => ?_⟩
  refine PySem.W.methodCall_KW (pl := pl) (thn (he.run pins s σ H _ I h) fun u s1 ⟨x, H1, I1, rx, ex, q⟩ => ?_) ht
  subst ex
  obtain rfl : u = Value.ref C := rx
  refine getst_ok I1 c fun s2 I2 => ?_
  refine PySem.W.callWith_K (h₀ := X.base) (first := []) I2.ok.mod.kin kp (thn (ha.run pos pins s2 σ H1 _ I2 q) fun us s3 ⟨vs, H2, I3, rv, q2⟩ => ⟨I3.kIn, ?_⟩) hst hpl
  refine run_fn (ds := []) (dvs := []) F hr b .nil pass0 I3 rv ?_
  rw [List.append_nil]
  exact q2
def tStatK (C : Addr) (n m : Nat) (sp : Sp) (ta : TE) (t tk : TA) : TE := fun σ H Q => ta σ H fun x H1 => x = .ref C ∧ t σ H1 fun vs H2 => tk σ H2 fun zs H3 => vs.length = n ∧ zs.length = m ∧ sp (vs ++ zs) H3 Q E0
theorem pe_statK {pl : Sem Bool} (D : Sm X.prog X.w X.K X.mg X.base C m k ps sp n ks) (hr : Room k X.A) (he : PE X o ta) (ha : PA X (e :: es) t) (hkw : PK X kws tk)
    (hall : (backToKw pos (keywordEach kws X.env)).all (·.1.isSome) = true := by rfl) (hks : (backToKw pos (keywordEach kws X.env)).filterMap (·.1) = ks := by rfl)
    (hst : starEach (e :: es) X.env = (false, eval e X.env) :: starEach es X.env := by rfl)
    (hpl : ((backTo pos (starEach (e :: es) X.env)).any (·.1) || (backToKw pos (keywordEach kws X.env)).any (·.1.isNone)) = false := by rfl)
    (ht : eval (.Call (.Attribute o m apos) (e :: es) kws pos) X.env = (do
      let ov ← eval o X.env
      standAt apos.atName
      let (f, first) ← holding [ov] (getMethod ov m pl)
      callWith pos f first (backTo pos (starEach (e :: es) X.env)) (backToKw pos (keywordEach kws X.env))) := by rfl) :
    PE X (.Call (.Attribute o m apos) (e :: es) kws pos) (tStatK C n ks.length sp ta t tk) := by
  obtain ⟨f, fd, c, kp, F, _, hb⟩ := D
  refine ⟨fun pins s σ H Q I h => ?_⟩
  refine PySem.W.methodCall_KW (pl := pl) (thn (he.run pins s σ H _ I h) fun u s1 ⟨x, H1, I1, rx, ex, q⟩ => ?_) ht
  subst ex
  obtain rfl : u = Value.ref C := rx
  refine getst_ok I1 c fun s2 I2 => ?_
  refine PySem.W.callWith_KW (h₀ := X.base) (first := []) I2.ok.mod.kin kp hall (thn (ha.run pos pins s2 σ H1 _ I2 q) fun us s3 ⟨vs, H2, I3, rv, q2⟩ => ?_) hpl hst
  refine thn (hkw.run pos pins s3 σ H2 _ I3 q2) fun ws s4 ⟨zs, H3, I4, rz, l1, l2, q3⟩ => ⟨I4.kIn, ?_⟩
  rw [hks]
  have e1 : us.length = n := rv.length.symm.trans l1
  have e2 : ws.length = ks.length := rz.length.symm.trans l2
  have z := F.run X.A X.stack s4 H3 ⟨us, ks.zip ws⟩ (us ++ ws) (vs ++ zs) Q E0 hr I4.env0 (hb.to s4 us ws I4.kIn e1 e2) (hb.rel rv rz) q3
  refine wpAny_call (codeAny_mono z ?_)
  intro r s' hq
  match r, hq with
  | .error e, hq => exact hq.elim
  | .ok (.ret u), hq => exact I4.after hq
  | .ok .next, hq => exact hq.elim
  | .ok .brk, hq => exact hq.elim
  | .ok .cont, hq => exact hq.elim
end
end My
set_option Elab.async false
set_option maxRecDepth 100000
set_option maxHeartbeats 4000000
set_option linter.unusedVariables false
namespace My
open PySem PySem.Spec PyProof.Rows L2 L2.DX

section
open PySem.W
variable {prog : Program} {w : World} {A : Around} {E : Value → Shared → Prop} {s : Shared} {K : Frag} {x C C2 f f2 : Addr} {ox : Obj} {od : Option Obj} {b : Value}
theorem two_classes {op : Operator} {Q : Value → Shared → Prop} (X : K.In s.heap) (I : InstAt s.heap x ox C od) (tb : Looks (model prog w) s.heap (typeOf b) (.ref C2)) (c1 : selfFirst K C = true) (c2 : selfFirst K C2 = true) (ne : C ≠ C2)
    (s1 : findIn K (.ref C) (PySem.dunder op.info.2) = some (some (.ref f))) (isf : isFn K (.ref f) = true) (s2 : findIn K (.ref C2) (PySem.dunder op.info.2) = some (some (.ref f2)))
    (r1 : findIn K (.ref C) (dunderR op.info.2) = some none) (r2 : findIn K (.ref C2) (dunderR op.info.2) = some none) (sub : subIn K (.ref C2) (.ref C) = some false)
    (h : wpAny (model prog w) A (call (.ref f) [.ref x, b]) (PySem.W.CmpBack Q) E s) : wpAny (model prog w) A (binaryOp op (.ref x) b) Q E s := by
  obtain ⟨d1, t1, e1, m1⟩ := ksp_first c1
  obtain ⟨d2, t2, e2, m2⟩ := ksp_first c2
  have one := ksp_try X I s1 isf h
  rcases hi : op.info with ⟨sg, nn⟩
  rw [hi] at s1 s2 r1 r2 one
  dsimp only at s1 s2 r1 r2 one
  obtain ⟨hp, gs, dr, tk, os⟩ := s
  have A1 : Looks (model prog w) hp (typeOf (.ref x)) (.ref C) := I.type
  have A2 : Looks (model prog w) hp (typeOf b) (.ref C2) := tb
  have A3 : Looks (model prog w) hp (fillsNumberSlot (.ref C) nn) true := fills_K X e1 m1 s1
  have A4 : Looks (model prog w) hp (fillsNumberSlot (.ref C2) nn) true := fills_K X e2 m2 s2
  have A5 : Looks (model prog w) hp (isSubtype (.ref C2) (.ref C)) false := looks_subIn X sub
  have A6 : Looks (model prog w) hp (numberSlotInPython (.ref C) nn) true := ksp_inPy X s1 r1 (.inl rfl)
  have A7 : Looks (model prog w) hp (numberSlotInPython (.ref C2) nn) true := ksp_inPy X s2 r2 (.inl rfl)
  have no : (Value.ref C == Value.ref C2) = false := Bool.eq_false_iff.mpr fun q => ne (by have := beq_iff_eq.mp q; injection this)
  simp only [binaryOp, hi]
  refine wpAny_holding (wpAny_bind ?_)
  unfold binaryOp1
  refine wpAny_bind (A1.at (wpAny_bind (A2.at (wpAny_bind (A3.at ?_)))))
  simp only [no, Bool.false_eq_true, if_false]
  ksp_lk
  refine wpAny_mono one (fun r s' hr' => ?_) fun _ _ e => e
  obtain ⟨v, rfl, hq⟩ := hr'
  ksp_lk
  exact hq
end
def rBin2 (C C2 : Addr) (sp : Sp) : R2 := fun x y H Q => ∃ a b dx fs dy gs, x = .ref a ∧ y = .ref b ∧ H a = some (.ins C dx fs) ∧ H b = some (.ins C2 dy gs) ∧ sp [x, y] H Q E0

structure Two (K : PySem.W.Frag) (C C2 : Addr) (nm : String) : Prop where
  c1 : PySem.W.selfFirst K C = true
  c2 : PySem.W.selfFirst K C2 = true
  ne : C ≠ C2
  s2 : ∃ f2, PySem.W.findIn K (.ref C2) (PySem.dunder nm) = some (some (.ref f2))
  r1 : PySem.W.findIn K (.ref C) (dunderR nm) = some none
  r2 : PySem.W.findIn K (.ref C2) (dunderR nm) = some none
  sub : PySem.W.subIn K (.ref C2) (.ref C) = some false
theorem op_own2C {X : Cx} {op : Operator} {C C2 : Addr} {k : Nat} {ps : List Str} {sp : Sp} {nm : Str} (D : Mt X.prog X.w X.K X.mg X.base C nm k ps sp) (hr : Room k X.A) (T : Two X.K C C2 op.info.2) (hn : PySem.dunder op.info.2 = nm) : OpR X (binaryOp op) (rBin2 C C2 sp) := by
  subst hn
  intro pins s σ H x y v u Q I rx ry h
  obtain ⟨a, b, dx, fs, dy, gs, rfl, rfl, ha, hb, q⟩ := h
  cases rx; cases ry
  obtain ⟨f, fd, hs, hf, F, bd⟩ := D.op.ex
  obtain ⟨f2, s2⟩ := T.s2
  obtain ⟨ox, od, J⟩ := inst_of I ha
  obtain ⟨oy, oe, J2⟩ := inst_of I hb
  refine two_classes I.kIn J J2.type T.c1 T.c2 T.ne hs hf s2 T.r1 T.r2 T.sub ?_
  refine thn (run_fn (us := [.ref a, .ref b]) (vs := [.ref a, .ref b]) F hr bd .nil pass0 I (.cons rfl (.cons rfl .nil)) q) ?_
  intro u s' z
  exact cmp_back z
end My
set_option Elab.async false
set_option maxRecDepth 100000
set_option maxHeartbeats 4000000
set_option linter.unusedVariables false
namespace My
open PySem PySem.Spec PyProof.Rows L2 L2.DX

inductive EnAll (K : PySem.W.Frag) (H : Hp) : List V → List (Int × Rw) → Prop
  | nil : EnAll K H [] []
  | cons {t : Addr} {k : Int} {x : Str} {n : Int} {vs : List V} {rs : List (Int × Rw)} (h : SqT K H t [.int k, .str x, .int n]) (ok : rowOk (k, (x, n))) (r : EnAll K H vs rs) : EnAll K H (.ref t :: vs) ((k, (x, n)) :: rs)
inductive Tup3 (H : Hp) : List V → List (Int × Rw) → Prop
  | nil : Tup3 H [] []
  | cons {t : Addr} {k : Int} {x : Str} {n : Int} {vs : List V} {rs : List (Int × Rw)} (h : H t = some (.tup [.int k, .str x, .int n])) (r : Tup3 H vs rs) : Tup3 H (.ref t :: vs) ((k, (x, n)) :: rs)
section
variable {K : PySem.W.Frag} {H H' : Hp}
theorem EnAll.same (s : Same H H') : ∀ {vs : List V} {rs : List (Int × Rw)}, EnAll K H vs rs → EnAll K H' vs rs
  | _, _, .nil => .nil
  | _, _, .cons h ok r => .cons (sqT_same s h) ok (EnAll.same s r)
theorem EnAll.len : ∀ {vs : List V} {rs : List (Int × Rw)}, EnAll K H vs rs → vs.length = rs.length
  | _, _, .nil => rfl
  | _, _, .cons _ _ r => by rw [List.length_cons, List.length_cons, r.len]
theorem EnAll.at : ∀ {vs : List V} {rs : List (Int × Rw)} {i : Nat} {v : V}, EnAll K H vs rs → vs[i]? = some v → ∃ t k x n, v = .ref t ∧ rs[i]? = some (k, (x, n)) ∧ SqT K H t [.int k, .str x, .int n] ∧ rowOk (k, (x, n))
  | _, _, i, v, .nil, h => by simp at h
  | _, _, 0, v, .cons h1 ok r, h => by
    cases Option.some.inj h
    exact ⟨_, _, _, _, rfl, rfl, h1, ok⟩
  | _, _, i + 1, v, .cons h1 ok r, h => r.at h
theorem Tup3.same (s : Same H H') : ∀ {vs : List V} {rs : List (Int × Rw)}, Tup3 H vs rs → Tup3 H' vs rs
  | _, _, .nil => .nil
  | _, _, .cons h r => .cons (s _ _ h) (Tup3.same s r)
theorem Tup3.len : ∀ {vs : List V} {rs : List (Int × Rw)}, Tup3 H vs rs → vs.length = rs.length
  | _, _, .nil => rfl
  | _, _, .cons _ r => by rw [List.length_cons, List.length_cons, r.len]
theorem Tup3.at : ∀ {vs : List V} {rs : List (Int × Rw)} {i : Nat} {v : V}, Tup3 H vs rs → vs[i]? = some v → ∃ t k x n, v = .ref t ∧ rs[i]? = some (k, (x, n)) ∧ H t = some (.tup [.int k, .str x, .int n])
  | _, _, i, v, .nil, h => by simp at h
  | _, _, 0, v, .cons h1 r, h => by
    cases Option.some.inj h
    exact ⟨_, _, _, _, rfl, rfl, h1⟩
  | _, _, i + 1, v, .cons h1 r, h => r.at h
theorem Tup3.chg {a : Addr} {ls : List V} (e : H a = some (.lst ls)) (x : Ext a H H') : ∀ {vs : List V} {rs : List (Int × Rw)}, Tup3 H vs rs → Tup3 H' vs rs
  | _, _, .nil => .nil
  | _, _, .cons h r => .cons (x _ _ (fun z => by rw [z, e] at h; cases h) h) (Tup3.chg e x r)
theorem Tup3.app {t : Addr} {k : Int} {x : Str} {n : Int} (h : H t = some (.tup [.int k, .str x, .int n])) : ∀ {vs : List V} {rs : List (Int × Rw)}, Tup3 H vs rs → Tup3 H (vs ++ [.ref t]) (rs ++ [(k, (x, n))])
  | _, _, .nil => .cons h .nil
  | _, _, .cons h1 r => .cons h1 (Tup3.app h r)
theorem Tup3.en : ∀ {vs : List V} {rs : List (Int × Rw)}, Tup3 H vs rs → VR rs → EnAll K H vs rs
  | _, _, .nil, _ => .nil
  | _, _, .cons h r, v => .cons (.inl (.inl h)) (v _ List.mem_cons_self) (r.en fun q hq => v q (List.mem_cons_of_mem _ hq))
end

theorem val_weight {n : Int} (h : 1 - 10 ^ 40 ≤ n ∧ n ≤ 10 ^ 40 - 1) : (PyData.int n).weight ≤ 1000 := by
  have b : (if (n == 0) = true then 0 else n.natAbs.log2 + 1) ≤ 200 := by
    split
    · omega
    · rename_i z
      have nz : n.natAbs ≠ 0 := by
        intro q
        apply z
        rw [Int.natAbs_eq_zero.mp q]
        rfl
      have lt : n.natAbs < 2 ^ 140 := by
        have e1 : (10 ^ 40 : Nat) < 2 ^ 140 := by decide
        have e2 : n.natAbs < 10 ^ 40 := by omega
        omega
      have := (Nat.log2_lt nz (k := 140)).mpr lt
      omega
  exact Nat.le_trans b (by decide)
theorem row_dx {K : PySem.W.Frag} {H : Hp} {t : Addr} {k : Int} {x : Str} {n : Int} (h : SqT K H t [.int k, .str x, .int n]) : Dx K H (.ref t) (.tuple [.int k, .str x, .int n]) :=
  .of (.tup h (.cons (.int k) (.cons (.str x) (.cons (.int n) .nil))))
theorem row_sm {k : Int} {x : Str} {n : Int} (h : rowOk (k, (x, n))) : sm (.tuple [.int k, .str x, .int n]) := by
  obtain ⟨hk, hx, hn⟩ := h
  have s1 := int_small hk
  have s2 := name_sm hx
  have s3 : (PyData.int n).weight ≤ 1000 := val_weight hn
  have s4 := (len_le s2)
  have e4 : x.length ≤ 4 := by
    have hx2 : nameOk x = true := hx
    unfold nameOk at hx2
    rw [Bool.and_eq_true, Bool.and_eq_true] at hx2
    exact (of_decide_eq_true hx2.1.1).2
  have i1 : (PyData.int k).weight ≤ 1000 := val_weight (by have := hk.1; have := hk.2; constructor <;> omega)
  refine ⟨?_, .inl ?_⟩
  · show PyData.weightAll [.int k, .str x, .int n] ≤ 100000
    have e : PyData.weight (.str x) ≤ 1000 := by
      have : PyData.weight (.str x) = x.length := rfl
      omega
    simp only [PyData.weightAll]
    omega
  · show (PyData.canLay0 (.int k) && (PyData.canLay0 (.str x) && (PyData.canLay0 (.int n) && true))) = true
    rw [name_lay hx]
    rfl
theorem row_ok {k : Int} {x : Str} {n : Int} (h : rowOk (k, (x, n))) : mEnt (.tuple [.int k, .str x, .int n]) = true := by
  obtain ⟨hk, hx, hn⟩ := h
  show ((decide (0 ≤ k) && decide (k ≤ 999999)) && (nameOk x && (decide (1 - 10 ^ 40 ≤ n) && decide (n ≤ 10 ^ 40 - 1)))) = true
  have hx2 : nameOk x = true := hx
  rw [hx2, decide_eq_true hk.1, decide_eq_true hk.2, decide_eq_true hn.1, decide_eq_true hn.2]
  rfl
def ent3 (r : Int × Rw) : PyData := .tuple [.int r.1, .str r.2.1, .int r.2.2]
theorem tup3_dp {K : PySem.W.Frag} {H : Hp} : ∀ {ts : List V} {rs : List (Int × Rw)}, Tup3 H ts rs → DpAll K H ts (rs.map ent3)
  | _, _, .nil => .nil
  | _, _, .cons h r => .cons (.tup (.inl (.inl h)) (.cons (.int _) (.cons (.str _) (.cons (.int _) .nil)))) (tup3_dp r)
theorem lay_ent3 : ∀ {rs : List (Int × Rw)}, VR rs → PyData.canLayAll0 (rs.map ent3) = true
  | [], _ => rfl
  | p :: r, h => by
    show ((PyData.canLay0 (.int p.1) && (PyData.canLay0 (.str p.2.1) && (PyData.canLay0 (.int p.2.2) && true))) && PyData.canLayAll0 (r.map ent3)) = true
    rw [lay_ent3 fun q hq => h q (List.mem_cons_of_mem _ hq), name_lay (h p List.mem_cons_self).2.1]
    rfl
theorem deep_ent3 : ∀ rs : List (Int × Rw), PyData.depthAll (rs.map ent3) ≤ 1
  | [] => by decide
  | p :: r => by
    show max (PyData.depth (ent3 p)) (PyData.depthAll (r.map ent3)) ≤ 1
    exact Nat.max_le.mpr ⟨Nat.le_of_eq rfl, deep_ent3 r⟩
theorem shaped_ent3 {rs : List (Int × Rw)} (h : VR rs) : SeqAt.shaped (.list (rs.map ent3)) = true := by
  show (PyData.canLayAll0 (rs.map ent3) && decide (PyData.depthAll (rs.map ent3) + 1 ≤ 64)) = true
  have := deep_ent3 rs
  rw [lay_ent3 h, decide_eq_true (by omega)]
  rfl
theorem eqv_ent3 {rs : List (Int × Rw)} (h : VR rs) : PyData.eqv (.list (rs.map ent3)) (.list (rs.map ent3)) = true := PySem.SeqAt.eqv_refl _ (lay_ent3 h)

theorem sorted_rows {es ds es' ds' : List (Int × Rw)} (ne : (ks es).Nodup) (nd : (ks ds).Nodup) (hl : ∀ k, lk es k = lk ds k) (p1 : es'.Perm es) (s1 : es'.Pairwise (fun p q => p.1 < q.1))
    (p2 : ds'.Perm ds) (s2 : ds'.Pairwise (fun p q => p.1 < q.1)) : es' = ds' := by
  have hk : (ks es).Perm (ks ds) := by
    refine (List.perm_ext_iff_of_nodup ne nd).mpr fun k => ?_
    rw [← hs_iff, ← hs_iff]
    unfold hs
    rw [hl]
  have e1 : (ks es').Perm (ks ds') := ((p1.map (fun p : Int × Rw => p.1)).trans hk).trans (p2.map (fun p : Int × Rw => p.1)).symm
  have le : ∀ {l : List (Int × Rw)}, l.Pairwise (fun p q => p.1 < q.1) → (ks l).Pairwise (· ≤ ·) := fun s => List.pairwise_map.mpr (s.imp fun h => Int.le_of_lt h)
  have e2 : ks es' = ks ds' := PySem.W.os_sorted_one e1 (le s1) (le s2)
  have a1 := sorted_to (Str.empty, 0) ne nd hl p1 e2
  have a2 := sorted_to (Str.empty, 0) nd nd (fun _ => rfl) p2 rfl
  exact a1.trans a2.symm

def spRowsOf (K : PySem.W.Frag) : Sp := fun vs H Q _ => ∃ (a : Addr) (xs : List V) (l : List (Int × Rw)), vs = [.ref a] ∧ (H a = some (.lst xs) ∨ SqT K H a xs) ∧ EnAll K H xs l ∧ l.length ≤ 1000 ∧
  ∀ d H' es, Same H H' → H' d = some (.dK (entsV es)) → Rws K H' es (laidA [] l) → Q (.ref d) H'
def spInitD (K : PySem.W.Frag) (C : Addr) : Sp := fun vs H Q _ => ∃ (x dx a : Addr) (xs : List V) (l : List (Int × Rw)), vs = [.ref x, .ref a] ∧ H x = some (.ins C dx []) ∧
  (H a = some (.lst xs) ∨ SqT K H a xs) ∧ EnAll K H xs l ∧ l.length ≤ 1000 ∧
  ∀ d H' es, Same (del x H) (del x H') → H' x = some (.ins C dx [("_rows", .ref d)]) → H' d = some (.dK (entsV es)) → Rws K H' es (laidA [] l) → Q .non H'
def spDictOf (K : PySem.W.Frag) (C : Addr) : Sp := fun vs H Q _ => ∃ U d rs, vs = [.ref d] ∧ RD K U H d rs ∧ VR rs ∧ ∀ x H', Same H H' → DD K C U H' x rs → Q (.ref x) H'
def spRawM (K : PySem.W.Frag) : Sp := fun vs H Q _ => ∃ U a b rs qs, vs = [.ref a, .ref b] ∧ RD K U H a rs ∧ RD K U H b qs ∧ ∀ d H', Same H H' → RD K U H' d (mergedA rs qs) → Q (.ref d) H'
def spOrD (K : PySem.W.Frag) (C : Addr) : Sp := fun vs H Q _ => ∃ U a b rs qs, vs = [.ref a, .ref b] ∧ DD K C U H a rs ∧ DD K C U H b qs ∧ ∀ d H', Same H H' → DD K C U H' d (mergedA rs qs) → Q (.ref d) H'
def spPartD (K : PySem.W.Frag) (C S : Addr) (c : Bool) : Sp := fun vs H Q _ => ∃ U U2 a b rs es, vs = [.ref a, .ref b] ∧ DD K C U H a rs ∧ FS S U2 H b es ∧
  ∀ d H', Same H H' → DD K C U H' d (rs.filter fun r => has es r.1 == c) → Q (.ref d) H'
def mergedL (rs : List (Int × Rw)) (ls : List (List (Int × Rw))) : List (Int × Rw) := ls.foldl mergedA rs
inductive DDs (K : PySem.W.Frag) (C : Addr) (U : List Int) (H : Hp) : List V → List (List (Int × Rw)) → Prop
  | nil : DDs K C U H [] []
  | cons {x : Addr} {rs : List (Int × Rw)} {vs : List V} {ls : List (List (Int × Rw))} (h : DD K C U H x rs) (r : DDs K C U H vs ls) : DDs K C U H (.ref x :: vs) (rs :: ls)
inductive RDs (K : PySem.W.Frag) (U : List Int) (H : Hp) : List V → List (List (Int × Rw)) → Prop
  | nil : RDs K U H [] []
  | cons {x : Addr} {rs : List (Int × Rw)} {vs : List V} {ls : List (List (Int × Rw))} (h : RD K U H x rs) (r : RDs K U H vs ls) : RDs K U H (.ref x :: vs) (rs :: ls)
section
variable {K : PySem.W.Frag} {C : Addr} {U : List Int} {H H' : Hp}
theorem DDs.same (s : Same H H') : ∀ {vs : List V} {ls : List (List (Int × Rw))}, DDs K C U H vs ls → DDs K C U H' vs ls
  | _, _, .nil => .nil
  | _, _, .cons h r => .cons (h.same s) (DDs.same s r)
theorem DDs.len : ∀ {vs : List V} {ls : List (List (Int × Rw))}, DDs K C U H vs ls → vs.length = ls.length
  | _, _, .nil => rfl
  | _, _, .cons _ r => by rw [List.length_cons, List.length_cons, r.len]
theorem DDs.at : ∀ {vs : List V} {ls : List (List (Int × Rw))} {i : Nat} {v : V}, DDs K C U H vs ls → vs[i]? = some v → ∃ x rs, v = .ref x ∧ ls[i]? = some rs ∧ DD K C U H x rs
  | _, _, i, v, .nil, h => by simp at h
  | _, _, 0, v, .cons h1 r, h => by
    cases Option.some.inj h
    exact ⟨_, _, rfl, rfl, h1⟩
  | _, _, i + 1, v, .cons h1 r, h => r.at h
theorem DDs.chg {g : Addr} {ls : List V} (e : H g = some (.lst ls)) (s : Ext g H H') : ∀ {vs : List V} {es : List (List (Int × Rw))}, DDs K C U H vs es → DDs K C U H' vs es
  | _, _, .nil => .nil
  | _, _, .cons h r => .cons (h.chg e s) (DDs.chg e s r)
theorem DDs.app {x : Addr} {rs : List (Int × Rw)} (h : DD K C U H x rs) : ∀ {vs : List V} {ls : List (List (Int × Rw))}, DDs K C U H vs ls → DDs K C U H (vs ++ [.ref x]) (ls ++ [rs])
  | _, _, .nil => .cons h .nil
  | _, _, .cons h1 r => .cons h1 (DDs.app h r)
theorem DDs.take : ∀ {vs : List V} {ls : List (List (Int × Rw))} (i : Nat), DDs K C U H vs ls → DDs K C U H (vs.take i) (ls.take i)
  | _, _, 0, _ => by rw [List.take_zero, List.take_zero]; exact .nil
  | _, _, i + 1, .nil => .nil
  | _, _, i + 1, .cons h r => .cons h (DDs.take i r)
theorem RDs.same (s : Same H H') : ∀ {vs : List V} {ls : List (List (Int × Rw))}, RDs K U H vs ls → RDs K U H' vs ls
  | _, _, .nil => .nil
  | _, _, .cons h r => .cons (h.same s) (RDs.same s r)
theorem RDs.len : ∀ {vs : List V} {ls : List (List (Int × Rw))}, RDs K U H vs ls → vs.length = ls.length
  | _, _, .nil => rfl
  | _, _, .cons _ r => by rw [List.length_cons, List.length_cons, r.len]
theorem RDs.at : ∀ {vs : List V} {ls : List (List (Int × Rw))} {i : Nat} {v : V}, RDs K U H vs ls → vs[i]? = some v → ∃ x rs, v = .ref x ∧ ls[i]? = some rs ∧ RD K U H x rs
  | _, _, i, v, .nil, h => by simp at h
  | _, _, 0, v, .cons h1 r, h => by
    cases Option.some.inj h
    exact ⟨_, _, rfl, rfl, h1⟩
  | _, _, i + 1, v, .cons h1 r, h => r.at h
theorem RDs.chg {g : Addr} {ls : List V} (e : H g = some (.lst ls)) (s : Ext g H H') : ∀ {vs : List V} {es : List (List (Int × Rw))}, RDs K U H vs es → RDs K U H' vs es
  | _, _, .nil => .nil
  | _, _, .cons h r => .cons (h.chg e s) (RDs.chg e s r)
theorem RDs.app {x : Addr} {rs : List (Int × Rw)} (h : RD K U H x rs) : ∀ {vs : List V} {ls : List (List (Int × Rw))}, RDs K U H vs ls → RDs K U H (vs ++ [.ref x]) (ls ++ [rs])
  | _, _, .nil => .cons h .nil
  | _, _, .cons h1 r => .cons h1 (RDs.app h r)
theorem RDs.set {x : Addr} {rs : List (Int × Rw)} (h : RD K U H x rs) : ∀ {vs : List V} {ls : List (List (Int × Rw))} (i : Nat), RDs K U H vs ls → RDs K U H (vs.set i (.ref x)) (ls.set i rs)
  | _, _, _, .nil => .nil
  | _, _, 0, .cons h1 r => .cons h r
  | _, _, i + 1, .cons h1 r => .cons h1 (RDs.set h i r)
theorem RDs.take : ∀ {vs : List V} {ls : List (List (Int × Rw))} (i : Nat), RDs K U H vs ls → RDs K U H (vs.take i) (ls.take i)
  | _, _, 0, _ => by rw [List.take_zero, List.take_zero]; exact .nil
  | _, _, i + 1, .nil => .nil
  | _, _, i + 1, .cons h r => .cons h (RDs.take i r)
end
def spMergeAll (K : PySem.W.Frag) (C : Addr) : Sp := fun vs H Q _ => ∃ U a p rs xs ls, vs = [.ref a, .ref p] ∧ DD K C U H a rs ∧ SqT K H p xs ∧ DDs K C U H xs ls ∧ ∀ d H', Same H H' → DD K C U H' d (mergedL rs ls) → Q (.ref d) H'
def spHasD (K : PySem.W.Frag) (C : Addr) : Sp := fun vs H Q _ => ∃ U a rs n, vs = [.ref a, .int n] ∧ DD K C U H a rs ∧ (0 ≤ n ∧ n ≤ 999999) ∧ ∀ H', Same H H' → Q (.bl (hs rs n)) H'
def spGetD (K : PySem.W.Frag) (C : Addr) : Sp := fun vs H Q _ => ∃ U a rs n x v, vs = [.ref a, .int n] ∧ DD K C U H a rs ∧ lk rs n = some (x, v) ∧ ∀ H', Same H H' → Q (.int v) H'
def EntQ (rs : List (Int × Rw)) (H : Hp) (Q : VK) : Prop := ∀ (H' : Hp) (l : Addr) (ts : List V) (rs' : List (Int × Rw)), Same H H' → H' l = some (.lst ts) → Tup3 H' ts rs' → rs'.Perm rs → rs'.Pairwise (fun p q => p.1 < q.1) → Q (.ref l) H'
def spEnt (K : PySem.W.Frag) (C : Addr) : Sp := fun vs H Q _ => ∃ U a rs, vs = [.ref a] ∧ DD K C U H a rs ∧ EntQ rs H Q
def spKeySet (K : PySem.W.Frag) (C S : Addr) : Sp := fun vs H Q _ => ∃ U a rs, vs = [.ref a] ∧ DD K C U H a rs ∧ ∀ z H' es, Same H H' → FS S U H' z es → (∀ k, look es k = (lk rs k).map (·.1)) → Q (.ref z) H'
def VS (es : List (Int × Str)) : Prop := ∀ p ∈ es, (0 ≤ p.1 ∧ p.1 ≤ 999999) ∧ nameOk p.2 = true
def lookedAt (a : Option Str) (b : Option Rw) : Option Rw := match a, b with
  | some x, some r => some (x, r.2)
  | _, _ => none
def spLooked (K : PySem.W.Frag) (C S : Addr) : Sp := fun vs H Q _ => ∃ U U2 s d es rs, vs = [.ref s, .ref d] ∧ FS S U H s es ∧ VS es ∧ DD K C U2 H d rs ∧
  ∀ z H' qs, Same H H' → DD K C U H' z qs → (∀ k, lk qs k = lookedAt (look es k) (lk rs k)) → Q (.ref z) H'
def alikeA (rs qs : List (Int × Rw)) : Prop := rs.length = qs.length ∧ ∀ p ∈ rs, lk qs p.1 = some p.2
def spEqD (K : PySem.W.Frag) (C : Addr) : Sp := fun vs H Q _ => ∃ U a b rs qs, vs = [.ref a, .ref b] ∧ DD K C U H a rs ∧ DD K C U H b qs ∧ alikeA rs qs ∧ Q (.bl true) H

def spLDict (K : PySem.W.Frag) : Sp := fun vs H Q _ => ∃ (a b : Addr) (n m : Nat) (fl : List Str), vs = [.ref a, .int m, .ref b] ∧ Bag H a n ∧ n < 5000 ∧ 1 ≤ m ∧ m ≤ 20 ∧ H b = some (.lst (fl.map V.str)) ∧ fl.length = 2 ∧ (∀ x ∈ fl, nameOk x = true) ∧
  ∀ d rs H', Same (del a H) (del a H') → Bag H' a (n + 200) → RD K (below m) H' d rs → VR rs → Q (.ref d) H'
def spLSet : Sp := fun vs H Q _ => ∃ (a : Addr) (n m : Nat), vs = [.ref a, .int m] ∧ Bag H a n ∧ n < 5000 ∧ 1 ≤ m ∧ m ≤ 20 ∧
  ∀ d es H', Same (del a H) (del a H') → Bag H' a (n + 100) → FD (below m) H' d es → NE es → Q (.ref d) H'
def spLEnts (K : PySem.W.Frag) : Sp := fun vs H Q _ => ∃ U d rs, vs = [.ref d] ∧ RD K U H d rs ∧ rs.length < 64 ∧ EntQ rs H Q
def spLIs (K : PySem.W.Frag) (C : Addr) : Sp := fun vs H Q _ => ∃ U V2 x d rs ds, vs = [.ref x, .ref d] ∧ DD K C U H x rs ∧ RD K V2 H d ds ∧ ds.length < 64 ∧ (∀ k, lk rs k = lk ds k) ∧ ∀ H', Same H H' → Q (.bl true) H'
def overL (a : Option Rw) (ls : List (List (Int × Rw))) (k : Int) : Option Rw := ls.foldl (fun acc l => over acc (lk l k)) a
def spLMerged (K : PySem.W.Frag) : Sp := fun vs H Q _ => ∃ U l xs rss, vs = [.ref l] ∧ SqL K H l xs ∧ RDs K U H xs rss ∧ U.length ≤ 1000 ∧
  ∀ d H' qs, Same H H' → RD K U H' d qs → (∀ k, lk qs k = overL none rss k) → Q (.ref d) H'
def spLMR (K : PySem.W.Frag) (C : Addr) : Sp := fun vs H Q _ => ∃ (l r : Addr) (xs ys : List V) (rss qss : List (List (Int × Rw))), vs = [.ref l, .ref r] ∧ H l = some (.lst xs) ∧ RDs K (below 14) H xs rss ∧ H r = some (.lst ys) ∧ DDs K C (below 14) H ys qss ∧
  xs.length = ys.length ∧ 2 ≤ xs.length ∧ xs.length ≤ 4 ∧ (∀ (i : Nat) (e u : List (Int × Rw)), rss[i]? = some e → qss[i]? = some u → ∀ j, lk u j = lk e j) ∧ ∀ H', Same H H' → Q (.bl true) H'
def spLWS (K : PySem.W.Frag) (C S : Addr) : Sp := fun vs H Q _ => ∃ (d x f s : Addr) (ds rs : List (Int × Rw)) (fs es : List (Int × Str)), vs = [.ref d, .ref x, .ref f, .ref s] ∧ RD K (below 14) H d ds ∧ DD K C (below 14) H x rs ∧ FD (below 14) H f fs ∧ FS S (below 14) H s es ∧
  NE fs ∧ (∀ k, lk rs k = lk ds k) ∧ (∀ k, look es k = look fs k) ∧ ∀ H', Same H H' → Q (.bl true) H'
theorem lk_mergedL (ls : List (List (Int × Rw))) : ∀ (rs : List (Int × Rw)) (k : Int), (∀ l ∈ ls, (ks l).Nodup) → lk (mergedL rs ls) k = overL (lk rs k) ls k := by
  unfold mergedL overL
  induction ls with
  | nil => exact fun _ _ _ => rfl
  | cons l r ih =>
    intro rs k h
    rw [List.foldl_cons, List.foldl_cons, ih _ _ fun q hq => h q (List.mem_cons_of_mem _ hq), lk_mergedA (h l List.mem_cons_self)]
theorem overL_like : ∀ (us ws : List (List (Int × Rw))) (k : Int) (a : Option Rw), us.length = ws.length → (∀ (i : Nat) (u w : List (Int × Rw)), us[i]? = some u → ws[i]? = some w → lk u k = lk w k) → overL a us k = overL a ws k
  | [], [], _, _, _, _ => rfl
  | u :: us, w :: ws, k, a, hl, h => by
    unfold overL
    rw [List.foldl_cons, List.foldl_cons, h 0 u w rfl rfl]
    exact overL_like us ws k _ (by simpa using hl) fun i x y e1 e2 => h (i + 1) x y e1 e2
theorem alikeA_of {U W : List Int} {rs qs : List (Int × Rw)} (g : Gd U rs) (h : Gd W qs) (e : ∀ k, lk rs k = lk qs k) : alikeA rs qs :=
  ⟨len_of_hs g h fun k => by unfold hs; rw [e], fun p hp => by rw [← e]; exact lk_ents g.1 hp⟩
theorem below_len64 {α : Type} {rs : List (Int × α)} (g : Gd (below 14) rs) : rs.length < 64 := by
  have := nd_sub g.1 g.2.1
  rw [ks_len, below_len] at this
  omega
theorem Gd.wide {m : Nat} {α : Type} {es : List (Int × α)} (g : Gd (below m) es) (h : m ≤ 14) : Gd (below 14) es := by
  refine ⟨g.1, fun k hk => ?_, by rw [below_len]; omega⟩
  have := g.2.1 k hk
  unfold below at this ⊢
  obtain ⟨i, hi, rfl⟩ := List.mem_map.mp this
  exact List.mem_map.mpr ⟨i, List.mem_range.mpr (by have := List.mem_range.mp hi; omega), rfl⟩
theorem RD.wide {K : PySem.W.Frag} {m : Nat} {H : Hp} {d : Addr} {rs : List (Int × Rw)} (g : RD K (below m) H d rs) (h : m ≤ 14) : RD K (below 14) H d rs := by
  obtain ⟨es, h1, h2, h3⟩ := g
  exact ⟨es, h1, h2, h3.wide h⟩
end My
set_option Elab.async false
set_option maxRecDepth 100000
set_option maxHeartbeats 4000000
set_option linter.unusedVariables false
namespace My
open PySem PySem.Spec PyProof.Rows L2 L2.DX
theorem laid_len (fs : List (Int × Rw)) : ∀ es : List (Int × Rw), (laidA es fs).length ≤ es.length + fs.length := by
  unfold laidA
  induction fs with
  | nil => exact fun _ => Nat.le_refl _
  | cons p r ih =>
    intro es
    have h1 := ih (laid1 es p)
    have h2 : (laid1 es p).length ≤ es.length + 1 := put_len _ _ _
    rw [List.foldl_cons, List.length_cons]
    omega
theorem laid_take {l : List (Int × Rw)} {i : Nat} {n : Int} {r : Rw} (h : l[i]? = some (n, r)) (es : List (Int × Rw)) : laidA es (l.take (i + 1)) = putA (laidA es (l.take i)) n (over1 (lk (laidA es (l.take i)) n) r) := by
  unfold laidA
  rw [lk_take_snoc h, List.foldl_append]
  rfl
theorem merged_len (base fs : List (Int × Rw)) : ∀ es : List (Int × Rw), (fs.foldl (lay1 base) es).length ≤ es.length + fs.length := by
  induction fs with
  | nil => exact fun _ => Nat.le_refl _
  | cons p r ih =>
    intro es
    have h1 := ih (lay1 base es p)
    have h2 : (lay1 base es p).length ≤ es.length + 1 := put_len _ _ _
    rw [List.foldl_cons, List.length_cons]
    omega
theorem merged_take {l base : List (Int × Rw)} {i : Nat} {n : Int} {r : Rw} (h : l[i]? = some (n, r)) (es : List (Int × Rw)) : (l.take (i + 1)).foldl (lay1 base) es = putA ((l.take i).foldl (lay1 base) es) n (over1 (lk base n) r) := by
  rw [lk_take_snoc h, List.foldl_append]
  rfl
section
variable {K : PySem.W.Frag} {H : Hp} {p t : Addr} {es : List (Int × V)} {rs : List (Int × Rw)} {n : Int} {f : Str} {m : Int}

theorem rows_put (hd : H p = some (.dK (entsV es))) (hr : Rws K H es rs) (ht : H t = none) :
    Rws K (upd (upd H t (.tup [.str f, .int m])) p (.dK (putK (entsV es) (.inl n) (.ref t)))) (putA es n (.ref t)) (putA rs n (f, m)) := by
  have np : p ≠ t := ne_of_none hd ht
  have h1 : Rws K (upd H t (.tup [.str f, .int m])) es rs := hr.same (same_new ht)
  have h2 := h1.put n (t := t) (x := f) (n := m) (.inl (.inl upd_same))
  exact h2.chgD ((upd_ne np).trans hd) fun b o nb e => (upd_ne nb).trans e
theorem ext_put (hd : H p = some (.dK (entsV es))) (ht : H t = none) {o : HO} {u : HO} : Ext p H (upd (upd H t o) p u) := fun b _ nb e => (upd_ne nb).trans ((upd_ne (ne_of_none e ht)).trans e)
end

theorem key_ok {n : Int} (hn : 0 ≤ n ∧ n ≤ 999999) : mKey (.int n) = true := by
  show (decide (0 ≤ n) && decide (n ≤ 999999)) = true
  rw [decide_eq_true hn.1, decide_eq_true hn.2]; rfl
theorem key_sm {n : Int} (hn : 0 ≤ n ∧ n ≤ 999999) : sm (.int n) := ⟨int_small hn, .inl rfl⟩
theorem isSome_hs {es : List (Int × V)} {n : Int} : (valV (entsV es) (.inl n)).isSome = hs es n := by
  rw [valV_entsV]; rfl

theorem rows_perm {K : PySem.W.Frag} {H : Hp} {es es' : List (Int × V)} {rs : List (Int × Rw)} (hr : Rws K H es rs) (nd : (ks es).Nodup) (p : es'.Perm es) : ∃ rs', Rws K H es' rs' ∧ rs'.Perm rs ∧ ks rs' = ks es' := by
  have main : ∀ {es es' : List (Int × V)}, es'.Perm es → ∀ {rs : List (Int × Rw)}, Rws K H es rs → ∃ rs', Rws K H es' rs' ∧ rs'.Perm rs := by
    intro es es' p
    induction p with
    | nil => intro rs h; exact ⟨rs, h, List.Perm.refl _⟩
    | cons x _ ih =>
      intro rs h
      cases h with
      | cons h1 r =>
        obtain ⟨rs', h2, p2⟩ := ih r
        exact ⟨_, .cons h1 h2, p2.cons _⟩
    | swap x y l =>
      intro rs h
      cases h with
      | cons h1 r =>
        cases r with
        | cons h2 r2 => exact ⟨_, .cons h2 (.cons h1 r2), List.Perm.swap _ _ _⟩
    | trans _ _ ih1 ih2 =>
      intro rs h
      obtain ⟨r2, h2, p2⟩ := ih2 h
      obtain ⟨r1, h1, p1⟩ := ih1 h2
      exact ⟨r1, h1, p1.trans p2⟩
  obtain ⟨rs', h1, h2⟩ := main p hr
  exact ⟨rs', h1, h2, h1.ks.symm⟩
theorem sorted_ks {α β : Type} {es : List (Int × α)} {fs : List (Int × β)} (e : ks fs = ks es) (s : es.Pairwise (fun p q => p.1 < q.1)) : fs.Pairwise (fun p q => p.1 < q.1) := by
  have h1 : (ks es).Pairwise (· < ·) := List.pairwise_map.mpr s
  rw [← e] at h1
  exact List.pairwise_map.mp h1
end My
set_option Elab.async false
set_option maxRecDepth 100000
set_option maxHeartbeats 4000000
set_option linter.unusedVariables false
namespace My
open PySem PySem.Spec PyProof.Rows L2 L2.DX
theorem tupS_el {K : PySem.W.Frag} {H : Hp} : ∀ {ts : List V} {es : List (Int × Str)}, TupS H ts es → VS es → ElAll K H ts es
  | _, _, .nil, _ => .nil
  | _, _, .cons h r, v => .cons (.inl (.inl h)) (v _ List.mem_cons_self).1 (v _ List.mem_cons_self).2 (tupS_el r fun q hq => v q (List.mem_cons_of_mem _ hq))
theorem tupS_len {H : Hp} : ∀ {ts : List V} {es : List (Int × Str)}, TupS H ts es → ts.length = es.length
  | _, _, .nil => rfl
  | _, _, .cons _ r => by rw [List.length_cons, List.length_cons, tupS_len r]
theorem tupS_get {H : Hp} : ∀ {ts : List V} {es : List (Int × Str)} {i : Nat} {v : V}, TupS H ts es → ts[i]? = some v → ∃ t k x, v = .ref t ∧ es[i]? = some (k, x) ∧ H t = some (.tup [.int k, .str x])
  | _, _, i, v, .nil, h => by simp at h
  | _, _, 0, v, .cons h1 r, h => by
    cases Option.some.inj h
    exact ⟨_, _, _, rfl, rfl, h1⟩
  | _, _, i + 1, v, .cons h1 r, h => by
    have q := fun hh => tupS_get (i := i) (v := v) r hh
    exact q (by simpa using h)
theorem lk_perm {α : Type} {rs rs' : List (Int × α)} (p : rs'.Perm rs) (nd : (ks rs).Nodup) (k : Int) : lk rs' k = lk rs k := by
  have nd' : (ks rs').Nodup := ((p.map (fun q : Int × α => q.1)).nodup_iff).mpr nd
  cases h : lk rs k with
  | none =>
    refine lk_none.mpr fun z => lk_none.mp h ?_
    exact (p.map (fun q : Int × α => q.1)).mem_iff.mp z
  | some x =>
    have := lk_ents nd' (p.mem_iff.mpr (lk_mem h))
    exact this
theorem forms_take (rs : List (Int × Rw)) (i : Nat) : formsOf (rs.take i) = (formsOf rs).take i := List.map_take
theorem forms_vs {rs : List (Int × Rw)} (h : VR rs) : VS (formsOf rs) := fun p hp => by
  obtain ⟨q, hq, rfl⟩ := List.mem_map.mp hp
  exact ⟨(h q hq).1, (h q hq).2.1⟩
theorem forms_good {U : List Int} {rs : List (Int × Rw)} (g : Gd U rs) : Good U (formsOf rs) := ⟨by rw [keys_forms]; exact g.1, by rw [keys_forms]; exact g.2.1, g.2.2⟩
theorem small3000 {n : Nat} (h : n ≤ 3000) : n < sizeLine := Nat.lt_of_le_of_lt h (by decide)
theorem room80 {k : Nat} {A : Around} (r : Room k A) : A.units + 80 < cLine := by have := r.un; omega

def lookedL (rs : List (Int × Rw)) (es : List (Int × Str)) : List (Int × Rw) := es.filterMap fun p => (lk rs p.1).map fun r => (p.1, (p.2, r.2))
theorem ks_lookedL (rs : List (Int × Rw)) : ∀ es : List (Int × Str), (ks (lookedL rs es)).Sublist (keys es)
  | [] => List.Sublist.slnil
  | p :: r => by
    unfold lookedL
    rw [List.filterMap_cons]
    cases h : lk rs p.1 with
    | none => exact (ks_lookedL rs r).cons _
    | some q => exact (ks_lookedL rs r).cons_cons _
theorem lk_lookedL (rs : List (Int × Rw)) (k : Int) : ∀ es : List (Int × Str), (keys es).Nodup → lk (lookedL rs es) k = lookedAt (look es k) (lk rs k)
  | [], _ => rfl
  | p :: r, nd => by
    have nd2 : p.1 ∉ keys r ∧ (keys r).Nodup := List.nodup_cons.mp nd
    have ih := lk_lookedL rs k r nd2.2
    rw [look_cons]
    unfold lookedL
    rw [List.filterMap_cons]
    by_cases e : p.1 = k
    · rw [if_pos e]
      cases h : lk rs p.1 with
      | none =>
        show lk (lookedL rs r) k = _
        rw [ih, ← e, h]
        unfold lookedAt
        cases look r p.1 <;> rfl
      | some q =>
        show lk ((p.1, (p.2, q.2)) :: lookedL rs r) k = _
        rw [lk_cons, if_pos e, ← e, h]
        rfl
    · rw [if_neg e]
      cases h : lk rs p.1 with
      | none => exact ih
      | some q =>
        show lk ((p.1, (p.2, q.2)) :: lookedL rs r) k = _
        rw [lk_cons, if_neg e, ih]
theorem lookedL_take {rs : List (Int × Rw)} {es : List (Int × Str)} {i : Nat} {p : Int × Str} (h : es[i]? = some p) :
    lookedL rs (es.take (i + 1)) = lookedL rs (es.take i) ++ (match lk rs p.1 with | some r => [(p.1, (p.2, r.2))] | none => []) := by
  unfold lookedL
  rw [take_one h, List.filterMap_append, List.filterMap_cons, List.filterMap_nil]
  cases lk rs p.1 <;> rfl
theorem lookedL_vr {rs : List (Int × Rw)} {es : List (Int × Str)} (h : VR rs) (g : VS es) : VR (lookedL rs es) := fun q hq => by
  obtain ⟨p, hp, e⟩ := List.mem_filterMap.mp hq
  cases l : lk rs p.1 with
  | none => rw [l] at e; cases e
  | some r =>
    rw [l] at e
    cases e
    exact ⟨(g p hp).1, (g p hp).2, (h _ (lk_mem l)).2.2⟩
theorem lookedL_len (rs : List (Int × Rw)) (es : List (Int × Str)) : (lookedL rs es).length ≤ es.length := List.length_filterMap_le _ _
theorem filter_take_put {α : Type} {fs : List (Int × α)} {i : Nat} {n : Int} {v : α} (nd : (ks fs).Nodup) (h : fs[i]? = some (n, v)) (c : Int → Bool) :
    (fs.take (i + 1)).filter (fun p => c p.1) = if c n = true then putA ((fs.take i).filter fun p => c p.1) n v else (fs.take i).filter fun p => c p.1 := by
  rw [lk_take_snoc h, List.filter_append, List.filter_cons]
  by_cases q : c n = true
  · rw [if_pos q, if_pos q]
    have hk : hs ((fs.take i).filter fun p => c p.1) n = false := by
      unfold hs
      rw [lk_filter, lk_part nd h, ite_self]
      rfl
    unfold putA
    rw [hk, if_neg (by simp)]
    rfl
  · rw [if_neg q, if_neg q]
    simp
theorem ents_ne {es : List (Int × Str)} {fs : List (Int × V)} {i : Nat} {k : Int} {t : Addr} (h : fs[i]? = some (k, .ref t)) : ents es ≠ entsV fs := by
  intro e
  have h1 : (entsV fs)[i]? = some (.inl k, .ref t) := by unfold entsV; rw [List.getElem?_map, h]; rfl
  rw [← e] at h1
  obtain ⟨_, _, _, _, h2⟩ := ents_at h1
  cases h2
end My
set_option Elab.async false
set_option maxRecDepth 100000
set_option maxHeartbeats 4000000
set_option linter.unusedVariables false
namespace My
open PySem PySem.Spec PyProof.Rows L2 L2.DX
theorem rows_of_keys {α : Type} {rs : List (Int × α)} {ys : List Int} (x0 : α) (nd : (ks rs).Nodup) (p : ys.Perm (ks rs)) (s : ys.Pairwise (· ≤ ·)) :
    (ys.map fun k => (k, (lk rs k).getD x0)).Perm rs ∧ (ys.map fun k => (k, (lk rs k).getD x0)).Pairwise (fun a b => a.1 < b.1) := by
  constructor
  · have h1 := p.map fun k => (k, (lk rs k).getD x0)
    have h2 : (ks rs).map (fun k => (k, (lk rs k).getD x0)) = rs := by
      unfold ks
      rw [List.map_map]
      have main : ∀ p ∈ rs, ((fun k => (k, (lk rs k).getD x0)) ∘ fun q : Int × α => q.1) p = p := by
        intro p hp
        show (p.1, (lk rs p.1).getD x0) = p
        rw [lk_ents nd hp]
        rfl
      exact (List.map_congr_left main).trans (List.map_id _)
    rw [h2] at h1
    exact h1
  · have ndy : ys.Nodup := p.nodup_iff.mpr nd
    refine List.pairwise_map.mpr ?_
    exact (List.Pairwise.and s ndy).imp fun h => by
      have a := h.1
      have b := h.2
      show (_ : Int) < _
      omega
theorem over_step {qs2 qs rs : List (Int × Rw)} {j : Nat} {n : Int} {r : Rw} (nd : (ks rs).Nodup) (h : ∀ k, lk qs2 k = over (lk qs k) (lk (rs.take j) k)) (e : rs[j]? = some (n, r)) (k : Int) :
    lk (putA qs2 n (over1 (lk qs2 n) r)) k = over (lk qs k) (lk (rs.take (j + 1)) k) := by
  have e0 := lk_part nd e
  rw [lk_put, lk_take_snoc e, lk_app, lk_cons, lk_nil]
  by_cases z : k = n
  · rw [if_pos z, if_pos z.symm, z, e0, h, e0]; rfl
  · rw [if_neg z, if_neg (fun q => z q.symm), Option.or_none, h]

theorem tupV_app {H : Hp} {t : Addr} {k : Int} {x : V} (h : H t = some (.tup [.int k, x])) : ∀ {ts : List V} {es : List (Int × V)}, TupV H ts es → TupV H (ts ++ [.ref t]) (es ++ [(k, x)])
  | _, _, .nil => .cons h .nil
  | _, _, .cons h1 r => .cons h1 (tupV_app h r)
theorem tupV_chg {H H' : Hp} {a : Addr} {ls : List V} (e : H a = some (.lst ls)) (x : Ext a H H') : ∀ {ts : List V} {es : List (Int × V)}, TupV H ts es → TupV H' ts es
  | _, _, .nil => .nil
  | _, _, .cons h r => .cons (x _ _ (fun z => by rw [z, e] at h; cases h) h) (tupV_chg e x r)
theorem tupV_frz {H : Hp} {a : Addr} {od : Obj} {u o : HO} (e : H a = some (.frz od u)) : ∀ {ts : List V} {es : List (Int × V)}, TupV H ts es → TupV (upd H a o) ts es
  | _, _, .nil => .nil
  | _, _, .cons h r => .cons ((upd_ne fun z => by rw [z, e] at h; cases h).trans h) (tupV_frz e r)
theorem tupV_refs {K : PySem.W.Frag} {H : Hp} : ∀ {ts : List V} {es : List (Int × V)}, TupV H ts es → ∃ ps : List Addr, ts = ps.map V.ref ∧ Paired (fun p (kv : Key × V) => SqT K H p [kV kv.1, kv.2]) ps (entsV es)
  | _, _, .nil => ⟨[], rfl, .nil⟩
  | _, _, .cons (a := a) h r => by
    obtain ⟨ps, rfl, h2⟩ := tupV_refs (K := K) r
    exact ⟨a :: ps, rfl, .cons (.inl (.inl h)) h2⟩

def lkL (fs : List (Int × Str)) (rs : List (Int × Rw)) : List (Int × Rw) := rs.filterMap fun r => (look fs r.1).map fun x => (r.1, (x, r.2.2))
theorem lk_lkL (fs : List (Int × Str)) (k : Int) : ∀ rs : List (Int × Rw), (ks rs).Nodup → lk (lkL fs rs) k = lookedAt (look fs k) (lk rs k)
  | [], _ => by
    show none = lookedAt (look fs k) none
    unfold lookedAt
    cases look fs k <;> rfl
  | p :: r, nd => by
    have nd2 : p.1 ∉ ks r ∧ (ks r).Nodup := List.nodup_cons.mp nd
    have ih := lk_lkL fs k r nd2.2
    rw [lk_cons]
    unfold lkL
    rw [List.filterMap_cons]
    by_cases e : p.1 = k
    · rw [if_pos e]
      cases h : look fs p.1 with
      | none =>
        show lk (lkL fs r) k = _
        have e0 : lk r p.1 = none := lk_none.mpr nd2.1
        rw [ih, ← e, e0, h]
        rfl
      | some q =>
        show lk ((p.1, (q, p.2.2)) :: lkL fs r) k = _
        rw [lk_cons, if_pos e, ← e, h]
        rfl
    · rw [if_neg e]
      cases h : look fs p.1 with
      | none => exact ih
      | some q =>
        show lk ((p.1, (q, p.2.2)) :: lkL fs r) k = _
        rw [lk_cons, if_neg e, ih]
theorem ks_lkL (fs : List (Int × Str)) : ∀ rs : List (Int × Rw), (ks (lkL fs rs)).Sublist (ks rs)
  | [] => List.Sublist.slnil
  | p :: r => by
    unfold lkL
    rw [List.filterMap_cons]
    cases h : look fs p.1 with
    | none => exact (ks_lkL fs r).cons _
    | some q => exact (ks_lkL fs r).cons_cons _
theorem lkL_take {fs : List (Int × Str)} {rs : List (Int × Rw)} {i : Nat} {n : Int} {r : Rw} {x : Str} (h : rs[i]? = some (n, r)) (e : look fs n = some x) : lkL fs (rs.take (i + 1)) = lkL fs (rs.take i) ++ [(n, (x, r.2))] := by
  unfold lkL
  rw [lk_take_snoc h, List.filterMap_append, List.filterMap_cons, List.filterMap_nil]
  have e' : look fs (n, r).fst = some x := e
  rw [e']
  rfl
theorem Gd.sub {α β : Type} {U : List Int} {es : List (Int × α)} {fs : List (Int × β)} (g : Gd U es) (h : (ks fs).Sublist (ks es)) : Gd U fs := ⟨g.1.sublist h, fun k hk => g.2.1 k (h.subset hk), g.2.2⟩
theorem ks_get {α : Type} {es : List (Int × α)} {i : Nat} {n : Int} (h : (ks es)[i]? = some n) : ∃ x, es[i]? = some (n, x) := by
  unfold ks at h
  rw [List.getElem?_map] at h
  cases e : es[i]? with
  | none => rw [e] at h; cases h
  | some p => rw [e] at h; cases h; exact ⟨p.2, rfl⟩
theorem vs_of {es fs : List (Int × Str)} (g : Good (below 14) es) (ne : NE fs) (e : ∀ k, look es k = look fs k) : VS es := fun p hp => by
  have l := look_ents g.1 hp
  rw [e] at l
  have hk := g.2.1 p.1 (List.mem_map_of_mem hp)
  unfold below at hk
  obtain ⟨i, hi, h⟩ := List.mem_map.mp hk
  have := List.mem_range.mp hi
  exact ⟨⟨by omega, by omega⟩, ne _ (look_mem l)⟩
theorem ix_tupK {X : Cx} {K : PySem.W.Frag} (h : X.K = K) : IxR X (rIxT K) := by
  subst h
  exact ix_tup
theorem row_draw {m : Nat} {key : Int} {x : Str} {v : Int} (hm : m ≤ 20) (k0 : 0 ≤ key) (k1 : key < m) (hx : nameOk x = true) (v0 : 0 ≤ v) (v1 : v < 100) : rowOk (key, (x, v - 50)) := by
  refine ⟨⟨k0, by show key ≤ 999999; omega⟩, hx, ?_⟩
  show 1 - 10 ^ 40 ≤ v - 50 ∧ v - 50 ≤ 10 ^ 40 - 1
  constructor <;> omega
end My
set_option Elab.async false
set_option maxRecDepth 100000
set_option maxHeartbeats 4000000
set_option linter.unusedVariables false
namespace My
open PySem PySem.Spec PyProof.Rows L2 L2.DX
section
variable {rs ds : List (Int × Rw)} {es fs : List (Int × Str)}
theorem filt_eq (c c2 : Int → Bool) (lr : ∀ k, lk rs k = lk ds k) (h : ∀ k, c k = c2 k) (k : Int) : lk (rs.filter fun r => c r.1) k = lk (ds.filter fun r => c2 r.1) k := by
  rw [lk_filter c, lk_filter c2, lr, h]
theorem has_eq (le : ∀ k, look es k = look fs k) (k : Int) : has es k = has fs k := by unfold has; rw [le]
theorem kept_eq (lr : ∀ k, lk rs k = lk ds k) (le : ∀ k, look es k = look fs k) (k : Int) : lk (rs.filter fun r => has es r.1 == true) k = lk (ds.filter fun r => has fs r.1) k :=
  filt_eq (fun q => has es q == true) (fun q => has fs q) lr (fun q => by rw [has_eq le]; cases has fs q <;> rfl) k
theorem less_eq (lr : ∀ k, lk rs k = lk ds k) (le : ∀ k, look es k = look fs k) (k : Int) : lk (rs.filter fun r => has es r.1 == false) k = lk (ds.filter fun r => !has fs r.1) k :=
  filt_eq (fun q => has es q == false) (fun q => !has fs q) lr (fun q => by rw [has_eq le]; cases has fs q <;> rfl) k
theorem looked_eq (nd : (ks ds).Nodup) (lr : ∀ k, lk rs k = lk ds k) (le : ∀ k, look es k = look fs k) (k : Int) : lookedAt (look es k) (lk rs k) = lk (lkL fs (ds.filter fun r => has fs r.1)) k := by
  rw [lk_lkL fs k _ (nd.sublist (ks_filter_sub _ _)), lk_filter fun q => has fs q, le, lr]
  unfold has
  cases h : look fs k with
  | none =>
    unfold lookedAt
    rfl
  | some x => rfl
end
theorem over_none (b : Option Rw) : over none b = b := by
  cases b with
  | none => rfl
  | some r => rfl
theorem DD.nd {K : PySem.W.Frag} {C : Addr} {U : List Int} {H : Hp} {x : Addr} {rs : List (Int × Rw)} (h : DD K C U H x rs) : (ks rs).Nodup := by
  obtain ⟨_, _, _, ⟨_, _, _, g⟩, _⟩ := h
  exact g.1
theorem RD.len64 {K : PySem.W.Frag} {H : Hp} {d : Addr} {rs : List (Int × Rw)} (h : RD K (below 14) H d rs) : rs.length < 64 := by
  obtain ⟨_, _, _, g⟩ := h
  exact below_len64 g
theorem RD.gd {K : PySem.W.Frag} {U : List Int} {H : Hp} {d : Addr} {rs : List (Int × Rw)} (h : RD K U H d rs) : Gd U rs := by
  obtain ⟨_, _, _, g⟩ := h
  exact g
theorem isSome_has {fs : List (Int × Str)} {n : Int} : (valV (ents fs) (.inl n)).isSome = has fs n := by
  rw [valV_ents]
  unfold has
  cases look fs n <;> rfl
theorem at_one (v w : V) (r : List V) : atI (v :: w :: r) 1 = some w := by
  unfold atI
  rw [List.length_cons, List.length_cons, ix_one (by omega)]
  rfl

theorem unlock {H H' : Hp} {d D : Addr} {od : Obj} {u : HO} (hd : H d = some u) (hD : upd H d (.frz od u) D = none) (x : Ext D (upd H d (.frz od u)) H') : Same H (upd H' d u) := by
  intro w o e
  by_cases hw : w = d
  · subst hw
    rw [hd] at e
    cases e
    exact upd_same
  · refine (upd_ne hw).trans (x w o ?_ ((upd_ne hw).trans e))
    intro z
    subst z
    rw [upd_ne hw, e] at hD
    cases hD
end My
set_option Elab.async false
set_option maxRecDepth 100000
set_option maxHeartbeats 4000000
set_option linter.unusedVariables false
namespace My
open PySem PySem.Spec PyProof.Rows L2 L2.DX

theorem ifS_join {c : Bool} {te : TE} {g : TG} {D : Ends} {σ : L2.St} {H : Hp} (Pv : L2.St → Hp → Prop) (hP : ∀ σ G, Pv σ G → D.nx σ G)
    (ha : c = true → ∀ D' : Ends, (∀ σ G, Pv σ G → D'.nx σ G) → tAsg te g D' σ H) (hb : c = false → Pv σ H) : if c = true then tAsg te g D σ H else tNext D σ H := by
  cases c with
  | true => rw [if_pos rfl]; exact ha rfl D hP
  | false => rw [if_neg (by simp)]; exact hP _ _ (hb rfl)
def sameRow : Rw := ("same", 7)
theorem vr_same {ds : List (Int × Rw)} (h : VR ds) : VR (ds.map fun p => (p.1, sameRow)) := fun q hq => by
  obtain ⟨p, hp, rfl⟩ := List.mem_map.mp hq
  refine ⟨(h p hp).1, by show nameOk "same" = true; decide +kernel, ?_⟩
  show 1 - 10 ^ 40 ≤ (7 : Int) ∧ (7 : Int) ≤ 10 ^ 40 - 1
  constructor <;> decide
theorem ks_same (ds : List (Int × Rw)) : ks (ds.map fun p => (p.1, sameRow)) = ks ds := ks_map (fun _ _ => sameRow) ds

theorem mk_of_items {K : PySem.W.Frag} {C : Addr} {σ : L2.St} {H : Hp} {Q : VK} {te : TE} {f : Addr} {fs : List (Int × Str)} (he : ∀ R : VK, R (.ref f) H → te σ H R) (hf : FD (below 14) H f fs) (ne : NE fs)
    (k : ∀ z H', Same H H' → FS C (below 14) H' z fs → Q (.ref z) H') : tMake C (spInit K C) [] E0 (tCons (LiI.tListItems te) tNil) σ H Q := by
  refine he _ ⟨f, ents fs, rfl, hf.1, fun H4 p ts s4 hp hts hpn hp4 hpair => ?_⟩
  intro z dz hz hdz hzn
  have sm := made_same (C := C) (fs := []) hz hdz hzn
  have el : ElAll K H4 (ts.map V.ref) fs := elAll_of hpair hf.2 ne
  refine ⟨z, dz, p, ts.map V.ref, fs, rfl, upd_same, .inl (sm _ _ hp4), el.same sm, hf.2.len, fun d2 H6 s6 hz6 hd6 => ⟨rfl, ?_⟩⟩
  have s46 : Same H4 H6 := by
    intro b o e2
    have q := s6 b o ((del_at (ne_of_none e2 hz)).trans (sm _ _ e2))
    rw [del_at (ne_of_none e2 hz)] at q
    exact q
  rw [firsts_self hf.2.1] at hd6
  exact k z H6 (Same.trans s4 s46) ⟨dz, d2, hz6, hd6, hf.2⟩
theorem Good.wide {m : Nat} {es : List (Int × Str)} (g : Good (below m) es) (h : m ≤ 14) : Good (below 14) es := g.widen h
end My
set_option Elab.async false
set_option maxRecDepth 100000
set_option maxHeartbeats 4000000
set_option linter.unusedVariables false
namespace My
open PySem
open Sem (wp)

theorem cut_cons {F : Frame} {r : List Frame} (h : splitAtGen (F :: r) = none) : splitAtGen r = none ∧ ∀ g k l c p, F ≠ .gen g k l c p := by
  cases F with
  | gen g k l c p => cases h
  | ret k h1 g l c p kp =>
    refine ⟨?_, fun _ _ _ _ _ z => by cases z⟩
    cases q : splitAtGen r with
    | none => rfl
    | some x => simp only [splitAtGen, q, Option.map_some] at h; cases h
theorem cut_ret {k h1 g l c p kp} {r : List Frame} (h : splitAtGen r = none) : splitAtGen (.ret k h1 g l c p kp :: r) = none := by
  simp only [splitAtGen, h, Option.map_none]
theorem cut_app : ∀ {a b : List Frame}, splitAtGen a = none → splitAtGen b = none → splitAtGen (a ++ b) = none
  | [], b, _, h => h
  | .gen .. :: a, b, h, _ => by cases h
  | .ret k h1 g l c p kp :: a, b, h, h2 => by
    show splitAtGen (.ret k h1 g l c p kp :: (a ++ b)) = none
    exact cut_ret (cut_app (cut_cons h).1 h2)


def noWake : Resume → Sem Fin := fun _ => .unsupported "asleep"
theorem noWake_no {M : Model} {Γ : Ctx} {p : Pos} {r : Resume} {fs : List Frame} {s s' : Shared} {e : End} (h : Runs M Γ p (noWake r) fs s e s') : False := by
  have key : ∀ {t : Sem Fin} {fs : List Frame} {Γ : Ctx} {p : Pos} {s s' : Shared} {e : End}, Runs M Γ p t fs s e s' → t = .unsupported "asleep" → False := by
    intro t fs Γ p s s' e h
    induction h <;> intro q <;> first | (cases q; done) | (rename_i ih _; exact ih q) | (rename_i ih; exact ih q) | (rename_i ih _ _ ; exact ih q)
  exact key h rfl

abbrev Sleepers := Nat → Option GenState
structure Hid (D : Sleepers) (G : Array GenState) : Prop where
  hid : ∀ i S, D i = some S → ∃ k l c p fs cl, S = .suspended k l c p fs cl ∧ G[i]? = some (.suspended noWake l c p fs cl)
  own : ∀ i k l c p fs cl, D i = none → G[i]? = some (.suspended k l c p fs cl) → splitAtGen fs = none
def wakeAll (D : Sleepers) (G : Array GenState) : Array GenState := G.mapIdx fun i x => (D i).getD x
def unhid (D : Sleepers) (s : Shared) : Shared := { s with gens := wakeAll D s.gens }
theorem wakeAll_get (D : Sleepers) (G : Array GenState) (i : Nat) : (wakeAll D G)[i]? = G[i]?.map fun x => (D i).getD x := by
  simp [wakeAll]
theorem wakeAll_size (D : Sleepers) (G : Array GenState) : (wakeAll D G).size = G.size := by simp [wakeAll]
theorem Hid.none_at {D : Sleepers} {G : Array GenState} {g : Nat} {x : GenState} (h : Hid D G) (e : G[g]? = some x) (hx : ∀ l c p fs cl, x ≠ .suspended noWake l c p fs cl) : D g = none := by
  cases q : D g with
  | none => rfl
  | some S =>
    obtain ⟨k, l, c, p, fs, cl, _, e2⟩ := h.hid g S q
    rw [e] at e2
    exact absurd (Option.some.inj e2) (hx _ _ _ _ _)
theorem wake_at {D : Sleepers} {G : Array GenState} {g : Nat} {x : GenState} (e : G[g]? = some x) (n : D g = none) : (wakeAll D G)[g]? = some x := by
  rw [wakeAll_get, e, n]; rfl
theorem unhid_setGen {D : Sleepers} {s : Shared} {g : Nat} {x : GenState} (n : D g = none) : unhid D (s.setGen g x) = (unhid D s).setGen g x := by
  unfold unhid Shared.setGen
  congr 1
  apply Array.ext_getElem?
  intro i
  rw [wakeAll_get]
  by_cases h : g = i
  · subst h
    simp only [Array.getElem?_setIfInBounds_self, wakeAll_size]
    by_cases hl : g < s.gens.size
    · simp [hl, n]
    · simp [hl]
  · rw [Array.getElem?_setIfInBounds_ne h, Array.getElem?_setIfInBounds_ne h, wakeAll_get]
theorem Hid.setGen {D : Sleepers} {s : Shared} {g : Nat} {x : GenState} (h : Hid D s.gens) (n : D g = none) (hx : ∀ k l c p fs cl, x = .suspended k l c p fs cl → splitAtGen fs = none) : Hid D (s.setGen g x).gens := by
  have other : ∀ i, g ≠ i → (s.setGen g x).gens[i]? = s.gens[i]? := fun i hi => Array.getElem?_setIfInBounds_ne hi
  refine ⟨fun i S e => ?_, fun i k l c p fs cl e q => ?_⟩
  · have hi : g ≠ i := fun z => by rw [z, e] at n; cases n
    rw [other i hi]; exact h.hid i S e
  · by_cases hi : g = i
    · subst hi
      have q2 : (s.gens.setIfInBounds g x)[g]? = some (.suspended k l c p fs cl) := q
      rw [Array.getElem?_setIfInBounds] at q2
      simp only [if_true] at q2
      split at q2
      · exact hx _ _ _ _ _ _ (Option.some.inj q2)
      · cases q2
    · rw [other i hi] at q; exact h.own i k l c p fs cl e q
theorem Hid.small {D : Sleepers} {G : Array GenState} (h : Hid D G) : D G.size = none := by
  cases q : D G.size with
  | none => rfl
  | some S =>
    obtain ⟨k, l, c, p, fs, cl, _, e⟩ := h.hid _ S q
    simp at e
theorem unhid_push {D : Sleepers} {s : Shared} {x : GenState} (h : Hid D s.gens) : unhid D { s with gens := s.gens.push x } = { unhid D s with gens := (unhid D s).gens.push x } := by
  unfold unhid
  congr 1
  show wakeAll D (s.gens.push x) = (wakeAll D s.gens).push x
  unfold wakeAll
  rw [Array.mapIdx_push, h.small]; rfl
theorem Hid.push {D : Sleepers} {G : Array GenState} {c : Code} (h : Hid D G) : Hid D (G.push (.fresh c)) := by
  refine ⟨fun i S e => ?_, fun i k l c' p fs cl e q => ?_⟩
  · obtain ⟨k, l, c', p, fs, cl, e1, e2⟩ := h.hid i S e
    refine ⟨k, l, c', p, fs, cl, e1, ?_⟩
    have hl := (Array.getElem?_eq_some_iff.mp e2).1
    rw [Array.getElem?_push_lt hl, ← Array.getElem?_eq_getElem hl]; exact e2
  · rw [Array.getElem?_push] at q
    split at q
    · cases q
    · exact h.own i k l c' p fs cl e q
def EndFree : End → Prop
  | .susp _ _ _ _ _ _ fs => splitAtGen fs = none
  | .ret _ => True
theorem endFree_gen {e : End} (h : EndFree e) : ∀ k l c p fs cl, e.genState = .suspended k l c p fs cl → splitAtGen fs = none := by
  intro k l c p fs cl q
  cases e with
  | ret r => cases q
  | susp v g l0 k0 c0 p0 fs0 =>
    cases q
    exact h
section
variable {M : Model} {D : Sleepers}
theorem runs_unhid {Γ : Ctx} {p : Pos} {t : Sem Fin} {fs : List Frame} {s s' : Shared} {e : End} (h : Runs M Γ p t fs s e s') : Hid D s.gens → splitAtGen fs = none → Hid D s'.gens ∧ EndFree e ∧ Runs M Γ p t fs (unhid D s) e (unhid D s') := by
  induction h with
  | done => intro o _; exact ⟨o, trivial, .done⟩
  | raise => intro o _; exact ⟨o, trivial, .raise⟩
  | again q _ ih => intro o c; obtain ⟨a, b, r⟩ := ih o c; exact ⟨a, b, .again q r⟩
  | rule _ ih => intro o c; obtain ⟨a, b, r⟩ := ih o c; exact ⟨a, b, .rule r⟩
  | «at» _ ih => intro o c; obtain ⟨a, b, r⟩ := ih o c; exact ⟨a, b, .at r⟩
  | load q _ ih => intro o c; obtain ⟨a, b, r⟩ := ih o c; exact ⟨a, b, .load q r⟩
  | update q _ ih => intro o c; obtain ⟨a, b, r⟩ := ih o c; exact ⟨a, b, .update q r⟩
  | loadIfAlive _ ih => intro o c; obtain ⟨a, b, r⟩ := ih o c; exact ⟨a, b, .loadIfAlive r⟩
  | point _ ih => intro o c; obtain ⟨a, b, r⟩ := ih o c; exact ⟨a, b, .point r⟩
  | alloc _ ih => intro o c; obtain ⟨a, b, r⟩ := ih o c; exact ⟨a, b, .alloc r⟩
  | fresh _ ih => intro o c; obtain ⟨a, b, r⟩ := ih o c; exact ⟨a, b, .fresh r⟩
  | ask _ ih => intro o c; obtain ⟨a, b, r⟩ := ih o c; exact ⟨a, b, .ask r⟩
  | choose q _ ih => intro o c; obtain ⟨a, b, r⟩ := ih o c; exact ⟨a, b, .choose q r⟩
  | os _ ih => intro o c; obtain ⟨a, b, r⟩ := ih o c; exact ⟨a, b, .os r⟩
  | handled _ ih => intro o c; obtain ⟨a, b, r⟩ := ih o c; exact ⟨a, b, .handled r⟩
  | stack _ ih => intro o c; obtain ⟨a, b, r⟩ := ih o c; exact ⟨a, b, .stack r⟩
  | thread _ ih => intro o c; obtain ⟨a, b, r⟩ := ih o c; exact ⟨a, b, .thread r⟩
  | yield => intro o _; exact ⟨o, rfl, .yield⟩
  | @genState g st Γ p k s e s' q _ ih =>
    intro o c; obtain ⟨a, b, r⟩ := ih o c
    refine ⟨a, b, ?_⟩
    cases n : D g with
    | none => exact .genState (wake_at q n) r
    | some S =>
      obtain ⟨k', l', c', p', fs', cl', e1, e2⟩ := o.hid g S n
      have es : st.seen = S.seen := by
        rw [q] at e2
        rw [Option.some.inj e2, e1]; rfl
      rw [es] at r
      refine .genState ?_ r
      show (wakeAll D s.gens)[g]? = some S
      rw [wakeAll_get, q, n]; rfl
  | newGen _ ih =>
    intro o c; obtain ⟨a, b, r⟩ := ih o.push c
    refine ⟨a, b, .newGen ?_⟩
    rw [unhid_push o] at r
    show Runs M _ _ _ _ { unhid D _ with gens := (unhid D _).gens.push _ } _ _
    rw [show (unhid D _).gens.size = _ from wakeAll_size D _]
    exact r
  | call _ _ ih1 ih2 =>
    intro o c
    obtain ⟨a1, _, r1⟩ := ih1 o rfl
    obtain ⟨a2, b2, r2⟩ := ih2 a1 c
    exact ⟨a2, b2, .call r1 r2⟩
  | callSusp _ ih =>
    intro o c
    obtain ⟨a1, b1, r1⟩ := ih o rfl
    exact ⟨a1, cut_app b1 (cut_ret rfl), .callSusp r1⟩
  | resumeFresh q _ z _ ih1 ih2 =>
    intro o c
    have n := o.none_at q (fun _ _ _ _ _ y => by cases y)
    obtain ⟨a1, b1, r1⟩ := ih1 (o.setGen n fun _ _ _ _ _ _ y => by cases y) rfl
    obtain ⟨a2, b2, r2⟩ := ih2 (a1.setGen n (endFree_gen b1)) c
    rw [unhid_setGen n] at r1 r2
    exact ⟨a2, b2, .resumeFresh (wake_at q n) r1 z r2⟩
  | @resumeSuspended Γ p g r l k s k₀ l₀ c₀ p₀ fs cl e₁ s₁ e s' q x z _ ih1 ih2 =>
    intro o c
    have n : D g = none := by
      cases n : D g with
      | none => rfl
      | some S =>
        obtain ⟨k', l', c', p', fs', cl', e1, e2⟩ := o.hid g S n
        rw [q] at e2
        cases e2
        exact (noWake_no x).elim
    obtain ⟨a1, b1, r1⟩ := ih1 (o.setGen n fun _ _ _ _ _ _ y => by cases y) (o.own g _ _ _ _ _ _ n q)
    obtain ⟨a2, b2, r2⟩ := ih2 (a1.setGen n (endFree_gen b1)) c
    rw [unhid_setGen n] at r1 r2
    exact ⟨a2, b2, .resumeSuspended (wake_at q n) r1 z r2⟩
  | resumeJustStarted q v _ ih =>
    intro o c
    have n := o.none_at q (fun _ _ _ _ _ y => by cases y)
    obtain ⟨a, b, r⟩ := ih o c
    exact ⟨a, b, .resumeJustStarted (wake_at q n) v r⟩
  | resumeThrowFresh q _ ih =>
    intro o c
    have n := o.none_at q (fun _ _ _ _ _ y => by cases y)
    obtain ⟨a, b, r⟩ := ih (o.setGen n fun _ _ _ _ _ _ y => by cases y) c
    rw [unhid_setGen n] at r
    exact ⟨a, b, .resumeThrowFresh (wake_at q n) r⟩
  | resumeRunning q _ ih =>
    intro o c
    have n := o.none_at q (fun _ _ _ _ _ y => by cases y)
    obtain ⟨a, b, r⟩ := ih o c
    exact ⟨a, b, .resumeRunning (wake_at q n) r⟩
  | resumeFinished q _ ih =>
    intro o c
    have n := o.none_at q (fun _ _ _ _ _ y => by cases y)
    obtain ⟨a, b, r⟩ := ih o c
    exact ⟨a, b, .resumeFinished (wake_at q n) r⟩
  | segRet _ _ ih1 ih2 =>
    intro o c
    obtain ⟨a1, _, r1⟩ := ih1 o rfl
    obtain ⟨a2, b2, r2⟩ := ih2 a1 (cut_cons c).1
    exact ⟨a2, b2, .segRet r1 r2⟩
  | segGen _ _ _ _ => intro o c; exact absurd rfl ((cut_cons c).2 _ _ _ _ _)
  | segSuspOut q _ ih =>
    intro o c
    obtain ⟨a1, b1, r1⟩ := ih o rfl
    exact ⟨a1, cut_app b1 c, .segSuspOut q r1⟩
  | segSuspGen q _ _ _ _ _ => intro o c; rw [c] at q; cases q

theorem wakes_unhid {Γ : Ctx} {p : Pos} {g : Nat} {r : Resume} {s s' : Shared} {res : GenResult} (h : Wakes M Γ p g r s res s') (o : Hid D s.gens) : Hid D s'.gens ∧ Wakes M Γ p g r (unhid D s) res (unhid D s') := by
  cases q : s.gens[g]? with
  | none => unfold Wakes at h; rw [q] at h; exact h.elim
  | some x =>
    have n : D g = none := by
      cases n : D g with
      | none => rfl
      | some S =>
        obtain ⟨k', l', c', p', fs', cl', e1, e2⟩ := o.hid g S n
        unfold Wakes at h
        rw [e2] at h
        obtain ⟨e₁, s₁, hr, _⟩ := h
        exact (noWake_no hr).elim
    have w := wake_at q n
    unfold Wakes at h ⊢
    rw [q] at h
    rw [show (unhid D s).gens[g]? = some x from w]
    cases x with
    | fresh c =>
      cases r with
      | send v =>
        cases v with
        | none =>
          obtain ⟨e₁, s₁, hr, z, e1, e2⟩ := h
          obtain ⟨a, b, y⟩ := runs_unhid hr (o.setGen n fun _ _ _ _ _ _ y => by cases y) rfl
          rw [unhid_setGen n] at y
          subst e2
          exact ⟨a.setGen n (endFree_gen b), e₁, unhid D s₁, y, z, e1, unhid_setGen n⟩
        | _ => obtain ⟨e1, e2⟩ := h; subst e2; exact ⟨o, e1, rfl⟩
      | throw v =>
        obtain ⟨e1, e2⟩ := h
        subst e2
        exact ⟨o.setGen n (fun _ _ _ _ _ _ y => by cases y), e1, unhid_setGen n⟩
    | suspended k l c p' fs cl =>
      obtain ⟨e₁, s₁, hr, z, e1, e2⟩ := h
      obtain ⟨a, b, y⟩ := runs_unhid hr (o.setGen n fun _ _ _ _ _ _ y => by cases y) (o.own g _ _ _ _ _ _ n q)
      rw [unhid_setGen n] at y
      subst e2
      exact ⟨a.setGen n (endFree_gen b), e₁, unhid D s₁, y, z, e1, unhid_setGen n⟩
    | running => obtain ⟨e1, e2⟩ := h; subst e2; exact ⟨o, e1, rfl⟩
    | finished => obtain ⟨e1, e2⟩ := h; subst e2; exact ⟨o, e1, rfl⟩
theorem wp_unhid {α : Type} {Γ : Ctx} (t : Sem α) : ∀ {Q : α → Pos → Shared → Prop} {E : Value → Pos → Shared → Prop} {p : Pos} {s : Shared}, Hid D s.gens → wp M Γ t Q E p s →
    wp M Γ t (fun a p' s' => ∃ s1, s' = unhid D s1 ∧ Hid D s1.gens ∧ Q a p' s1) (fun e p' s' => ∃ s1, s' = unhid D s1 ∧ Hid D s1.gens ∧ E e p' s1) p (unhid D s) := by
  induction t with
  | pure a => intro Q E p s o h; exact ⟨s, rfl, o, h⟩
  | raise e => intro Q E p s o h; exact ⟨s, rfl, o, h⟩
  | unsupported _ => intro Q E p s _ h; exact h
  | finish _ => intro Q E p s _ h; exact h
  | rule _ k ih => intro Q E p s o h; exact ih () o h
  | «at» p' k ih => intro Q E p s o h; exact ih () o h
  | load a _ k ih => intro Q E p s o h; obtain ⟨x, hx, h⟩ := h; exact ⟨x, hx, ih x o h⟩
  | update a _ f k ih => intro Q E p s o h; exact ⟨h.1, ih () (s := { s with heap := s.heap.update a f }) o h.2⟩
  | loadIfAlive a k ih => intro Q E p s o h; exact ih _ o h
  | point _ k ih => intro Q E p s o h; exact ih () o h
  | register _ _ => intro Q E p s _ h; exact h
  | alloc x k ih => intro Q E p s o h; exact ih _ (s := { s with heap := s.heap.push x }) o h
  | fresh k ih => intro Q E p s o h; exact ih _ (s := { s with toks := s.toks + 1 }) o h
  | ask k ih => intro Q E p s o h; exact ih _ o h
  | choose src m k ih => intro Q E p s o h; exact ⟨h.1, ih _ (s := { s with drawn := s.drawn.bump src }) o h.2⟩
  | os q _ k ih => intro Q E p s o h; exact ih _ (s := { s with os := (Os.step s.os q).1 }) o h
  | call c hd _ _ k ih =>
    intro Q E p s o h
    obtain ⟨r, s', hr, h⟩ := h
    obtain ⟨a, _, b⟩ := runs_unhid hr o rfl
    exact ⟨r, unhid D s', b, ih r a h⟩
  | handled own k ih => intro Q E p s o h; exact ih _ o h
  | genState g k ih =>
    intro Q E p s o h
    obtain ⟨st, hs, h⟩ := h
    have q := ih _ o h
    cases n : D g with
    | none => exact ⟨st, wake_at hs n, q⟩
    | some S =>
      obtain ⟨k', l', c', p', fs', cl', e1, e2⟩ := o.hid g S n
      have es : st.seen = S.seen := by
        rw [hs] at e2
        rw [Option.some.inj e2, e1]; rfl
      rw [es] at q
      refine ⟨S, ?_, q⟩
      show (wakeAll D s.gens)[g]? = some S
      rw [wakeAll_get, hs, n]; rfl
  | newGen c k ih =>
    intro Q E p s o h
    have q := ih _ (s := { s with gens := s.gens.push (.fresh c) }) o.push h
    rw [unhid_push o] at q
    show wp M Γ (k (unhid D s).gens.size) _ _ p { unhid D s with gens := (unhid D s).gens.push (.fresh c) }
    rw [show (unhid D s).gens.size = s.gens.size from wakeAll_size D _]
    exact q
  | resume g r _ k ih =>
    intro Q E p s o h
    obtain ⟨res, s', hw, h⟩ := h
    obtain ⟨a, b⟩ := wakes_unhid hw o
    exact ⟨res, unhid D s', b, ih res a h⟩
  | yield _ _ _ _ => intro Q E p s _ h; exact h
  | stack k ih => intro Q E p s o h; exact ih _ o h
  | fork _ _ => intro Q E p s _ h; exact h
  | thread k ih => intro Q E p s o h; exact ih _ o h
  | await _ _ _ _ _ => intro Q E p s _ h; exact h
end


def sleepsOf (G : Array GenState) : Sleepers := fun i => match G[i]? with
  | some (.suspended k l c p fs cl) => some (.suspended k l c p fs cl)
  | _ => none
def hush : GenState → GenState
  | .suspended _ l c p fs cl => .suspended noWake l c p fs cl
  | x => x

def hid (s : Shared) : Shared := { s with gens := s.gens.map hush }
theorem sleeps_some {G : Array GenState} {i : Nat} {S : GenState} (h : sleepsOf G i = some S) : ∃ k l c p fs cl, S = .suspended k l c p fs cl ∧ G[i]? = some (.suspended k l c p fs cl) := by
  unfold sleepsOf at h
  split at h
  · rename_i k l c p fs cl e
    cases h
    exact ⟨k, l, c, p, fs, cl, rfl, e⟩
  · cases h
theorem hid_ok (s : Shared) : Hid (sleepsOf s.gens) (hid s).gens := by
  refine ⟨fun i S e => ?_, fun i k l c p fs cl e q => ?_⟩
  · obtain ⟨k, l, c, p, fs, cl, e1, e2⟩ := sleeps_some e
    refine ⟨k, l, c, p, fs, cl, e1, ?_⟩
    show (s.gens.map hush)[i]? = _
    rw [Array.getElem?_map, e2]; rfl
  · have q2 : (s.gens.map hush)[i]? = some (.suspended k l c p fs cl) := q
    rw [Array.getElem?_map] at q2
    cases z : s.gens[i]? with
    | none => rw [z] at q2; cases q2
    | some x =>
      rw [z] at q2
      cases x with
      | suspended k1 l1 c1 p1 f1 cl1 =>
        unfold sleepsOf at e
        rw [z] at e
        cases e
      | _ => cases q2
theorem unhid_hid (s : Shared) : unhid (sleepsOf s.gens) (hid s) = s := by
  unfold unhid hid
  have e : wakeAll (sleepsOf s.gens) (s.gens.map hush) = s.gens := by
    apply Array.ext_getElem?
    intro i
    rw [wakeAll_get, Array.getElem?_map]
    cases z : s.gens[i]? with
    | none => rfl
    | some x => cases x <;> simp [sleepsOf, z, hush]
  show ({ s with gens := wakeAll (sleepsOf s.gens) (s.gens.map hush) } : Shared) = s
  rw [e]

theorem wpAny_hid {α : Type} {M : Model} {A : Around} {t : Sem α} {Q : α → Shared → Prop} {E : Value → Shared → Prop} {s : Shared} (h : wpAny M A t Q E (hid s)) :
    wpAny M A t (fun a s' => ∃ s1, s' = unhid (sleepsOf s.gens) s1 ∧ Hid (sleepsOf s.gens) s1.gens ∧ Q a s1) (fun e s' => ∃ s1, s' = unhid (sleepsOf s.gens) s1 ∧ Hid (sleepsOf s.gens) s1.gens ∧ E e s1) s := by
  intro Γ p hΓ
  have q := wp_unhid (D := sleepsOf s.gens) t (hid_ok s) (h Γ p hΓ)
  rw [unhid_hid] at q
  exact q
theorem unhid_kept {s s1 : Shared} {g : Nat} {k : Resume → Sem Fin} {l : List Value} {c : Code} {p : Pos} {fs : List Frame} {cl : Bool} (o : Hid (sleepsOf s.gens) s1.gens) (e : s.gens[g]? = some (.suspended k l c p fs cl)) :
    (unhid (sleepsOf s.gens) s1).gens[g]? = some (.suspended k l c p fs cl) := by
  have d : sleepsOf s.gens g = some (.suspended k l c p fs cl) := by unfold sleepsOf; rw [e]
  obtain ⟨_, _, _, _, _, _, _, e2⟩ := o.hid g _ d
  show (wakeAll (sleepsOf s.gens) s1.gens)[g]? = _
  rw [wakeAll_get, e2, d]; rfl
open PyProof.Rows in
theorem bare_hid {s : Shared} (h : AllBare s.gens) : AllBare (hid s).gens := by
  intro y hy
  obtain ⟨x, hx, rfl⟩ := Array.mem_map.mp hy
  have := h x hx
  cases x <;> exact this
open PyProof.Rows in
theorem bare_unhid {s s1 : Shared} (h : AllBare s.gens) (h1 : AllBare s1.gens) : AllBare (unhid (sleepsOf s.gens) s1).gens := by
  intro y hy
  obtain ⟨i, e⟩ := Array.mem_iff_getElem?.mp hy
  have e : (wakeAll (sleepsOf s.gens) s1.gens)[i]? = some y := e
  rw [wakeAll_get] at e
  cases z : s1.gens[i]? with
  | none => rw [z] at e; cases e
  | some x =>
    rw [z] at e
    have e' := Option.some.inj e
    cases d : sleepsOf s.gens i with
    | none =>
      have e' : (sleepsOf s.gens i).getD x = y := e'
      rw [d] at e'
      have e' : x = y := e'
      subst e'
      exact h1 x (Array.mem_of_getElem? z)
    | some S =>
      have e' : (sleepsOf s.gens i).getD x = y := e'
      rw [d] at e'
      have e' : S = y := e'
      subst e'
      obtain ⟨k, l, c, p, fs, cl, e1, e2⟩ := sleeps_some d
      rw [e1]
      exact h _ (Array.mem_of_getElem? e2)
end My
set_option Elab.async false
set_option maxRecDepth 100000
set_option maxHeartbeats 4000000
set_option linter.unusedVariables false
namespace My
open PySem PySem.Spec PyProof.Rows L2 GenW
open Sem (wp)



abbrev Stop := End → Shared → Prop
def Piece (M : Model) (A : Around) (Φ : Stop) (c : Code) (t : Sem PySem.Fin) (fs : List Frame) (s : Shared) : Prop :=
  ∀ Γ p, Γ.code = c → Γ.Woken A → ∃ e s', Runs M Γ p t fs s e s' ∧ Φ e s'
section
variable {M : Model} {A : Around} {Φ : Stop} {c : Code} {fs : List Frame} {s : Shared}
theorem pc_wrap {α : Type} {m : Sem α} {K : α → Sem PySem.Fin} {J : Value → Sem PySem.Fin} {gd lv}
    (h : wpAny M (A.over c fs) m (fun a s' => Piece M A Φ c (K a) fs s') (fun x s' => Piece M A Φ c (J x) fs s') s) : Piece M A Φ c (m.wrap K J gd lv) fs s := by
  intro Γ p hc hw
  subst hc
  exact runs_wrap_of_wp K J gd lv m (h (Γ.over fs) p (hw.over fs)) (fun _ p' _ y => y Γ p' rfl hw) fun _ p' _ y => y Γ p' rfl hw
theorem pc_bind {α : Type} {m : Sem α} {K : α → Sem PySem.Fin}
    (h : wpAny M (A.over c fs) m (fun a s' => Piece M A Φ c (K a) fs s') (fun x s' => Piece M A Φ c (.raise x) fs s') s) : Piece M A Φ c (m >>= K) fs s := by
  rw [Sem.bind_eq_wrap']
  exact pc_wrap h
theorem pc_bindW {α β : Type} {m : Sem α} {f : α → Sem β} {K : β → Sem PySem.Fin} {J : Value → Sem PySem.Fin} {gd lv}
    (h : wpAny M (A.over c fs) m (fun a s' => Piece M A Φ c ((f a).wrap K J gd lv) fs s') (fun x s' => Piece M A Φ c (J x) fs s') s) : Piece M A Φ c ((m >>= f).wrap K J gd lv) fs s := by
  rw [Sem.bind_eq_wrap', Sem.wrap_wrap]
  exact pc_wrap h
theorem pc_at {q : Pos} {k : Unit → Sem PySem.Fin} (h : Piece M A Φ c (k ()) fs s) : Piece M A Φ c (.at q k) fs s :=
  pc_wrap (m := standAt q) (K := k) (J := .raise) (gd := id) (lv := id) (wpAny_standAt h)
theorem pc_call {c' : Code} {h g l} {k : Result → Sem PySem.Fin} (hc : ∀ p, Piece M A Φ c' (M.den c') (.ret k h g l c p [] :: fs) s) : Piece M A Φ c (.call c' h g l k) fs s := by
  intro Γ p e hw
  subst e
  obtain ⟨e, s', r, z⟩ := hc p (Γ.goto c') p rfl (hw.goto c')
  exact ⟨e, s', runs_call_seg r, z⟩
theorem pc_leaf {k h g l c₁ p₁ kp} (r : Result) (hk : Piece M A Φ c₁ (k r) fs s) : Piece M A Φ c (leafOf r) (.ret k h g l c₁ p₁ kp :: fs) s := by
  intro Γ p e hw
  subst e
  obtain ⟨e, s', q, z⟩ := hk (Γ.goto c₁) p₁ rfl (hw.goto c₁)
  exact ⟨e, s', Runs.pop r q, z⟩
theorem pc_again {c' : Code} (hq : c'.quiet = true) (hc : Piece M A Φ c' (M.den c') fs s) : Piece M A Φ c (.pure (.again c')) fs s := by
  intro Γ p e hw
  subst e
  obtain ⟨e, s', q, z⟩ := hc (Γ.goto c') p rfl (hw.goto c')
  exact ⟨e, s', Runs.head (c₁ := c') (fun _ _ x => .again hq x) q, z⟩
theorem pc_end (r : Result) (h : Φ (.ret r) s) : Piece M A Φ c (leafOf r) [] s := by
  intro Γ p e _
  exact ⟨.ret r, s, Runs.leaf r, h⟩
theorem pc_yield {v g l} {k : Resume → Sem PySem.Fin} (hf : splitAtGen fs = none) (h : ∀ p, Φ (.susp v g l k c p fs) s) : Piece M A Φ c (.yield v g l k) fs s := by
  intro Γ p e _
  subst e
  exact ⟨_, s, Runs.yield' fs hf, h p⟩
theorem pc_mono {Ψ : Stop} {t : Sem PySem.Fin} (h : Piece M A Φ c t fs s) (hq : ∀ e s', Φ e s' → Ψ e s') : Piece M A Ψ c t fs s := by
  intro Γ p e hw
  obtain ⟨e, s', q, z⟩ := h Γ p e hw
  exact ⟨e, s', q, hq _ _ z⟩
end

def GoesTo (M : Model) (A : Around) (Φ : Stop) (gs : GenState) (s : Shared) : Prop := match gs with
  | .fresh c => Piece M A Φ c (M.den c) [] s
  | .suspended k _ c _ fs _ => Piece M A Φ c (k (.send .none)) fs s
  | _ => False
theorem wpAny_resumeE {M : Model} {A : Around} {Φ : Stop} {E : Value → Shared → Prop} {s : Shared} {g : Nat} {gs : GenState} {l : List Value} {α : Type} {k : GenResult → Sem α} {Q : α → Shared → Prop} (hg : s.gens[g]? = some gs)
    (hgo : GoesTo M A Φ gs (s.setGen g .running)) (hq : ∀ e s₁, Φ e s₁ → e.quiet = true)
    (hk : ∀ e s₁, Φ e s₁ → wpAny M A (k e.result) Q E (s₁.setGen g e.genState)) : wpAny M A (.resume g (.send .none) l k) Q E s := by
  intro Γ p hΓ
  rw [Sem.wp_resume]
  cases gs with
  | fresh c =>
    obtain ⟨e, s₁, r, z⟩ := hgo (Γ.wake c p) p rfl (hΓ.wake c p)
    exact ⟨_, _, by unfold Wakes; rw [hg]; exact ⟨e, s₁, r, hq _ _ z, rfl, rfl⟩, hk e s₁ z Γ p hΓ⟩
  | suspended k₀ l₀ c₀ p₀ fs₀ cl =>
    obtain ⟨e, s₁, r, z⟩ := hgo (Γ.wake c₀ p) p₀ rfl (hΓ.wake c₀ p)
    exact ⟨_, _, by unfold Wakes; rw [hg]; exact ⟨e, s₁, r, hq _ _ z, rfl, rfl⟩, hk e s₁ z Γ p hΓ⟩
  | running => exact hgo.elim
  | finished => exact hgo.elim

theorem next_piece {P : Program} {w : World} {A : Around} {E : Value → Shared → Prop} {s : Shared} {a : Addr} {g : Nat} {gs : GenState} {Φ : Stop} {Q : Option Value → Shared → Prop} (hh : A.handled = none) (hl : s.heap.NoLimit) (hroom : A.depth < recursionLimit)
    (hg : s.heap.IsGen a g) (hgs : s.gens[g]? = some gs) (hgo : GoesTo (model P w) A.in1 Φ gs (s.setGen g .running))
    (hq : ∀ e s₁, Φ e s₁ → e.quiet = true) (hr : ∀ r s₁, Φ (.ret r) s₁ → r = .ok (.ret .none))
    (hP : ∀ s₁, Φ (.ret (.ok (.ret .none))) s₁ → ∀ h', (∀ b o, s₁.heap.get? b = some o → h'.get? b = some o) → Q none { s₁.setGen g .finished with heap := h' })
    (hY : ∀ v gd l k c p fs s₁, Φ (.susp v gd l k c p fs) s₁ → Q (some v) (s₁.setGen g (End.susp v gd l k c p fs).genState)) : wpAny (model P w) A (pyNext (.ref a)) Q E s := by
  unfold pyNext
  refine wpAny_bind (wpAny_attempt (wpAny_callSpecial?_slot (name := Str.ofString "__next__") hg.typeIs slot_gen_next
    (wpAny_call_entry slot_gen_next hg.typeIs entry_gen_next ?_ (args_gen_next _))))
  show wpAny _ A.in1 (Builtin.Generator.genWake (.ref a) (.send .none)) _ _ s
  unfold Builtin.Generator.genWake
  refine wpAny_bind (wpAny_holding (wpAny_genNumber hg (wpAny_bind (wpAny_genState hgs ?_))))
  cases gs with
  | running => exact hgo.elim
  | finished => exact hgo.elim
  | _ =>
    refine wpAny_bind (wpAny_roomToWake hl hroom ?_)
    show wpAny _ A.in1 (.resume g (.send .none) [] _) _ _ s
    refine wpAny_resumeE hgs hgo hq fun e s₁ z => ?_
    cases e with
    | ret r =>
      obtain rfl := hr r s₁ z
      show wpAny _ A.in1 (newExc (.type "StopIteration") [] >>= _) _ _ _
      refine wpAny_bind ?_
      simp only [newExc, newTuple]
      refine wpAny_bind (wpAny_newObj_type ?_ (by size_fits))
      refine wpAny_bind (m := firstArgMember _ _) (wpAny_of_eq (a := Value.none) (by first | rfl | (simp only [firstArgMember]; rfl)) ?_)
      refine wpAny_newObj_type ?_ (by size_fits)
      simp only [raiseNew]
      refine wpAny_bind (wpAny_bind (wpAny_handled ?_))
      first | rw [show A.in1.handled = none from hh] | rw [hh]
      refine wpAny_throw ?_
      refine wpAny_bind (wpAny_isInstance (T := "StopIteration") (b := true) ⟨_, Heap.get?_push_size _ rfl, rfl⟩ isSubtype_stop ?_)
      exact wpAny_pure (hP s₁ z _ fun b o hb => Heap.get?_push_of_some _ (Heap.get?_push_of_some _ hb))
    | susp v gd l k c p fs => exact wpAny_pure ⟨v, rfl, wpAny_pure (hY _ _ _ _ _ _ _ s₁ z)⟩


section
variable {prog : Program} {w : World} {A : Around} {E : Value → Shared → Prop} {s : Shared}
theorem ask_list {it l : Addr} {i : Nat} {items : Array Value} {x : Value} {Q : Option Value → Shared → Prop} (hit : s.heap.IsListIter it l i) (hl : s.heap.IsList l items) (hx : items[i]? = some x)
    (hQ : ∀ h', h'.IsListIter it l (i + 1) → Heap.SameBut it s.heap h' → Q (some x) { s with heap := h' }) : wpAny (model prog w) A (callSpecial? (.ref it) "__next__") Q E s := by
  obtain ⟨o, ho, hc, hd⟩ := id hit
  obtain ⟨ol, hol, _, nl, hdl⟩ := hl
  refine wpAny_callSpecial?_slot (name := Str.ofString "__next__") hit.typeIs slot_listiter_next
    (wpAny_call_entry slot_listiter_next hit.typeIs entry_listiter_next ?_ (args_listiter_next _))
  show wpAny _ _ (field (.ref it) 0 >>= _) _ _ s
  refine wpAny_bind (wpAny_field ho hd (x := .ref l) rfl ?_)
  show wpAny _ _ (if (Value.ref l == Value.none) = true then _ else _) _ _ s
  rw [if_neg (show ¬ ((Value.ref l == Value.none) = true) from Bool.false_ne_true)]
  show wpAny _ _ (field (.ref it) 1 >>= _) _ _ s
  refine wpAny_bind (wpAny_field ho hd (x := .int i 0) rfl ?_)
  show wpAny _ _ (seqItems? (.ref l) >>= _) _ _ s
  refine wpAny_bind (wpAny_seqItems hol hdl ?_)
  simp only [Int.toNat_natCast, hx]
  refine wpAny_bind (wpAny_setField ho hd (by simp) (wpAny_pure ⟨x, rfl, hQ _ ?_ (Heap.SameBut.update ..)⟩))
  exact ⟨_, Heap.get?_update_self _ ho (Obj.isFreed_of_fields (Obj.data_mapFields hd _)), (Obj.cls_mapFields ..).trans hc, by
    rw [Obj.data_mapFields hd]; simp [rawInt]⟩
theorem ask_list_end {it l : Addr} {i : Nat} {items : Array Value} {Q : Option Value → Shared → Prop} (hh : A.handled = none) (hit : s.heap.IsListIter it l i) (hl : s.heap.IsList l items) (hx : items[i]? = none)
    (hE : ∀ e h', StopX e h' → Heap.ExtBut it s.heap h' → E e { s with heap := h' }) : wpAny (model prog w) A (callSpecial? (.ref it) "__next__") Q E s := by
  obtain ⟨o, ho, hc, hd⟩ := id hit
  obtain ⟨ol, hol, _, nl, hdl⟩ := hl
  refine wpAny_callSpecial?_slot (name := Str.ofString "__next__") hit.typeIs slot_listiter_next
    (wpAny_call_entry slot_listiter_next hit.typeIs entry_listiter_next ?_ (args_listiter_next _))
  show wpAny _ _ (field (.ref it) 0 >>= _) _ _ s
  refine wpAny_bind (wpAny_field ho hd (x := .ref l) rfl ?_)
  show wpAny _ _ (if (Value.ref l == Value.none) = true then _ else _) _ _ s
  rw [if_neg (show ¬ ((Value.ref l == Value.none) = true) from Bool.false_ne_true)]
  show wpAny _ _ (field (.ref it) 1 >>= _) _ _ s
  refine wpAny_bind (wpAny_field ho hd (x := .int i 0) rfl ?_)
  show wpAny _ _ (seqItems? (.ref l) >>= _) _ _ s
  refine wpAny_bind (wpAny_seqItems hol hdl ?_)
  simp only [Int.toNat_natCast, hx]
  refine wpAny_bind (wpAny_rule (wpAny_bind (wpAny_setField ho hd (by simp) ?_)))
  show wpAny _ _ (newExc (.type "StopIteration") [] >>= _) _ _ _
  refine wpAny_bind ?_
  simp only [newExc, newTuple]
  refine wpAny_bind (wpAny_newObj_type ?_ (by size_fits))
  refine wpAny_bind (m := firstArgMember _ _) (wpAny_of_eq (a := Value.none) (by first | rfl | (simp only [firstArgMember]; rfl)) ?_)
  refine wpAny_newObj_type ?_ (by size_fits)
  simp only [raiseNew]
  refine wpAny_bind (wpAny_handled ?_)
  first | rw [show A.in1.handled = none from hh] | rw [hh]
  refine wpAny_bind (wpAny_pure (wpAny_throw ?_))
  refine hE _ _ ⟨_, _, _, rfl, Heap.get?_push_size _ rfl, rfl, rfl, ?_⟩ (((Heap.SameBut.update ..).extBut.push _).push _)
  first
    | rfl
    | (rw [Array.getElem?_append_left (by decide)]; rfl)
    | kernel_rfl
end
theorem close_list : typeLookup (.type "list_iterator") "close" = pure none := by rw [typeLookup_type, builtinLookup_eq_fast]; kernel_rfl



def Stands (it l : Addr) (us : Array Value) (j : Nat) (h : Heap) : Prop := h.IsListIter it l j ∧ h.IsList l us

structure Turned (it : Addr) (s s' : Shared) : Prop where
  gens : s'.gens = s.gens
  os : s'.os = s.os
  keep : ∀ b o, b ≠ it → s.heap.get? b = some o → s'.heap.get? b = some o

def Rest (M : Model) (A : Around) (it l : Addr) (us : Array Value) : Nat → Nat → Shared → Stop
  | r, _, s₀, .ret x, s => r = 0 ∧ x = .ok (.ret .none) ∧ Turned it s₀ s
  | 0, _, _, .susp .., _ => False
  | r + 1, j, s₀, .susp v gd lv k c p fs, s => (End.susp v gd lv k c p fs).quiet = true ∧ us[j]? = some v ∧ Turned it s₀ s ∧ Stands it l us (j + 1) s.heap ∧
      ∀ s'', Stands it l us (j + 1) s''.heap → Piece M A (Rest M A it l us r (j + 1) s'') c (k (.send .none)) fs s''
theorem Stands.keep {it l : Addr} {us : Array Value} {j : Nat} {h h' : Heap} (x : Stands it l us j h) (k : ∀ b o, h.get? b = some o → h'.get? b = some o) : Stands it l us j h' := by
  obtain ⟨⟨o, e, q⟩, o2, e2, q2⟩ := x
  exact ⟨⟨o, k _ _ e, q⟩, o2, k _ _ e2, q2⟩
abbrev yfCode (it : Addr) : Code := .builtin "proto.yield_from" ⟨[.ref it, .bool false, .none], []⟩
section
variable {P : Program} {w : World} {A : Around} {fs : List Frame} {it l : Addr} {us : Array Value}
theorem den_from : (model P w).den (yfCode it) = Builtin.«proto.yield_from» ⟨[.ref it, .bool false, .none], []⟩ := by
  show (match entryFor table "proto.yield_from" with | some b => b ⟨[.ref it, .bool false, .none], []⟩ | none => unsupported ((withoutEnding? "proto.yield_from" "#data").getD "proto.yield_from")) = _
  rw [entry_yf]
theorem turns (hl : it ≠ l) (ho : (A.over (yfCode it) fs).handled = none) (hsp : splitAtGen fs = none) (hgd : fs.any Frame.guarded = false)
    (hend : ∀ (s₀ s : Shared) (j : Nat), Turned it s₀ s → Piece (model P w) A (Rest (model P w) A it l us 0 j s₀) (yfCode it) (.pure (.done (.ret .none))) fs s) :
    ∀ (r j : Nat) (s : Shared), j + r = us.size → Stands it l us j s.heap → Piece (model P w) A (Rest (model P w) A it l us r j s) (yfCode it) ((model P w).den (yfCode it)) fs s := by
  intro r
  induction r with
  | zero =>
    intro j s hj st
    have hx : us[j]? = none := by rw [Array.getElem?_eq_none_iff]; omega
    rw [den_from]
    unfold Builtin.«proto.yield_from»
    try dsimp only
    refine pc_bind (wpAny_pure ?_)
    try dsimp only
    refine pc_bind (wpAny_attempt (wpAny_holding ?_))
    rw [if_neg Bool.false_ne_true, if_pos (show (Value.none == Value.none) = true from rfl)]
    refine wpAny_bind (wpAny_rule (wpAny_bind ?_))
    refine ask_list_end ho st.1 st.2 hx fun e h' hS hk => ?_
    obtain ⟨a, o, vs, rfl, hoa, hcls, hdat, h5⟩ := hS
    try dsimp only
    refine pc_bind (wpAny_endsTurn (s := { s with heap := h' }) hoa hcls ?_)
    try dsimp only
    rw [if_pos rfl]
    first
      | refine pc_bind (wpAny_rule ?_)
      | (rw [if_neg Bool.false_ne_true]; refine pc_bind (wpAny_rule ?_))
      | (rw [if_neg Bool.false_ne_true]; refine pc_bind (wpAny_pure ?_); refine pc_bind (wpAny_rule ?_))
    refine pc_bind (wpAny_field (s := { s with heap := h' }) hoa hdat h5 ?_)
    exact hend s { s with heap := h' } j ⟨rfl, rfl, fun b o hb e => hk b o hb e⟩
  | succ r ih =>
    intro j s hj st
    have hlt : j < us.size := by omega
    have hx : us[j]? = some us[j] := Array.getElem?_eq_getElem hlt
    rw [den_from]
    unfold Builtin.«proto.yield_from»
    try dsimp only
    refine pc_bind (wpAny_pure ?_)
    try dsimp only
    refine pc_bind (wpAny_attempt (wpAny_holding ?_))
    rw [if_neg Bool.false_ne_true, if_pos (show (Value.none == Value.none) = true from rfl)]
    refine wpAny_bind (wpAny_rule (wpAny_bind ?_))
    refine ask_list st.1 st.2 hx fun h' hit' hs => ?_
    have st' : Stands it l us (j + 1) h' := ⟨hit', let ⟨o, e, q⟩ := st.2; ⟨o, (hs.2 l (Ne.symm hl)).trans e, q⟩⟩
    obtain ⟨oi, hoi, hoc, _⟩ := id hit'
    refine wpAny_pure ?_
    try dsimp only
    refine pc_bind (wpAny_typeOf (s := { s with heap := h' }) (T := "list_iterator") ⟨oi, hoi, hoc⟩ ?_)
    try dsimp only
    first
      | (refine pc_bind (wpAny_of_eq close_list ?_); refine pc_bind (wpAny_pure ?_))
      | refine pc_bind (wpAny_bind (wpAny_of_eq close_list (wpAny_pure ?_)))
      | refine pc_bind (wpAny_of_eq close_list ?_)
    try dsimp only
    refine pc_bind (wpAny_sleptOver (s := { s with heap := h' }) hoi hoc (by decide) ?_)
    refine pc_yield hsp fun p => ⟨by simp [End.quiet, hgd], hx, ⟨rfl, rfl, fun b o hb e => (hs.2 b hb).trans e⟩, st', fun s'' st'' => ?_⟩
    obtain ⟨oj, hoj, hjc, _⟩ := id st''.1
    show Piece _ _ _ _ (Builtin.Generator.sleptOver (.ref it) false >>= fun _ => _) fs s''
    refine pc_bind (wpAny_sleptOver hoj hjc (by decide) ?_)
    try dsimp only
    refine pc_bind (wpAny_pure ?_)
    exact pc_again (plainId_quiet plain_yf _) (ih (j + 1) s'' (by omega) st'')
end
end My
set_option Elab.async false
set_option maxRecDepth 100000
set_option maxHeartbeats 4000000
set_option linter.unusedVariables false
namespace My
open PySem PySem.Spec PyProof.Rows L2 GenW
open Sem (wp)

section
variable {X : Cx} {pins : List (Addr × Obj)} {σ : L2.St} {H H' : Hp} {s s' : Shared}
theorem Inv.gensTo (I : Inv X pins σ H s) {G : Array GenState} (h : AllBare G) : Inv X pins σ H { s with gens := G } :=
  ⟨I.ok, I.os, h, I.base, I.loc, I.cell, I.free, I.freeC, I.pin, I.hok, I.len⟩

theorem Inv.spun {it : Addr} (I : Inv X pins σ H s) (f : FpOk X pins H it) (os : s'.os = s.os) (hb : AllBare s'.gens) (k : ∀ b o, b ≠ it → s.heap.get? b = some o → s'.heap.get? b = some o) : Inv X pins σ H s' := by
  obtain ⟨hh, g, d, t, o⟩ := s'
  have e : o = s.os := os
  subst e
  obtain ⟨f0, f1, f2, f3, f4, f5⟩ := f
  have nc : ∀ b, b ∉ [it] → b ≠ it := fun b hb e => hb (by rw [e]; exact List.mem_singleton.mpr rfl)
  refine I.step (g' := g) (t' := t) (d' := d) (ch := [it]) (fun b hb => ?_) (fun b ob _ _ hc q _ => k b ob (nc b hc) q) (fun b ob _ _ hc q _ => ⟨ob.slots, k b ob (nc b hc) q⟩) (fun _ _ _ _ n => n) (fun b ob hc q => ⟨ob, k b ob (nc b hc) q⟩)
    (fun _ _ q => q) (fun _ _ _ q => q) (fun b ps q => ⟨#[], by rw [q]; simp⟩) (fun m hm => ?_) (fun b u q => ?_) hb
  · rw [List.mem_singleton.mp hb]
    exact ⟨f3, f1, f4, f5⟩
  · obtain ⟨ob, es, ep, ho, r⟩ := hm
    exact ⟨ob, es, ep, k _ ob (Ne.symm f1) ho, r⟩
  · refine (I.hok b u q).stay (fun c v hc y => k c v ?_ y) (fun _ y => y) fun _ _ y => y
    have nt : ∀ b u, H b = some u → b ≠ it := fun b u q hb => by rw [hb, f0] at q; cases q
    rcases hc with y | y
    · rw [y]; exact nt b u q
    · exact nt c _ y
end

def gone (H : Hp) (a : Addr) : Hp := fun b => if b = a then none else H b
theorem gone_ne {H : Hp} {a b : Addr} (h : b ≠ a) : gone H a b = H b := if_neg h
theorem gone_same {H : Hp} {a : Addr} : gone H a a = none := if_pos rfl

theorem un_del {fs ex : List Addr} {H H1 : Hp} {h h1 : Heap} {l : Addr} (u : Un fs ex H H1 h h1) (hl : H l = none) : Un fs ex H (gone H1 l) h h1 := by
  have ne : ∀ {b : Addr} {o : HO}, H b = some o → b ≠ l := fun {b o} q z => by rw [z, hl] at q; cases q
  refine ⟨u.keep, u.slot, fun b o e n hx => ?_, u.there, fun b xs q => ?_, fun b o v q => ?_, fun b ps q => ?_⟩
  · by_cases hb : b = l
    · rw [hb]; exact gone_same
    · rw [gone_ne hb]; exact u.free b o e n hx
  · rw [gone_ne (ne q)]; exact u.tups b xs q
  · rw [gone_ne (ne q)]; exact u.frzs b o v q
  · rw [gone_ne (ne q)]; exact u.tbls b ps q
theorem hok_del {P : Program} {w : World} {H : Hp} {h : Heap} {l : Addr} {xs : List V} (k : HOk P w H h) (hl : H l = some (.lst xs)) : HOk P w (gone H l) h := by
  intro b o q
  have hb : b ≠ l := fun z => by rw [z, gone_same] at q; cases q
  rw [gone_ne hb] at q
  refine (k b o q).stay (fun c v _ y => y) (fun c hc => ?_) fun c ys hc => ?_
  · rw [gone_ne (fun z => by rw [z, hl] at hc; cases hc)]; exact hc
  · rw [gone_ne (fun z => by rw [z, hl] at hc; cases hc)]; exact hc


abbrev SpY := List V → Hp → (List V → Hp → Prop) → Prop

def Starts (M : Model) (A : Around) (it l : Addr) (us : Array Value) : Stop := fun e s => match e with
  | .ret x => us.size = 0 ∧ x = .ok (.ret .none)
  | .susp v gd lv k c p fs => us[0]? = some v ∧ Stands it l us 1 s.heap ∧ ∀ s'', Stands it l us 1 s''.heap → Piece M A (Rest M A it l us (us.size - 1) 1 s'') c (k (.send .none)) fs s''
theorem starts_of {M : Model} {A : Around} {it l : Addr} {us : Array Value} {s₀ s : Shared} {e : End} (h : Rest M A it l us us.size 0 s₀ e s) : Starts M A it l us e s ∧ Turned it s₀ s ∧ e.quiet = true := by
  cases hn : us.size with
  | zero =>
    rw [hn] at h
    cases e with
    | ret x => exact ⟨⟨hn, h.2.1⟩, h.2.2, rfl⟩
    | susp v gd lv k c p fs => exact h.elim
  | succ r =>
    rw [hn] at h
    cases e with
    | ret x => obtain ⟨z, _⟩ := h; exact absurd z (Nat.succ_ne_zero r)
    | susp v gd lv k c p fs =>
      obtain ⟨h1, h2, h3, h4, h5⟩ := h
      refine ⟨⟨h2, h4, fun s'' z => ?_⟩, h3, h1⟩
      rw [hn]
      exact h5 s'' z

def First (P : Program) (w : World) (A : Around) (outer : List Env) (H : Hp) (s : Shared) (a : Addr) (g : Nat) (ps : List (Addr × Obj)) (Q : List V → Hp → Prop) : Stop := fun e s1 =>
  ∃ xs H' us it l, (∀ p ∈ ps, s1.heap.get? p.1 = some p.2 ∧ H' p.1 = none ∧ p.1 ≠ l ∧ p.1 ≠ it) ∧ s1.os = s.os ∧ AllBare s1.gens ∧ Un (frs outer) [] H H' s.heap s1.heap ∧ HOk P w H' s1.heap ∧ s1.heap.IsGen a g ∧ H' it = none ∧ H' l = none ∧ H' a = none ∧ s.heap.objs.size ≤ it ∧ s.heap.get? l = none ∧ it ≠ l ∧ it ≠ a ∧
    Vals xs us.toList ∧ us.size ≤ sizeLine ∧ Q xs H' ∧ Starts (model P w) A it l us e s1 ∧ e.quiet = true

def Made (P : Program) (w : World) (k : Nat) (outer : List Env) (H : Hp) (s : Shared) (Q : List V → Hp → Prop) (u : Value) (s' : Shared) : Prop :=
  ∃ (a : Addr) (g : Nat) (c : Code), u = .ref a ∧ s.heap.objs.size ≤ a ∧ a < s'.heap.objs.size ∧ s'.heap.IsGen a g ∧ s'.gens[g]? = some (.fresh c) ∧ s'.os = s.os ∧ AllBare s'.gens ∧ s'.heap.NoLimit ∧ (∀ b o, s.heap.get? b = some o → s'.heap.get? b = some o) ∧
    ∀ (A : Around) (s2 : Shared) (ps : List (Addr × Obj)), Room k A → A.frames = some outer → (∀ b o, s'.heap.get? b = some o → s2.heap.get? b = some o) → s2.os = s.os → AllBare s2.gens →
      (∀ p ∈ ps, s2.heap.get? p.1 = some p.2 ∧ s'.heap.objs.size ≤ p.1 ∧ ∀ v, p.2.data ≠ .cell v) → Piece (model P w) A (First P w A outer H s a g ps Q) c ((model P w).den c) [] s2
structure GenL (P : Program) (w : World) (K : PySem.W.Frag) (mg : Str → Option Value) (base : Heap) (k : Nat) (f : Addr) (fd : FuncData) (ps : List Str) (sp : SpY) : Prop where
  len : ∀ vs H Q, sp vs H Q → vs.length = ps.length
  run : ∀ (A : Around) (outer : List Env) (s : Shared) (H : Hp) (args : Args) (us : List Value) (vs : List V) (Q : List V → Hp → Prop), Room k A → Env0 P w K mg base A outer s H → BindsTo s fd args (ps.zip us) → Vals vs us → sp vs H Q →
    codeAny (model P w) A (.call (.ref f) args) (fun r s' => match r with | .ok (.ret u) => Made P w k outer H s Q u s' | _ => False) s
section
variable {M : Model} {A : Around} {Φ : Stop} {s : Shared}
theorem pc_func {prog : Program} {w : World} {body : List Stmt} {env : Env} {fs : List Frame}
    (h : Piece (model prog w) A Φ (.func body env) ((execs body env).wrap (fun f => .pure (.done (.ret (match f with | .ret v => v | _ => .none))))
      (fun e => (leaving env e).wrap (fun _ => .raise e) .raise id id) id id) fs s) : Piece (model prog w) A Φ (.func body env) ((model prog w).den (.func body env)) fs s := by
  show Piece _ A Φ _ (.point [] fun _ => ((execs body env).onRaise (leaving env)) >>= _) fs s
  refine pc_wrap (m := point) (K := fun _ => ((execs body env).onRaise (leaving env)) >>= _) (J := .raise) (gd := id) (lv := fun _ => []) (wpAny_point ?_)
  rw [Sem.onRaise_eq_wrap, Sem.bind_eq_wrap', Sem.wrap_wrap]
  rw [Sem.wrap_congr (execs body env) _ _ (K' := fun f => .pure (.done (.ret (match f with | .ret v => v | _ => .none))))
    (H' := fun e => (leaving env e).wrap (fun _ => .raise e) .raise id id) (fun f => by cases f <;> rfl)
    (fun e => by rw [Sem.bind_eq_wrap, Sem.wrap_wrap]; rfl)]
  exact h
end

theorem pc_from {X : Cx} {A : Around} {c : Code} {fs : List Frame} {K : Flow → Sem PySem.Fin} {J : Value → Sem PySem.Fin} {gd : Bool → Bool} {lv : List Value → List Value} {e : Expr} {yp pos : Pos} {te : TE} {pins : List (Addr × Obj)} {σ : L2.St} {H : Hp} {s : Shared} {R : Addr → List V → Hp → Prop}
    (he : PE X.nox e te) (hi : interactive X.env = false) (hov : A.over c fs = X.A) (hsp : splitAtGen fs = none) (hgu : fs.any Frame.guarded = false) (hgd : gd false = false) (hh : X.A.handled = none)
    (hK : ∀ (Ψ : Stop) (s : Shared), Ψ (.ret (.ok (.ret .none))) s → Piece (model X.prog X.w) A Ψ c (K .next) fs s) (I : Inv X pins σ H s) (ht : te σ H fun v H1 => ∃ l xs, v = .ref l ∧ H1 l = some (.lst xs) ∧ R l xs H1) :
    Piece (model X.prog X.w) A (fun e' s' => ∃ l xs us it H1 sA, Inv X pins σ H1 sA ∧ FpOk X pins H1 it ∧ H1 l = some (.lst xs) ∧ R l xs H1 ∧ Vals xs us.toList ∧ us.size ≤ sizeLine ∧ it ≠ l ∧ Rest (model X.prog X.w) A it l us us.size 0 sA e' s')
      c ((exec (.Expr (.YieldFrom e yp) pos) X.env).wrap K J gd lv) fs s := by
  rw [exec_Expr X.env _ pos hi rfl]
  show Piece _ _ _ c (.at pos fun _ => ((eval e X.env >>= fun v => (standAt yp >>= fun _ => yieldFrom X.env v)) >>= fun x => dropValue (.YieldFrom e yp) pos x).wrap K J gd lv) fs s
  refine pc_at ?_
  rw [Sem.bind_eq_wrap' (eval e X.env >>= fun v => (standAt yp >>= fun _ => yieldFrom X.env v)), Sem.wrap_wrap]
  refine pc_bindW ?_
  rw [hov]
  refine wpAny_mono (he.run pins s σ H _ (I.wish _) ht) (fun v s1 hv => ?_) fun _ _ z => z.elim
  obtain ⟨x, H1, I1, rx, l, xs, ex, hl, hR⟩ := hv
  subst ex
  obtain rfl : v = Value.ref l := rx
  have I1 := I1.unwish
  obtain ⟨its, rv, pl, hz⟩ := I1.list (.inl (.inl hl))
  refine pc_at ?_
  show Piece _ _ _ c ((yieldFrom X.env (.ref l)).wrap (fun b => (dropValue (.YieldFrom e yp) pos b).wrap K J gd lv) J gd lv) fs s1
  unfold yieldFrom
  refine pc_bindW (wpAny_typeOf (T := "list") pl.isList.typeIs ?_)
  rw [if_neg (by decide)]
  refine pc_bindW (wpAny_holding (wpAny_pyIter_list pl.isList ?_))
  have kp : ∀ b o, s1.heap.get? b = some o → (s1.heap.push { cls := .type "list_iterator", data := .fields #[.ref l, .int 0 0] }).get? b = some o := fun b o q => Heap.get?_push_of_some _ q
  have hn : H1 s1.heap.objs.size = none := I1.hok.fresh (Nat.le_refl _)
  have hlt : l < s1.heap.objs.size := pl.lt
  have hne : s1.heap.objs.size ≠ l := Nat.ne_of_gt hlt
  have I2 : Inv X pins σ H1 { s1 with heap := s1.heap.push { cls := .type "list_iterator", data := .fields #[.ref l, .int 0 0] } } := I1.kept (t' := s1.toks) kp
  have st : Stands s1.heap.objs.size l its.toArray 0 (s1.heap.push { cls := .type "list_iterator", data := .fields #[.ref l, .int 0 0] }) := ⟨⟨_, Heap.get?_push_size _ rfl, rfl, rfl⟩, pl.isList.push _⟩
  have hlen : its.toArray.size ≤ sizeLine := by
    have e1 := rv.length
    have e2 : its.toArray.size = its.length := by simp
    omega
  refine pc_call fun p => ?_
  refine pc_mono (turns (P := X.prog) (w := X.w) (A := A) (it := s1.heap.objs.size) (l := l) (us := its.toArray) hne ?_ ?_ ?_ ?_ its.toArray.size 0 { s1 with heap := s1.heap.push { cls := .type "list_iterator", data := .fields #[.ref l, .int 0 0] } } (Nat.zero_add _) st) fun e' s' z => ?_
  · show (A.over c fs).handled = none
    rw [hov]; exact hh
  · show (splitAtGen fs).map _ = none
    rw [hsp]; rfl
  · show (gd false || fs.any Frame.guarded) = false
    rw [hgd, hgu]; rfl
  · intro s₀ s2 j tu
    exact pc_leaf (.ok (.ret .none)) (hK _ s2 ⟨rfl, rfl, tu⟩)
  · exact ⟨l, xs, its.toArray, s1.heap.objs.size, H1, _, I2, I1.fpOk (Nat.le_refl _) hn, hl, hR, by simpa using rv, hlen, hne, z⟩

theorem genL_of {P : Program} {w : World} {K : PySem.W.Frag} {mg : Str → Option Value} {base : Heap} {k : Nat} {f : Addr} {fd : FuncData} {x qual : Str} {st : Stmt} {e : Expr} {yp pos : Pos} {N ps : List Str} {sp : SpY}
    (F : Fun K x qual st f fd) (hbd : defBody st = [.Expr (.YieldFrom e yp) pos]) (S : GScope N ps (defScope st)) (len : ∀ vs H Q, sp vs H Q → vs.length = ps.length)
    (hi : ∀ n cdv, interactive (envOfC qual (defScope st) n f cdv) = false)
    (he : ∀ (cdv : Value) (A : Around) (outer : List Env) (s : Shared) (H : Hp) (vs : List V) (Q : List V → Hp → Prop) (pn : List (Addr × Obj)), Room k (A.deeper (envOfC qual (defScope st) s.heap.objs.size f cdv)) → sp vs H Q →
      ∃ te, PE (gcxOf P w K mg base N qual (defScope st) f cdv A outer s H E0 pn).nox e te ∧ te (start N vs) H fun v H1 => ∃ l xs, v = .ref l ∧ H1 l = some (.lst xs) ∧ (H l = none ∧ Q xs (gone H1 l))) :
    GenL P w K mg base (k + 1) f fd ps sp := by
  obtain ⟨oc, od, kV, doc, pm, an, cdv, ct, osl, rfl, lk, hcd⟩ := F.ex
  refine ⟨len, fun A outer s H args us vs Q hr e0 hb r hsp => ?_⟩
  have hl := len _ _ _ hsp
  have KX : K.In s.heap := e0.mod.kin.keeps fun b o e => (e0.bs b o e).1
  have lim : s.heap.NoLimit := e0.mod.nolimit.keeps fun b o e => (e0.bs b o e).1
  have hkind : ∀ y ∈ ps.zip us, (defScope st).names.lookup y.1 = some .local ∨ ((defScope st).names.lookup y.1 = some .cell ∧ ((cellsFrom (s.heap.objs.size + 1) (defScope st).names []).lookup y.1).isSome = true) := by
    rintro ⟨n, v⟩ hy
    rcases S.par n (List.of_mem_zip hy).1 with q | q
    · exact .inl q
    · exact .inr ⟨q, PySem.W.cellsFrom_some _ _ _ (.inl q)⟩
  refine codeAny_call_generator hr.depth (KX _ _ lk) rfl S.co S.gen rfl (PySem.W.codeRec_of KX hcd) (hb _ _ _ _ ?_)
  refine wpAny_newFunctionEnv_cells S.kind hkind fun env he' s1 x => ?_
  subst he'
  have lim1 : s1.heap.NoLimit := lim.keeps x.toInCall.keep
  refine ⟨lim1, ?_⟩
  obtain ⟨h1, tk, es1, hk1⟩ := x.done
  have os1 : s1.os = s.os := by rw [es1]
  have gen1 : s1.gens = s.gens := by rw [es1]
  have lt1 : s.heap.objs.size < s1.heap.objs.size := x.toInCall.ns.lt
  have sz1 := Nat.le_of_lt lt1
  have kp1 : ∀ b o, s.heap.get? b = some o → s1.heap.get? b = some o := x.toInCall.keep
  generalize hgo : ({ cls := .type "generator", data := .fields #[.int s1.gens.size 0, _, _] } : Obj) = go
  have hgc : go.cls = .type "generator" := by rw [← hgo]
  have hgd : ∃ nm qn, go.data = .fields #[.int s1.gens.size 0, nm, qn] := ⟨_, _, by rw [← hgo]⟩
  have hgs : go.slots = #[] := by rw [← hgo]
  have hgp : ∀ h : Heap, (h.push go).get? h.objs.size = some go := fun h => Heap.get?_push_size _ (by rw [← hgo]; rfl)
  obtain ⟨nm, qn, hgd⟩ := hgd
  have isG : ∀ h : Heap, h.get? s1.heap.objs.size = some go → h.IsGen s1.heap.objs.size s1.gens.size := fun h e => ⟨go, nm, qn, e, hgc, hgd, hgs⟩
  have ncell : ∀ v, go.data ≠ .cell v := fun v q => by rw [hgd] at q; cases q
  refine ⟨s1.heap.objs.size, s1.gens.size, _, rfl, sz1, ?_, isG _ (hgp _), Array.getElem?_push_size .., os1, ?_, lim1.keeps fun b o e => Heap.get?_push_of_some _ e, fun b o e => Heap.get?_push_of_some _ (kp1 b o e), ?_⟩
  · show _ < (s1.heap.push _).objs.size
    rw [Heap.size_push]; exact Nat.lt_succ_self _
  · exact AllBare.push (by rw [gen1]; exact e0.bare) rfl
  intro Aw s2 ps2 hrw hfr hk2 hos hba hps
  have e0w : Env0 P w K mg base Aw outer s H := ⟨hfr, e0.mod, e0.bs, e0.bsz, e0.funs, e0.frf, e0.hok, e0.bare⟩
  obtain ⟨te, hte, hq⟩ := he cdv Aw outer s H vs Q ((s1.heap.objs.size, go) :: ps2) (hrw.deeper _) hsp
  have I1 : Inv (gcxOf P w K mg base N qual (defScope st) f cdv Aw outer s H E0 []) [] (start N vs) H s1 := inv_startG S hrw.hd e0w hl r x
  have kp2 : ∀ b o, s1.heap.get? b = some o → s2.heap.get? b = some o := fun b o e => hk2 b o (Heap.get?_push_of_some _ e)
  have I2 : Inv (gcxOf P w K mg base N qual (defScope st) f cdv Aw outer s H E0 []) [] (start N vs) H s2 :=
    I1.call' (ch := []) (hos.trans os1.symm) (Un.kept kp2) (I1.hok.kept kp2) hba fun b z => by simp at z
  have hea : s2.heap.get? s1.heap.objs.size = some go := hk2 _ go (hgp _)
  have I3 : Inv (gcxOf P w K mg base N qual (defScope st) f cdv Aw outer s H E0 ((s1.heap.objs.size, go) :: ps2)) [] (start N vs) H s2 := by
    refine Inv.pinnedG I2 fun p hp => ?_
    rw [List.append_nil] at hp
    rcases List.mem_cons.mp hp with hp | hp
    case inr =>
      obtain ⟨y1, y2, y3⟩ := hps p hp
      have y2 : (s1.heap.push go).objs.size ≤ p.1 := y2
      rw [Heap.size_push] at y2
      have y4 : s1.heap.objs.size ≤ p.1 := Nat.le_of_succ_le y2
      exact ⟨y1, I1.hok.fresh y4, Nat.ne_of_gt (Nat.lt_of_lt_of_le lt1 y4), I1.nofs y4, y3⟩
    rw [hp]
    exact ⟨hea, I1.hok.fresh (Nat.le_refl _), Nat.ne_of_gt lt1, I1.nofs (Nat.le_refl _), ncell⟩
  refine pc_func ?_
  show Piece _ _ _ _ ((execs (defBody st) _).wrap _ _ _ _) _ _
  rw [hbd, execs_cons_wrap]
  refine pc_mono (pc_from (X := gcxOf P w K mg base N qual (defScope st) f cdv Aw outer s H E0 ((s1.heap.objs.size, go) :: ps2)) (R := fun l xs H1 => H l = none ∧ Q xs (gone H1 l)) hte (hi _ _) ?_ rfl rfl rfl (hrw.deeper (envOfC qual (defScope st) s.heap.objs.size f cdv)).hd (fun Ψ s' z => pc_end (.ok (.ret .none)) z) I3 hq) fun e' s' z => ?_
  · exact over_func
  obtain ⟨l, xs, us', it, H1, sA, J, fo, hl1, ⟨hl0, hQ⟩, rv, hz, hne, hrest⟩ := z
  obtain ⟨hst, tu, hqt⟩ := starts_of hrest
  have J2 := Inv.spun J fo tu.os (by rw [tu.gens]; exact J.bare) tu.keep
  obtain ⟨p1, p2, _⟩ := J2.pin (s1.heap.objs.size, go) (List.mem_append_left _ List.mem_cons_self)
  have hal : s1.heap.objs.size ≠ l := fun q => by
    rw [← q] at hl1
    have p2 : H1 s1.heap.objs.size = none := p2
    rw [p2] at hl1; cases hl1
  have hps2 : ∀ p ∈ ps2, s'.heap.get? p.1 = some p.2 ∧ gone H1 l p.1 = none ∧ p.1 ≠ l ∧ p.1 ≠ it := fun p hp => by
    obtain ⟨z1, z2, _⟩ := J2.pin p (List.mem_append_left _ (List.mem_cons_of_mem _ hp))
    refine ⟨z1, ?_, fun q => ?_, fo.2.2.2.2.2 p (List.mem_append_left _ (List.mem_cons_of_mem _ hp))⟩
    case refine_2 => rw [q, hl1] at z2; cases z2
    by_cases q : p.1 = l
    · rw [q]; exact gone_same
    · rw [gone_ne q]; exact z2
  refine ⟨xs, gone H1 l, us', it, l, hps2, J2.os, J2.bare, un_del J2.base hl0, hok_del J2.hok hl1, isG _ p1, by rw [gone_ne hne]; exact fo.1, gone_same, by rw [gone_ne hal]; exact p2, ?_, ?_, hne, ?_, rv, hz, hQ, hst, hqt⟩
  · rcases fo.2.2.2.1 with q | q
    · exact absurd (show it ∈ ([] : List Addr) from q) (by simp)
    · exact q
  · cases q : s.heap.get? l with
    | none => rfl
    | some o =>
      have := J2.base.free l o q hl0 (by show l ∉ ([] : List Addr); simp)
      rw [hl1] at this; cases this
  · exact fun q => fo.2.2.2.2.2 (s1.heap.objs.size, go) (List.mem_append_left _ List.mem_cons_self) q.symm
end My
set_option Elab.async false
set_option maxRecDepth 100000
set_option maxHeartbeats 4000000
set_option linter.unusedVariables false
namespace My
open PySem PySem.Spec PyProof.Rows L2 GenW
open Sem (wp)

theorem wpAny_unhid {α : Type} {M : Model} {A : Around} {D : Sleepers} {t : Sem α} {Q : α → Shared → Prop} {E : Value → Shared → Prop} {s : Shared} (o : Hid D s.gens) (h : wpAny M A t Q E s) :
    wpAny M A t (fun a s' => ∃ s1, s' = unhid D s1 ∧ Hid D s1.gens ∧ Q a s1) (fun e s' => ∃ s1, s' = unhid D s1 ∧ Hid D s1.gens ∧ E e s1) (unhid D s) := by
  intro Γ p hΓ
  exact wp_unhid t o (h Γ p hΓ)
theorem unhid_at {D : Sleepers} {s1 : Shared} {g : Nat} {S : GenState} (o : Hid D s1.gens) (d : D g = some S) : (unhid D s1).gens[g]? = some S := by
  obtain ⟨_, _, _, _, _, _, _, e2⟩ := o.hid g _ d
  show (wakeAll D s1.gens)[g]? = _
  rw [wakeAll_get, e2, d]; rfl


abbrev TYI := L2.St → Hp → (List V → Hp → Prop) → Prop
structure PY (X : Cx) (k : Nat) (e : Expr) (t : TYI) : Prop where
  run : ∀ (pins : List (Addr × Obj)) (s : Shared) (σ : L2.St) (H : Hp) (R : List V → Hp → Prop), Inv X pins σ H s → t σ H R →
    wpAny (model X.prog X.w) X.A (eval e X.env) (fun u s' => ∃ H1 sc, Inv X pins σ H1 sc ∧ Made X.prog X.w k X.stack H1 sc R u s') X.xe s

def Mg (P : Program) (w : World) (K : PySem.W.Frag) (mg : Str → Option Value) (base : Heap) (C : Addr) (m : Str) (k : Nat) (ps : List Str) (sp : SpY) : Prop :=
  ∃ f fd, PySem.W.findIn K (.ref C) m = some (some (.ref f)) ∧ PySem.W.isFn K (.ref f) = true ∧ PySem.W.keepIn K (.ref f) = true ∧
    GenL P w K mg base k f fd ps sp ∧ Binds K fd ps []
def tMethY (C : Addr) (m : Str) (sp : SpY) (ta : TE) : TYI := fun σ H R => ta σ H fun x H1 => ∃ a dx fs, x = .ref a ∧ H1 a = some (.ins C dx fs) ∧ fs.lookup m = none ∧ sp [.ref a] H1 R
section
variable {X : Cx} {k : Nat} {C : Addr} {ps : List Str} {sp : SpY} {m : Str} {pos apos : Pos} {o : Expr} {ta : TE}
theorem py_meth0 {pl : Sem Bool} (D : Mg X.prog X.w X.K X.mg X.base C m k ps sp) (hr : Room k X.A) (c : Cls X.K C) (he : PE X o ta)
    (ht : eval (.Call (.Attribute o m apos) [] [] pos) X.env = (do
      let ov ← eval o X.env
      standAt apos.atName
      let (f, first) ← holding [ov] (getMethod ov m pl)
      callWith pos f first (backTo pos (starEach [] X.env)) (backToKw pos (keywordEach [] X.env))) := by rfl) :
    PY X k (.Call (.Attribute o m apos) [] [] pos) (tMethY C m sp ta) := by
  obtain ⟨f, fd, h1, h2, h3, F, hb⟩ := D
  refine ⟨fun pins s σ H R I h => ?_⟩
  refine PySem.W.methodCall_KW (pl := pl) (thn (he.run pins s σ H _ I h) fun u s1 hh => ?_) ht
  obtain ⟨x, H1, I1, rx, a, dx, fs, ex, ea, l, q⟩ := hh
  subst ex
  obtain rfl : u = Value.ref a := rx
  refine getmeth_ok I1 ea c ⟨h1, h2, h3⟩ l ?_
  have hl : ([Value.ref a] : List Value).length = ps.length := F.len _ _ _ q
  refine PySem.W.callWith_K0 (first := [.ref a]) I1.kIn h3 ?_
  refine wpAny_call (codeAny_mono (F.run X.A X.stack s1 H1 ⟨[.ref a], []⟩ [.ref a] [.ref a] R hr I1.env0 (hb s1 [.ref a] I1.kIn (by simpa using hl)) (.cons rfl .nil) q) fun r s' hq => ?_)
  cases r with
  | error e => exact False.elim hq
  | ok fl =>
    cases fl with
    | ret u => exact ⟨H1, s1, I1, hq⟩
    | next => exact False.elim hq
    | brk => exact False.elim hq
    | cont => exact False.elim hq
end


structure Mid (X : Cx) (pins : List (Addr × Obj)) (a : Addr) (g : Nat) (it l : Addr) (us : Array Value) (xs : List V) (i : Nat) (σ : L2.St) (H : Hp) (s : Shared) : Prop where
  inv : Inv X pins σ H s
  gen : s.heap.IsGen a g
  st : Stands it l us i s.heap
  sl : ∃ k lv c p fs cl, s.gens[g]? = some (.suspended k lv c p fs cl) ∧ ∀ s'', Stands it l us i s''.heap → Piece (model X.prog X.w) X.A.in1 (Rest (model X.prog X.w) X.A.in1 it l us (us.size - i) i s'') c (k (.send .none)) fs s''
  vals : Vals xs us.toList
  fi : FpOk X pins H it
  fl : H l = none ∧ l ≠ X.env.locals ∧ l ∉ X.fs
  fa : H a = none ∧ a ≠ X.env.locals ∧ a ∉ X.fs
  ne : it ≠ l ∧ it ≠ a
  le : i ≤ us.size
theorem Mid.len {X : Cx} {pins : List (Addr × Obj)} {a : Addr} {g : Nat} {it l : Addr} {us : Array Value} {xs : List V} {i : Nat} {σ : L2.St} {H : Hp} {s : Shared} (m : Mid X pins a g it l us xs i σ H s) : xs.length = us.size := by
  have e := m.vals.length
  simpa using e
theorem stands_gens {it l : Addr} {us : Array Value} {j : Nat} {s : Shared} {G : Array GenState} (h : Stands it l us j s.heap) : Stands it l us j ({ s with gens := G } : Shared).heap := h
section
variable {X : Cx} {pins : List (Addr × Obj)} {a : Addr} {g : Nat} {it l : Addr} {us : Array Value} {xs : List V} {i : Nat} {σ : L2.St} {H : Hp} {s : Shared} {E : Value → Shared → Prop}

theorem Mid.next (m : Mid X pins a g it l us xs i σ H s) (hh : X.A.handled = none) (hd : X.A.depth < recursionLimit) : wpAny (model X.prog X.w) X.A (pyNext (.ref a)) (fun r s1 =>
    (r = none ∧ i = xs.length ∧ Inv X pins σ H s1) ∨ ∃ u x, r = some u ∧ xs[i]? = some x ∧ RelV x u ∧ Mid X pins a g it l us xs (i + 1) σ H s1) E s := by
  obtain ⟨k, lv, c, p, fs, cl, hgs, go⟩ := m.sl
  have hlen := m.len
  refine wpAny_gsz (n := g + 1) (Array.getElem?_eq_some_iff.mp hgs).1 ?_
  have spun : ∀ {s1 : Shared} {G : Array GenState}, Turned it (s.setGen g .running) s1 → AllBare G → ∀ h', (∀ b o, b ≠ it → s1.heap.get? b = some o → h'.get? b = some o) → Inv X pins σ H { s1 with gens := G, heap := h' } := fun {s1 G} tu hG h' hk =>
    Inv.spun m.inv m.fi (s' := { s1 with gens := G, heap := h' }) tu.os hG fun b o hb e => hk b o hb (tu.keep b o hb e)
  have bare1 : ∀ {s1 : Shared} {y : GenState}, Turned it (s.setGen g .running) s1 → y.bare = true → AllBare (s1.setGen g y).gens := fun {s1 y} tu hy =>
    allBare_setGen (by rw [tu.gens]; exact allBare_setGen m.inv.bare rfl) hy
  refine next_piece (Φ := Rest (model X.prog X.w) X.A.in1 it l us (us.size - i) i (s.setGen g .running)) hh m.inv.nolimit hd m.gen hgs (go (s.setGen g .running) m.st) (fun e s1 z => ?_) (fun r s1 z => ?_) (fun s1 z h' hk hsz => ?_) fun v gd lv' k' c' p' fs' s1 z hsz => ?_
  · cases hr : us.size - i with
    | zero =>
      rw [hr] at z
      cases e with
      | ret x => rfl
      | susp => exact z.elim
    | succ r =>
      rw [hr] at z
      cases e with
      | ret x => rfl
      | susp => exact z.1
  · cases hr : us.size - i with
    | zero => rw [hr] at z; exact z.2.1
    | succ r => rw [hr] at z; exact z.2.1
  · have hz : us.size - i = 0 := by
      cases hr : us.size - i with
      | zero => rfl
      | succ r => rw [hr] at z; exact z.1
    have tu : Turned it (s.setGen g .running) s1 := by
      rw [hz] at z; exact z.2.2
    have := m.le
    exact .inl ⟨rfl, by omega, spun (G := (s1.setGen g .finished).gens) tu (bare1 tu rfl) h' fun b o _ e => hk b o e⟩
  · cases hr : us.size - i with
    | zero => rw [hr] at z; exact z.elim
    | succ r =>
      rw [hr] at z
      obtain ⟨z1, z2, tu, st, nx⟩ := z
      have hlt : i < us.size := by omega
      have hix : i < xs.length := by omega
      have hx : xs[i]? = some xs[i] := List.getElem?_eq_getElem hix
      obtain ⟨u, hu, ru⟩ := m.vals.get hx
      have euv : u = v := by
        have q : us[i]? = some u := by rw [← Array.getElem?_toList]; exact hu
        rw [z2] at q
        exact (Option.some.inj q).symm
      subst euv
      have hl1 : g < s1.gens.size := by
        have e := setGen_size s1 g (End.susp u gd lv' k' c' p' fs').genState
        have hsz' : g + 1 ≤ (s1.setGen g (End.susp u gd lv' k' c' p' fs').genState).gens.size := hsz
        omega
      have hb := End.bare_of_quiet z1
      refine .inr ⟨u, xs[i], rfl, hx, ru, ⟨spun (s1 := s1) tu (bare1 tu hb) s1.heap fun _ _ _ e => e, ?_, st, ⟨k', lv', c', p', fs', _, setGen_at hl1, fun s'' q => ?_⟩, m.vals, m.fi, m.fl, m.fa, m.ne, hlt⟩⟩
      · obtain ⟨o, nm, qn, e1, r1⟩ := m.gen
        exact ⟨o, nm, qn, tu.keep a o (Ne.symm m.ne.2) e1, r1⟩
      · have e : us.size - (i + 1) = r := by omega
        rw [e]; exact nx s'' q
end
theorem Room.in1 {k : Nat} {A : Around} (r : Room (k + 1) A) : Room k A.in1 := ⟨r.hd, by have := r.dp; show A.depth + 3 * k + 5 < _; omega, by have := r.un; show A.units + 1 + 16 * k + 200 < _; omega⟩
theorem made_gen {P : Program} {w : World} {k : Nat} {outer : List Env} {H : Hp} {s s' : Shared} {R : List V → Hp → Prop} {u : Value} (h : Made P w k outer H s R u s') : ∃ a g, u = .ref a ∧ s'.heap.IsGen a g := by
  obtain ⟨a, g, c, e, _, _, q, _⟩ := h
  exact ⟨a, g, e, q⟩
section
variable {X : Cx} {pins : List (Addr × Obj)} {σ : L2.St} {H : Hp} {s : Shared} {E : Value → Shared → Prop} {k : Nat}

theorem made_next {R : List V → Hp → Prop} {u : Value} {s' : Shared} (I : Inv X pins σ H s) (M : Made X.prog X.w k X.stack H s R u s') (hr : Room (k + 1) X.A) : wpAny (model X.prog X.w) X.A (pyNext u) (fun r s1 =>
    ∃ xs H1, R xs H1 ∧ xs.length ≤ sizeLine ∧ ((r = none ∧ xs = [] ∧ Inv X pins σ H1 s1) ∨ ∃ v x a g it l us, u = .ref a ∧ r = some v ∧ xs[0]? = some x ∧ RelV x v ∧ Mid X pins a g it l us xs 1 σ H1 s1)) E s' := by
  obtain ⟨a, g, c, rfl, ha1, ha2, hg, hgs, hos, hb, hl, hkp, wake⟩ := M
  have hd : X.A.depth < recursionLimit := by have := hr.dp; omega
  refine wpAny_gsz (n := g + 1) (Array.getElem?_eq_some_iff.mp hgs).1 ?_
  have W := wake X.A.in1 (s'.setGen g .running) [] (Room.in1 hr) I.ok.frames (fun _ _ e => e) hos (allBare_setGen hb rfl) (fun p hp => by simp at hp)
  have inv : ∀ {s1 : Shared} {H' : Hp} {G : Array GenState}, s1.os = s.os → Un (frs X.stack) [] H H' s.heap s1.heap → HOk X.prog X.w H' s1.heap → AllBare G → ∀ h', (∀ b o, s1.heap.get? b = some o → h'.get? b = some o) → Inv X pins σ H' { s1 with gens := G, heap := h' } := fun {s1 H' G} q1 q2 q3 hG h' hk =>
    I.call' (ch := []) q1 (q2.trans (Un.kept hk)) (q3.kept hk) hG fun b z => by simp at z
  refine next_piece (Φ := First X.prog X.w X.A.in1 X.stack H s a g [] R) hr.hd hl hd hg hgs W (fun e s1 z => ?_) (fun r s1 z => ?_) (fun s1 z h' hk hsz => ?_) fun v gd lv' k' c' p' fs' s1 z hsz => ?_
  · obtain ⟨xs, H', us, it, l, _, _, _, _, _, _, _, _, _, _, _, _, _, _, _, _, _, q⟩ := z; exact q
  · obtain ⟨xs, H', us, it, l, _, _, _, _, _, _, _, _, _, _, _, _, _, _, _, _, q, _⟩ := z; exact q.2
  · obtain ⟨xs, H', us, it, l, _, q1, q2, q3, q4, q5, q6, q7, q8, q9, q10, q11, q12, rv, hz, hR, hst, _⟩ := z
    have hlen := rv.length
    have h0 : us.size = 0 := hst.1
    have hx : xs = [] := List.eq_nil_of_length_eq_zero (by rw [hlen]; simpa using h0)
    exact ⟨xs, H', hR, by rw [hx]; exact Nat.zero_le _, .inl ⟨rfl, hx, inv (G := (s1.setGen g .finished).gens) q1 q3 q4 (allBare_setGen q2 rfl) h' hk⟩⟩
  · obtain ⟨xs, H', us, it, l, _, q1, q2, q3, q4, q5, q6, q7, q8, q9, q10, q11, q12, rv, hz, hR, hst, hq⟩ := z
    obtain ⟨z2, st, nx⟩ := hst
    have hlen := rv.length
    have hlen : xs.length = us.size := by simpa using hlen
    have hpos : 0 < us.size := (Array.getElem?_eq_some_iff.mp z2).1
    have hx : xs[0]? = some xs[0] := List.getElem?_eq_getElem (by omega)
    obtain ⟨u, hu, ru⟩ := rv.get hx
    have euv : u = v := by
      have q : us[0]? = some u := by rw [← Array.getElem?_toList]; exact hu
      rw [z2] at q
      exact (Option.some.inj q).symm
    subst euv
    have hl1 : g < s1.gens.size := by
      have e := setGen_size s1 g (End.susp u gd lv' k' c' p' fs').genState
      have hsz' : g + 1 ≤ (s1.setGen g (End.susp u gd lv' k' c' p' fs').genState).gens.size := hsz
      omega
    have hbb := End.bare_of_quiet hq
    have hlocs : ∃ o, s.heap.get? X.env.locals = some o := by
      obtain ⟨m, ⟨o, _, _, e, _⟩, _⟩ := I.loc
      exact ⟨o, e⟩
    refine ⟨xs, H', hR, by omega, .inr ⟨u, xs[0], a, g, it, l, us, rfl, rfl, hx, ru, ⟨inv (s1 := s1) q1 q3 q4 (allBare_setGen q2 hbb) s1.heap fun _ _ e => e, q5, st, ⟨k', lv', c', p', fs', _, setGen_at hl1, fun s'' q => nx s'' q⟩, rv, I.fpOk q9 q6, ⟨q7, fun e => ?_, fun hm => ?_⟩, ?_, ⟨q11, q12⟩, hpos⟩⟩⟩
    · obtain ⟨o, eo⟩ := hlocs
      rw [← e, q10] at eo; cases eo
    · obtain ⟨_, o, ho, _⟩ := I.ok.funs.mem hm
      obtain ⟨o', ho'⟩ := I.base.there l o ho fun hx => I.ok.exfs l hx hm
      rw [q10] at ho'; cases ho'
    · exact ⟨q8, (I.fpOk ha1 q8).2.1, (I.fpOk ha1 q8).2.2.1⟩
end



def tForY (t : TYI) (g : TG) (tb : TS) : TS := fun D σ H => t σ H fun xs H1 => ∃ W : Nat → L2.St → Hp → Prop, W 0 σ H1 ∧
  (∀ i x σ H, xs[i]? = some x → W i σ H → g x σ H fun σ2 H2 => tb { D with nx := W (i + 1), ct := W (i + 1), bk := D.nx } σ2 H2) ∧ ∀ σ H, W xs.length σ H → D.nx σ H
section
variable {X : Cx} {k : Nat} {tg iter : Expr} {body : List Stmt} {t : TYI} {g : TG} {tb : TS} {pos : Pos}
def beside (a it l : Addr) (s : Shared) : List (Addr × Obj) := pinsAt [a, it, l] s.heap

theorem Mid.turn {pins : List (Addr × Obj)} {a : Addr} {gn : Nat} {it l : Addr} {us : Array Value} {xs : List V} {i : Nat} {σ : L2.St} {H : Hp} {s : Shared} {D : Ends} {x : V} {u : Value} {E : Value → Shared → Prop} (hno : ∀ e s, ¬ X.xe e s)
    (m : Mid X pins a gn it l us xs i σ H s) (hg : PG X tg g) (hb : PSs X body tb) (r : RelV x u) (h : g x σ H fun σ2 H2 => tb D σ2 H2) :
    wpAny (model X.prog X.w) X.A (assign tg X.env u) (fun _ s2 => wpAny (model X.prog X.w) X.A (execs body X.env) (fun f s3 => match f with
      | .next => ∃ σ' H', Mid X pins a gn it l us xs i σ' H' s3 ∧ D.nx σ' H'
      | .cont => ∃ σ' H', Mid X pins a gn it l us xs i σ' H' s3 ∧ D.ct σ' H'
      | .brk => ∃ σ' H', Inv X pins σ' H' s3 ∧ D.bk σ' H'
      | .ret v => ∃ y σ' H', Inv X pins σ' H' s3 ∧ RelV y v ∧ D.rt y H') E s2) E s := by
  obtain ⟨oi, ei, ci, di⟩ := m.st.1
  obtain ⟨ol, el, cl, nl, dl⟩ := m.st.2
  obtain ⟨oa, nm, qn, ea, ca, da, sa⟩ := m.gen
  obtain ⟨k0, lv0, c0, p0, fs0, cl0, hgs, go⟩ := m.sl
  have I0 : Inv X (pins ++ [(it, oi), (l, ol), (a, oa)]) σ H s := m.inv.pins_of fun p hp => by
    rcases List.mem_append.mp hp with hp | hp
    · exact m.inv.pin p (List.mem_append_right _ hp)
    · simp only [List.mem_cons, List.not_mem_nil, or_false] at hp
      rcases hp with hp | hp | hp
      · rw [hp]; exact ⟨ei, m.fi.1, m.fi.2.1, m.fi.2.2.1, fun v z => by have z : oi.data = .cell v := z; rw [di] at z; cases z⟩
      · rw [hp]; exact ⟨el, m.fl.1, m.fl.2.1, m.fl.2.2, fun v z => by have z : ol.data = .cell v := z; rw [dl] at z; cases z⟩
      · rw [hp]; exact ⟨ea, m.fa.1, m.fa.2.1, m.fa.2.2, fun v z => by have z : oa.data = .cell v := z; rw [da] at z; cases z⟩
  have hd : sleepsOf s.gens gn = some (.suspended k0 lv0 c0 p0 fs0 cl0) := by unfold sleepsOf; rw [hgs]
  have I1 : Inv X (pins ++ [(it, oi), (l, ol), (a, oa)]) σ H (hid s) := Inv.gensTo I0 (bare_hid m.inv.bare)
  have back : ∀ {s3 : Shared} {σ' : L2.St} {H' : Hp}, Inv X (pins ++ [(it, oi), (l, ol), (a, oa)]) σ' H' s3 → Inv X (pins ++ [(it, oi), (l, ol), (a, oa)]) σ' H' (unhid (sleepsOf s.gens) s3) := fun {s3 σ' H'} J => Inv.gensTo J (bare_unhid m.inv.bare J.bare)
  have again : ∀ {s3 : Shared} {σ' : L2.St} {H' : Hp}, Hid (sleepsOf s.gens) s3.gens → Inv X (pins ++ [(it, oi), (l, ol), (a, oa)]) σ' H' s3 → Mid X pins a gn it l us xs i σ' H' (unhid (sleepsOf s.gens) s3) := fun {s3 σ' H'} o J => by
    have J2 := back J
    have pi := J2.pin (it, oi) (List.mem_append_right _ (List.mem_append_right _ (by simp)))
    have pl := J2.pin (l, ol) (List.mem_append_right _ (List.mem_append_right _ (by simp)))
    have pa := J2.pin (a, oa) (List.mem_append_right _ (List.mem_append_right _ (by simp)))
    exact ⟨J2.unpinned, ⟨oa, nm, qn, pa.1, ca, da, sa⟩, ⟨⟨oi, pi.1, ci, di⟩, ol, pl.1, cl, nl, dl⟩, ⟨k0, lv0, c0, p0, fs0, cl0, unhid_at o hd, go⟩, m.vals, ⟨pi.2.1, m.fi.2⟩, ⟨pl.2.1, m.fl.2⟩, ⟨pa.2.1, m.fa.2⟩, m.ne, m.le⟩
  have run1 := wpAny_hid (s := s) (hg.run _ (hid s) σ H x u _ I1 r h)
  refine wpAny_mono run1 (fun _ s2 hh => ?_) fun e s2 hh => ?_
  · obtain ⟨s2h, e2, o2, σ2, H2, I2, q2⟩ := hh
    subst e2
    refine wpAny_mono (wpAny_unhid o2 (hb.run _ s2h σ2 H2 D I2 q2)) (fun f s3 hh => ?_) fun e s3 hh => ?_
    · obtain ⟨s3h, e3, o3, hs⟩ := hh
      subst e3
      cases f with
      | next => obtain ⟨σ', H', J, q⟩ := hs; exact ⟨σ', H', again o3 J, q⟩
      | cont => obtain ⟨σ', H', J, q⟩ := hs; exact ⟨σ', H', again o3 J, q⟩
      | brk => obtain ⟨σ', H', J, q⟩ := hs; exact ⟨σ', H', (back J).unpinned, q⟩
      | ret v => obtain ⟨y, σ', H', J, ry, q⟩ := hs; exact ⟨y, σ', H', (back J).unpinned, ry, q⟩
    · obtain ⟨s3h, _, _, z⟩ := hh
      exact (hno _ _ z).elim
  · obtain ⟨s2h, _, _, z⟩ := hh
    exact (hno _ _ z).elim

def Going (X : Cx) (pins : List (Addr × Obj)) (D : Ends) (g : TG) (tb : TS) (s' : Shared) (a : Addr) (n : Nat) (s2 : Shared) : Prop := (n = sizeLine + 2 ∧ s2 = s') ∨
  ∃ (xs : List V) (gn : Nat) (it l : Addr) (us : Array Value) (i : Nat) (σ' : L2.St) (H' : Hp) (W : Nat → L2.St → Hp → Prop), n = xs.length + 1 - i ∧ xs.length ≤ sizeLine ∧ Mid X pins a gn it l us xs i σ' H' s2 ∧ W i σ' H' ∧
    (∀ i x σ H, xs[i]? = some x → W i σ H → g x σ H fun σ2 H2 => tb { D with nx := W (i + 1), ct := W (i + 1), bk := D.nx } σ2 H2) ∧ ∀ σ H, W xs.length σ H → D.nx σ H
theorem ps_forY (hno : ∀ e s, ¬ X.xe e s) (hr : Room (k + 1) X.A) (hi : PY X k iter t) (hg : PG X tg g) (hb : PSs X body tb) (hs : ∀ x, foldedSetIterable iter X.env x = pure x := by intro _; rfl) : PS X (.For tg iter body [] pos) (tForY t g tb) := by
  refine ⟨fun pins s σ H D I h => ?_⟩
  refine wpAny_For (wpAny_mono (hi.run pins s σ H _ I h) (fun u s' hh => ?_) fun _ _ z => z) hs
  obtain ⟨H1, sc, I1, M⟩ := hh
  obtain ⟨a0, g0, eu, isg⟩ := made_gen M
  subst eu
  refine wpAny_pyIter_gen isg ?_
  have hd : X.A.depth < recursionLimit := by have := hr.dp; omega
  refine codeAny_forLoop_any (Going X pins D g tb s' a0) ?_ (sizeLine + 2) (.inl ⟨rfl, rfl⟩)
  have step : ∀ {n : Nat} {s3 : Shared} {xs : List V} {gn : Nat} {it l : Addr} {us : Array Value} {i : Nat} {σ' : L2.St} {H' : Hp} {W : Nat → L2.St → Hp → Prop} {v : Value} {x : V} {E1 : Value → Shared → Prop}, xs.length - i < n → xs.length ≤ sizeLine → xs[i]? = some x → RelV x v → Mid X pins a0 gn it l us xs (i + 1) σ' H' s3 → W i σ' H' →
      (∀ i x σ H, xs[i]? = some x → W i σ H → g x σ H fun σ2 H2 => tb { D with nx := W (i + 1), ct := W (i + 1), bk := D.nx } σ2 H2) → (∀ σ H, W xs.length σ H → D.nx σ H) →
      wpAny (model X.prog X.w) X.A (letOwnedTupleGo tg (.ref a0) v) (fun _ s₁' => wpAny (model X.prog X.w) X.A (assign tg X.env v) (fun _ s₂ => wpAny (model X.prog X.w) X.A (execs body X.env) (fun f s₃ => match f with
        | .next | .cont => ∃ m, m < n ∧ Going X pins D g tb s' a0 m s₃
        | .brk => SP X pins D .next s₃
        | .ret v => SP X pins D (.ret v) s₃) E1 s₂) E1 s₁') E1 s3 := by
    intro n s3 xs gn it l us i σ' H' W v x E1 hn hz hx rx m w hst hdn
    obtain ⟨oa, nm, qn, ea, ca, da, sa⟩ := m.gen
    refine go_of (n := "generator") ea ca da (by decide) ?_
    refine wpAny_mono (Mid.turn hno m hg hb rx (hst i x σ' H' hx w)) (fun _ s4 h4 => ?_) fun _ _ z => z
    refine wpAny_mono h4 (fun f s5 h5 => ?_) fun _ _ z => z
    have more : ∀ {σ7 : L2.St} {H7 : Hp}, Mid X pins a0 gn it l us xs (i + 1) σ7 H7 s5 → W (i + 1) σ7 H7 → ∃ m, m < n ∧ Going X pins D g tb s' a0 m s5 := fun {σ7 H7} m7 w7 =>
      ⟨xs.length + 1 - (i + 1), by omega, .inr ⟨xs, gn, it, l, us, i + 1, σ7, H7, W, rfl, hz, m7, w7, hst, hdn⟩⟩
    cases f with
    | next => obtain ⟨σ7, H7, m7, w7⟩ := h5; exact more m7 w7
    | cont => obtain ⟨σ7, H7, m7, w7⟩ := h5; exact more m7 w7
    | brk => obtain ⟨σ7, H7, J, q⟩ := h5; exact ⟨σ7, H7, J, q⟩
    | ret v => obtain ⟨y, σ7, H7, J, ry, q⟩ := h5; exact ⟨y, σ7, H7, J, ry, q⟩
  rintro n s3 (⟨rfl, rfl⟩ | ⟨xs, gn, it, l, us, i, σ3, H3, W, rfl, hz, m, w, hst, hdn⟩)
  · refine wpAny_mono (made_next (E := notedBy (model X.prog X.w) X.A X.env fun e s' => _) I1 M hr) (fun r s4 h4 => ?_) fun _ _ z => z
    obtain ⟨xs, H2, ⟨W, w0, hst, hdn⟩, hz, h4⟩ := h4
    rcases h4 with ⟨rfl, rfl, J⟩ | ⟨v, x, a, gn, it, l, us, ea, rfl, hx, rx, m⟩
    · exact wpAny_execs_nil ⟨σ, H2, J, hdn σ H2 w0⟩
    · cases ea
      exact step (by have := (List.getElem?_eq_some_iff.mp hx).1; omega) hz hx rx m w0 hst hdn
  · refine wpAny_mono (m.next (E := notedBy (model X.prog X.w) X.A X.env fun e s' => _) hr.hd hd) (fun r s4 h4 => ?_) fun _ _ z => z
    rcases h4 with ⟨rfl, ei, J⟩ | ⟨v, x, rfl, hx, rx, m'⟩
    · subst ei
      exact wpAny_execs_nil ⟨σ3, H3, J, hdn σ3 H3 w⟩
    · exact step (by have := (List.getElem?_eq_some_iff.mp hx).1; omega) hz hx rx m' w hst hdn
end
end My
set_option Elab.async false
set_option maxRecDepth 100000
set_option maxHeartbeats 4000000
set_option linter.unusedVariables false
namespace My
open PySem PySem.Spec PyProof.Rows L2 GenW
open Sem (wp)

section
variable {X : Cx} {pins : List (Addr × Obj)} {a : Addr} {gn : Nat} {it l : Addr} {us : Array Value} {xs : List V} {i : Nat} {σ : L2.St} {H : Hp} {s : Shared}

theorem Mid.aside (m : Mid X pins a gn it l us xs i σ H s) : ∃ pl, Inv X (pins ++ pl) σ H (hid s) ∧
    ∀ {s3 : Shared} {σ' : L2.St} {H' : Hp}, Hid (sleepsOf s.gens) s3.gens → Inv X (pins ++ pl) σ' H' s3 → Mid X pins a gn it l us xs i σ' H' (unhid (sleepsOf s.gens) s3) := by
  obtain ⟨oi, ei, ci, di⟩ := m.st.1
  obtain ⟨ol, el, cl, nl, dl⟩ := m.st.2
  obtain ⟨oa, nm, qn, ea, ca, da, sa⟩ := m.gen
  obtain ⟨k0, lv0, c0, p0, fs0, cl0, hgs, go⟩ := m.sl
  have I0 : Inv X (pins ++ [(it, oi), (l, ol), (a, oa)]) σ H s := m.inv.pins_of fun p hp => by
    rcases List.mem_append.mp hp with hp | hp
    · exact m.inv.pin p (List.mem_append_right _ hp)
    · simp only [List.mem_cons, List.not_mem_nil, or_false] at hp
      rcases hp with hp | hp | hp
      · rw [hp]; exact ⟨ei, m.fi.1, m.fi.2.1, m.fi.2.2.1, fun v z => by have z : oi.data = .cell v := z; rw [di] at z; cases z⟩
      · rw [hp]; exact ⟨el, m.fl.1, m.fl.2.1, m.fl.2.2, fun v z => by have z : ol.data = .cell v := z; rw [dl] at z; cases z⟩
      · rw [hp]; exact ⟨ea, m.fa.1, m.fa.2.1, m.fa.2.2, fun v z => by have z : oa.data = .cell v := z; rw [da] at z; cases z⟩
  have hd : sleepsOf s.gens gn = some (.suspended k0 lv0 c0 p0 fs0 cl0) := by unfold sleepsOf; rw [hgs]
  refine ⟨[(it, oi), (l, ol), (a, oa)], Inv.gensTo I0 (bare_hid m.inv.bare), fun {s3 σ' H'} o J => ?_⟩
  have J2 : Inv X (pins ++ [(it, oi), (l, ol), (a, oa)]) σ' H' (unhid (sleepsOf s.gens) s3) := Inv.gensTo J (bare_unhid m.inv.bare J.bare)
  have pi := J2.pin (it, oi) (List.mem_append_right _ (List.mem_append_right _ (by simp)))
  have pl := J2.pin (l, ol) (List.mem_append_right _ (List.mem_append_right _ (by simp)))
  have pa := J2.pin (a, oa) (List.mem_append_right _ (List.mem_append_right _ (by simp)))
  exact ⟨J2.unpinned, ⟨oa, nm, qn, pa.1, ca, da, sa⟩, ⟨⟨oi, pi.1, ci, di⟩, ol, pl.1, cl, nl, dl⟩, ⟨k0, lv0, c0, p0, fs0, cl0, unhid_at o hd, go⟩, m.vals, ⟨pi.2.1, m.fi.2⟩, ⟨pl.2.1, m.fl.2⟩, ⟨pa.2.1, m.fa.2⟩, m.ne, m.le⟩
theorem Mid.with (m : Mid X pins a gn it l us xs i σ H s) {σ' : L2.St} (h : Inv X pins σ' H s) : Mid X pins a gn it l us xs i σ' H s :=
  ⟨h, m.gen, m.st, m.sl, m.vals, m.fi, m.fl, m.fa, m.ne, m.le⟩
end
abbrev lobj : Obj := { cls := .type "list", data := .seq ([] : List Value).toArray }
abbrev dobj : Obj := { cls := .type "dict", data := .dict #[] }
section
variable {X : Cx} {pins : List (Addr × Obj)} {σ : L2.St} {H : Hp} {s s' : Shared} {k : Nat} {R : List V → Hp → Prop} {u : Value} {scope : Scope} {own : List (Str × Nat)}

theorem blk_first (hN : X.N.Nodup) (ok : BlkOk X.N X.env.scope scope own) (hpc : ∀ h, pushCells h scope.names = h) (I : Inv X pins σ H s) (M : Made X.prog X.w k X.stack H s R u s') (hr : Room (k + 1) X.A) :
    ∃ (a : Addr) (sG : Shared) (H3 : Hp) (fp : List Addr), u = .ref a ∧ Inv X pins σ H3 sG ∧ (∀ b ∈ fp, FpOk X pins H3 b) ∧ sG.heap.objs.size = (s'.heap.push lobj).objs.size ∧
      ∀ (ce : Env) (E : Value → Shared → Prop), ce = compEnvC scope (cellsFrom ((s'.heap.push lobj).objs.size + 1) scope.names (cloFrom X.env.cells scope.names [])) (s'.heap.push lobj).objs.size X.env →
        wpAny (model X.prog X.w) X.A (pyNext u) (fun r s1 => ∃ xs H1, R xs H1 ∧ H1 s'.heap.objs.size = none ∧ xs.length ≤ sizeLine ∧
        ((r = none ∧ xs = [] ∧ Inv (X.blk sG H3 scope ce fp) [] (wipe σ (own.map (·.2))) (upd H1 s'.heap.objs.size (.lst [])) s1) ∨
          ∃ v x g it l us, r = some v ∧ xs[0]? = some x ∧ RelV x v ∧ Mid (X.blk sG H3 scope ce fp) [] a g it l us xs 1 (wipe σ (own.map (·.2))) (upd H1 s'.heap.objs.size (.lst [])) s1)) E
        { s' with heap := (s'.heap.push lobj).push dobj } := by
  obtain ⟨a, g, c, rfl, ha1, ha2, hg, hgs, hos, hb, hl, hkp, wake⟩ := M
  generalize hD : s'.heap.objs.size = D at *
  have hsz : s.heap.objs.size ≤ D := Nat.le_trans ha1 (Nat.le_of_lt ha2)
  generalize hlst : (List.range (s'.heap.push lobj).objs.size).filter (fun b => decide (b ≠ D) && (s.heap.get? b).isNone) = hidden
  have mhid : ∀ b, b ∈ hidden → b ≠ D ∧ s.heap.get? b = none := fun b hm => by
    rw [← hlst] at hm
    have z := (List.mem_filter.mp hm).2
    simp only [Bool.and_eq_true, decide_eq_true_eq, Option.isNone_iff_eq_none] at z
    exact z
  generalize hG : PySem.W.hideAll (s'.heap.push lobj) hidden = G
  have gsz : G.objs.size = (s'.heap.push lobj).objs.size := by rw [← hG]; exact PySem.W.hideAll_size _ _
  have gD : G.get? D = some lobj := by
    rw [← hG]
    refine PySem.W.hideAll_get _ ?_ fun hm => (mhid D hm).1 rfl
    rw [← hD]; exact Heap.get?_push_size _ rfl
  have gk : ∀ b o, s.heap.get? b = some o → G.get? b = some o := fun b o e => by
    rw [← hG]
    exact PySem.W.hideAll_get _ (Heap.get?_push_of_some _ (hkp b o e)) fun hm => by rw [(mhid b hm).2] at e; cases e
  have gold : ∀ b o, b ≠ D → G.get? b = some o → s.heap.get? b = some o := fun b o hb e => by
    rw [← hG] at e
    have e1 := PySem.W.of_hideAll _ e
    cases q : s.heap.get? b with
    | none =>
      have hm : b ∈ hidden := by
        rw [← hlst]
        exact List.mem_filter.mpr ⟨List.mem_range.mpr (Heap.lt_size e1), by simp [hb, q]⟩
      rw [PySem.W.hideAll_none _ hm] at e; cases e
    | some o' =>
      have e2 := Heap.get?_push_of_some lobj (hkp b o' q)
      rw [e1] at e2
      exact e2.symm
  have hn0 : H D = none := I.hok.fresh hsz
  generalize hsG : ({ s with heap := G, gens := s'.gens, toks := s'.toks } : Shared) = sG
  have sGh : sG.heap = G := by rw [← hsG]
  have IG : Inv X pins σ (upd H D (.lst [])) sG := by
    have J := I.laid (a := D) (o := .lst []) (h' := G) (t' := s'.toks) gk hsz ⟨Nat.zero_le _, [], 0, .nil, gD⟩
    rw [← hsG]
    exact Inv.gensTo J hb
  generalize hfp : List.range' s.heap.objs.size (D - s.heap.objs.size) = fp
  have mfp : ∀ b, b ∈ fp ↔ s.heap.objs.size ≤ b ∧ b < D := fun b => by
    rw [← hfp, List.mem_range'_1]; omega
  have f3 : ∀ b ∈ fp, FpOk X pins (upd H D (.lst [])) b := fun b hm => by
    obtain ⟨h1, h2⟩ := (mfp b).mp hm
    exact I.fpOk h1 (by rw [upd_ne (Nat.ne_of_lt h2)]; exact I.hok.fresh h1)
  have Dlt : D < G.objs.size := Heap.lt_size gD
  refine ⟨a, sG, upd H D (.lst []), fp, rfl, IG, f3, by rw [sGh, gsz], fun ce E hce => ?_⟩
  have I4 := block_start (fp := fp) IG ok hN fun b hm => ⟨f3 b hm, by rw [sGh]; exact Nat.lt_trans ((mfp b).mp hm).2 Dlt⟩
  rw [hpc, sGh, gsz, ← hce] at I4
  have cL : ce.locals = (s'.heap.push lobj).objs.size := by rw [hce]; rfl
  have szp : (s'.heap.push lobj).objs.size = D + 1 := by rw [Heap.size_push, hD]
  rw [szp] at cL
  have szG : G.objs.size = D + 1 := gsz.trans szp
  have frin : ∀ b ∈ frs X.stack, ∃ o, s.heap.get? b = some o := fun b hb => by
    obtain ⟨_, o, ho, _⟩ := I.stack.mem hb
    exact ⟨o, ho⟩
  have hdepth : X.A.depth < recursionLimit := by have := hr.dp; omega
  have gC : (G.push dobj).get? (D + 1) = some dobj := by rw [← szG]; exact Heap.get?_push_size _ rfl
  have gpold : ∀ b o, b ≠ D → b ≠ D + 1 → (G.push dobj).get? b = some o → s.heap.get? b = some o := fun b o h1 h2 e => by
    refine gold b o h1 ?_
    rcases Heap.get?_push_cases e with ⟨q, _⟩ | q
    · exact absurd (q.trans szG) h2
    · exact q
  have at4D : ((s'.heap.push lobj).push dobj).get? D = some lobj := Heap.get?_push_of_some _ (by rw [← hD]; exact Heap.get?_push_size _ rfl)
  have at4C : ((s'.heap.push lobj).push dobj).get? (D + 1) = some dobj := by rw [← szp]; exact Heap.get?_push_size _ rfl
  have keep4 : ∀ b o, s'.heap.get? b = some o → ((s'.heap.push lobj).push dobj).get? b = some o := fun b o e => Heap.get?_push_of_some _ (Heap.get?_push_of_some _ e)
  have blkInv : ∀ {s1 : Shared} {H' : Hp} {G' : Array GenState}, s1.heap.get? D = some lobj → s1.heap.get? (D + 1) = some dobj → H' D = none → H' (D + 1) = none → s1.os = s.os → Un (frs X.stack) [] H H' s.heap s1.heap → HOk X.prog X.w H' s1.heap → AllBare G' →
      ∀ h', (∀ b o, s1.heap.get? b = some o → h'.get? b = some o) → Inv (X.blk sG (upd H D (.lst [])) scope ce fp) [] (wipe σ (own.map (·.2))) (upd H' D (.lst [])) { s1 with gens := G', heap := h' } := by
    intro s1 H' G' eD eC nD nC qos un hok hG' h' hk
    have un2 : Un (frs X.stack) [] H H' s.heap h' := un.trans (Un.kept hk)
    have hok2 := hok.kept hk
    have noC : ∀ {b : Addr} {o : HO}, H b = some o → b ≠ D + 1 := fun {b o} e z => by
      have q : H (D + 1) = none := I.hok.fresh (Nat.le_succ_of_le hsz)
      rw [z, q] at e; cases e
    have noD : ∀ {b : Addr} {o : HO}, H b = some o → b ≠ D := fun {b o} e z => by rw [z, hn0] at e; cases e
    refine I4.call' (ch := fp) ?_ ⟨fun b o e n hf hx => ?_, fun b o e n hf hx => ?_, fun b o e n hx => ?_, fun b o e hx => ?_, fun b xs e => ?_, fun b o v e => ?_, fun b ps e => ?_⟩ (fun b o q => ?_) hG' fun b hb => ?_
    · show s1.os = sG.os
      rw [← hsG]; exact qos
    · have hbD : b ≠ D := fun z => by rw [z, upd_same] at n; cases n
      by_cases hbC : b = D + 1
      · rw [hbC, gC] at e
        rw [hbC]; cases e; exact hk _ _ eC
      · rw [upd_ne hbD] at n
        exact un2.keep b o (gpold b o hbD hbC e) n hf (by simp)
    · have hbD : b ≠ D := fun z => by rw [z, upd_same] at n; cases n
      by_cases hbC : b = D + 1
      · rw [hbC, gC] at e
        rw [hbC]; cases e; exact ⟨_, hk _ _ eC⟩
      · rw [upd_ne hbD] at n
        exact un2.slot b o (gpold b o hbD hbC e) n hf (by simp)
    · have hbD : b ≠ D := fun z => by rw [z, upd_same] at n; cases n
      rw [upd_ne hbD] at n ⊢
      by_cases hbC : b = D + 1
      · rw [hbC]; exact nC
      · exact un2.free b o (gpold b o hbD hbC e) n (by simp)
    · by_cases hbD : b = D
      · rw [hbD]; exact ⟨_, hk _ _ eD⟩
      · by_cases hbC : b = D + 1
        · rw [hbC]; exact ⟨_, hk _ _ eC⟩
        · exact un2.there b o (gpold b o hbD hbC e) (by simp)
    · have hbD : b ≠ D := fun z => by rw [z, upd_same] at e; cases e
      rw [upd_ne hbD] at e ⊢
      exact un2.tups b xs e
    · have hbD : b ≠ D := fun z => by rw [z, upd_same] at e; cases e
      rw [upd_ne hbD] at e ⊢
      exact un2.frzs b o v e
    · have hbD : b ≠ D := fun z => by rw [z, upd_same] at e; cases e
      rw [upd_ne hbD] at e ⊢
      exact un2.tbls b ps e
    · by_cases hbD : b = D
      · rw [hbD] at q ⊢
        rw [upd_same] at q
        cases q
        exact ⟨Nat.zero_le _, [], 0, .nil, hk _ _ eD⟩
      · rw [upd_ne hbD] at q
        refine (hok2 b o q).stay (fun c v _ y => y) (fun c hc => ?_) fun c ys hc => ?_
        · rw [upd_ne (ne_of_none hc nD)]; exact hc
        · rw [upd_ne (ne_of_none hc nD)]; exact hc
    · obtain ⟨h1, h2⟩ := (mfp b).mp hb
      exact ⟨.inl hb, (I4.ok.exf b hb).1, fun x c e => (I4.ok.exf b hb).2 x c e, fun p hp => absurd (show p ∈ ([] : List (Addr × Obj)) ++ [] from hp) (by simp)⟩
  refine wpAny_gsz (n := g + 1) (Array.getElem?_eq_some_iff.mp hgs).1 ?_
  have W := wake X.A.in1 ({ s' with heap := (s'.heap.push lobj).push dobj }.setGen g .running) [(D, lobj), (D + 1, dobj)] (Room.in1 hr) I.ok.frames keep4 hos (allBare_setGen (s := { s' with heap := (s'.heap.push lobj).push dobj }) hb rfl) (fun p hp => by
    simp only [List.mem_cons, List.not_mem_nil, or_false] at hp
    rcases hp with rfl | rfl
    · exact ⟨at4D, Nat.le_refl _, fun v z => by cases z⟩
    · exact ⟨at4C, Nat.le_succ _, fun v z => by cases z⟩)
  refine next_piece (Φ := First X.prog X.w X.A.in1 X.stack H s a g [(D, lobj), (D + 1, dobj)] R) hr.hd (hl.keeps keep4) hdepth (hg.keeps keep4) (s := { s' with heap := (s'.heap.push lobj).push dobj }) hgs W (fun e s1 z => ?_) (fun r s1 z => ?_) (fun s1 z h' hk hsz => ?_) fun v gd lv' k' c' p' fs' s1 z hsz => ?_
  · obtain ⟨xs, H', us, it, l, _, _, _, _, _, _, _, _, _, _, _, _, _, _, _, _, _, q⟩ := z; exact q
  · obtain ⟨xs, H', us, it, l, _, _, _, _, _, _, _, _, _, _, _, _, _, _, _, _, q, _⟩ := z; exact q.2
  · obtain ⟨xs, H', us, it, l, q0, q1, q2, q3, q4, q5, q6, q7, q8, q9, q10, q11, q12, rv, hz, hR, hst, _⟩ := z
    have hlen := rv.length
    have h0 : us.size = 0 := hst.1
    have hx : xs = [] := List.eq_nil_of_length_eq_zero (by rw [hlen]; simpa using h0)
    obtain ⟨d1, d2, _⟩ := q0 (D, lobj) (by simp)
    obtain ⟨e1, e2, _⟩ := q0 (D + 1, dobj) (by simp)
    exact ⟨xs, H', hR, d2, by rw [hx]; exact Nat.zero_le _, .inl ⟨rfl, hx, blkInv (G' := (s1.setGen g .finished).gens) d1 e1 d2 e2 q1 q3 q4 (allBare_setGen q2 rfl) h' hk⟩⟩
  · obtain ⟨xs, H', us, it, l, q0, q1, q2, q3, q4, q5, q6, q7, q8, q9, q10, q11, q12, rv, hz, hR, hst, hq⟩ := z
    obtain ⟨z2, st, nx⟩ := hst
    have hlen := rv.length
    have hlen : xs.length = us.size := by simpa using hlen
    have hpos : 0 < us.size := (Array.getElem?_eq_some_iff.mp z2).1
    have hx : xs[0]? = some xs[0] := List.getElem?_eq_getElem (by omega)
    obtain ⟨u, hu, ru⟩ := rv.get hx
    have euv : u = v := by
      have q : us[0]? = some u := by rw [← Array.getElem?_toList]; exact hu
      rw [z2] at q
      exact (Option.some.inj q).symm
    subst euv
    have hl1 : g < s1.gens.size := by
      have e := setGen_size s1 g (End.susp u gd lv' k' c' p' fs').genState
      have hsz' : g + 1 ≤ (s1.setGen g (End.susp u gd lv' k' c' p' fs').genState).gens.size := hsz
      omega
    have hbb := End.bare_of_quiet hq
    obtain ⟨d1, d2, d3, d4⟩ := q0 (D, lobj) (by simp)
    obtain ⟨e1, e2, e3, e4⟩ := q0 (D + 1, dobj) (by simp)
    have IB := blkInv (G' := (s1.setGen g (End.susp u gd lv' k' c' p' fs').genState).gens) d1 e1 d2 e2 q1 q3 q4 (allBare_setGen q2 hbb) s1.heap fun _ _ e => e
    have yfr : ∀ b, s.heap.objs.size ≤ b → b ∉ frs X.stack := fun b h1 hm => by
      obtain ⟨o, ho⟩ := frin b hm
      exact absurd (Nat.lt_of_lt_of_le (Heap.lt_size ho) h1) (Nat.lt_irrefl _)
    refine ⟨xs, H', hR, d2, by omega, .inr ⟨u, xs[0], g, it, l, us, rfl, hx, ru, ⟨IB, q5, st, ⟨k', lv', c', p', fs', _, setGen_at hl1, fun s'' q => nx s'' q⟩, rv, ⟨by rw [upd_ne (Ne.symm d4)]; exact q6, ?_, yfr it q9, ?_, fun x c e z => ?_, fun p hp => absurd (show p ∈ ([] : List (Addr × Obj)) ++ [] from hp) (by simp)⟩, ⟨by rw [upd_ne (Ne.symm d3)]; exact q7, ?_, fun hm => ?_⟩, ⟨by rw [upd_ne (Nat.ne_of_lt ha2)]; exact q8, ?_, yfr a ha1⟩, ⟨q11, q12⟩, hpos⟩⟩⟩
    · show it ≠ ce.locals
      rw [cL]; exact Ne.symm e4
    · by_cases hlt : it < D
      · exact .inl ((mfp it).mpr ⟨q9, hlt⟩)
      · refine .inr ?_
        show sG.heap.objs.size ≤ it
        rw [sGh, szG]
        have h1 : D ≠ it := d4
        exact Nat.lt_of_le_of_ne (Nat.le_of_not_lt hlt) h1
    · obtain ⟨vc, oc, ec, dc⟩ := I4.cell x c e
      have ec : (G.push dobj).get? c = some oc := ec
      have hcD : c ≠ D := fun q => by
        rw [q, Heap.get?_push_of_some _ gD] at ec
        cases ec; cases dc
      have hcC : c ≠ D + 1 := fun q => by
        rw [q, gC] at ec
        cases ec; cases dc
      have h1 := Heap.lt_size (gpold c oc hcD hcC ec)
      rw [z] at h1
      exact absurd (Nat.lt_of_lt_of_le h1 q9) (Nat.lt_irrefl _)
    · show l ≠ ce.locals
      rw [cL]; exact Ne.symm e3
    · obtain ⟨o, ho⟩ := frin l hm
      rw [q10] at ho; cases ho
    · show a ≠ ce.locals
      rw [cL]
      exact Nat.ne_of_lt (Nat.lt_succ_of_lt ha2)
end

def tLcY (t : TYI) (g : TG) (tt : TT) (te : TE) (vs : List Nat) : TE := fun σ H Q => t σ H fun xs H1 => ∀ D, H1 D = none → ∃ W : Nat → Hp → Prop, W 0 (upd H1 D (.lst [])) ∧
  (∀ i x H, xs[i]? = some x → W i H → g x (wipe σ vs) H fun σ2 H2 => wipe σ2 vs = wipe σ vs ∧ tt σ2 H2 fun b H3 =>
    if b = true then te σ2 H3 fun y H4 => ∃ acc, H4 D = some (.lst acc) ∧ acc.length < sizeLine ∧ W (i + 1) (upd H4 D (.lst (acc ++ [y]))) else W (i + 1) H3) ∧ ∀ H, W xs.length H → Q (.ref D) H
section
variable {X : Cx}
theorem lcY_core {pins : List (Addr × Obj)} {s : Shared} {σ : L2.St} {H : Hp} {Q : VK} {elt tg iter : Expr} {ifs : List Expr} {scope : Scope} {own : List (Str × Nat)} {pos pos' : Pos} {k : Nat} {t : TYI} {g : TG} {tt : TT} {te : TE} {use : Option (Value → Sem Unit)} {Qf : Value → Shared → Prop}
    (hN : X.N.Nodup) (I : Inv X pins σ H s) (hr : Room (k + 1) X.A) (hi : PY X k iter t) (ok : BlkOk X.N X.env.scope scope own) (hpc : ∀ h, pushCells h scope.names = h)
    (hg : ∀ (s : Shared) (H : Hp) (C : Addr) (cl : List (Str × Addr)) (fp : List Addr), PG (X.blk s H scope (compEnvC scope cl C X.env) fp) tg g) (ht : ∀ (s : Shared) (H : Hp) (C : Addr) (cl : List (Str × Addr)) (fp : List Addr), PTs (X.blk s H scope (compEnvC scope cl C X.env) fp) ifs tt)
    (he : ∀ (s : Shared) (H : Hp) (C : Addr) (cl : List (Str × Addr)) (fp : List Addr), PE (X.blk s H scope (compEnvC scope cl C X.env) fp) elt te) (hs : ∀ x, foldedSetIterable iter X.env x = pure x)
    (h : tLcY t g tt te (own.map (·.2)) σ H Q)
    (hRR : ∀ D C s' m H', Inv X pins σ H' s' → Q (.ref D) H' → s'.heap.Ns C m → FpOk X pins H' C → compPost (model X.prog X.w) X.A X.xe use Qf (.ref D) C (.ok .next) s') :
    wpAny (model X.prog X.w) X.A (comprehension (.ListComp elt [⟨tg, iter, ifs, 0⟩] scope pos) scope X.env pos' (newList []) false (eval iter X.env) use) Qf X.xe s := by
  have hfree : ∀ y ∈ scope.names, y.2 = .free → ∃ c, X.env.cells.lookup y.1 = some c := fun y hy e => by
    rcases ok.free y hy e with q | q
    · exact I.ok.has _ (.inl q)
    · exact I.ok.has _ (.inr q)
  refine wpAny_comprehension_free (use := use) rfl hs (closure_ok hfree) ok.kind (fun y hy e => by rw [ok.uniq y hy, e])
    (wpAny_mono (hi.run pins s σ H _ I h) (fun u s' hh => ?_) fun _ _ z => z)
  obtain ⟨H1, sc, I1, M⟩ := hh
  obtain ⟨a0, g0, eu, isg⟩ := made_gen M
  have hd : X.A.depth < recursionLimit := by have := hr.dp; omega
  obtain ⟨a, sG, H3, fp, eu2, IG, fG, gsz, first⟩ := blk_first (own := own) hN ok hpc I1 M hr
  subst eu
  cases eu2
  refine wpAny_pyIter_gen isg ?_
  refine wpAny_newObj_type (newEnv_comp ?_) (by show 0 ≤ sizeLine; decide)
  rw [hpc]
  generalize hce : compEnvC scope (cellsFrom ((s'.heap.push lobj).objs.size + 1) scope.names (cloFrom X.env.cells scope.names [])) (s'.heap.push lobj).objs.size X.env = ce at first
  have pg := hg sG H3 (s'.heap.push lobj).objs.size (cellsFrom ((s'.heap.push lobj).objs.size + 1) scope.names (cloFrom X.env.cells scope.names [])) fp
  have pt := ht sG H3 (s'.heap.push lobj).objs.size (cellsFrom ((s'.heap.push lobj).objs.size + 1) scope.names (cloFrom X.env.cells scope.names [])) fp
  have pe := he sG H3 (s'.heap.push lobj).objs.size (cellsFrom ((s'.heap.push lobj).objs.size + 1) scope.names (cloFrom X.env.cells scope.names [])) fp
  rw [hce] at pg pt pe
  have cL : ce.locals = (s'.heap.push lobj).objs.size := by rw [← hce]; rfl
  show codeAny _ _ (.compStart (.ListComp elt [⟨tg, iter, ifs, 0⟩] scope pos) 0 (.ref a0) (.ref s'.heap.objs.size) (compEnvC scope (cellsFrom ((s'.heap.push lobj).objs.size + 1) scope.names (cloFrom X.env.cells scope.names [])) (s'.heap.push lobj).objs.size X.env)) (compPost (model X.prog X.w) X.A X.xe use Qf (.ref s'.heap.objs.size) (s'.heap.push lobj).objs.size) { s' with heap := (s'.heap.push lobj).push dobj }
  rw [hce, ← gsz]
  generalize hD : s'.heap.objs.size = D at first ⊢
  have fin : ∀ {s6 : Shared} {H5 : Hp}, Inv (X.blk sG H3 scope ce fp) [] (wipe σ (own.map (·.2))) H5 s6 → Q (.ref D) H5 → compPost (model X.prog X.w) X.A X.xe use Qf (.ref D) sG.heap.objs.size (.ok .next) s6 := fun {s6 H5} I6 qq => by
    have I7 : Inv X pins σ H5 s6 := IG.call' (ch := fp) I6.os I6.base I6.hok I6.bare fun b hb => ⟨(fG b hb).2.2.2.1, (fG b hb).2.1, (fG b hb).2.2.2.2.1, (fG b hb).2.2.2.2.2⟩
    have nC : H5 sG.heap.objs.size = none := by
      have z : H5 ce.locals = none := I6.free
      rw [cL, ← gsz] at z
      exact z
    obtain ⟨m, hn, _⟩ := I6.loc
    have hn : s6.heap.Ns ce.locals m := hn
    rw [cL, ← gsz] at hn
    exact hRR D sG.heap.objs.size s6 m H5 I7 qq hn (IG.fpOk (Nat.le_refl _) nC)
  have loop : codeAny (model X.prog X.w) X.A (.compLoop (.ListComp elt [⟨tg, iter, ifs, 0⟩] scope pos) 0 (.ref a0) (.ref D) ce) (compPost (model X.prog X.w) X.A X.xe use Qf (.ref D) sG.heap.objs.size) { s' with heap := (s'.heap.push lobj).push dobj } := by
    generalize hCom : (fun n s2 => (n = sizeLine + 2 ∧ s2 = { s' with heap := (s'.heap.push lobj).push dobj }) ∨
      ∃ (xs : List V) (gn : Nat) (it l : Addr) (us : Array Value) (i : Nat) (H' : Hp) (W : Nat → Hp → Prop), n = xs.length + 1 - i ∧ xs.length ≤ sizeLine ∧ Mid (X.blk sG H3 scope ce fp) [] a0 gn it l us xs i (wipe σ (own.map (·.2))) H' s2 ∧ W i H' ∧
        (∀ i x H, xs[i]? = some x → W i H → g x (wipe σ (own.map (·.2))) H fun σ2 H2 => wipe σ2 (own.map (·.2)) = wipe σ (own.map (·.2)) ∧ tt σ2 H2 fun b H3 =>
          if b = true then te σ2 H3 fun y H4 => ∃ acc, H4 D = some (.lst acc) ∧ acc.length < sizeLine ∧ W (i + 1) (upd H4 D (.lst (acc ++ [y]))) else W (i + 1) H3) ∧ ∀ H, W xs.length H → Q (.ref D) H) = Coming
    refine compLoop_any Coming ?_ (sizeLine + 2) (hCom ▸ .inl ⟨rfl, rfl⟩)
    have step : ∀ {n : Nat} {s3 : Shared} {xs : List V} {gn : Nat} {it l : Addr} {us : Array Value} {i : Nat} {H' : Hp} {W : Nat → Hp → Prop} {v : Value} {x : V} {E1 : Value → Shared → Prop}, xs.length - i < n → xs.length ≤ sizeLine → xs[i]? = some x → RelV x v → Mid (X.blk sG H3 scope ce fp) [] a0 gn it l us xs (i + 1) (wipe σ (own.map (·.2))) H' s3 → W i H' →
        (∀ i x H, xs[i]? = some x → W i H → g x (wipe σ (own.map (·.2))) H fun σ2 H2 => wipe σ2 (own.map (·.2)) = wipe σ (own.map (·.2)) ∧ tt σ2 H2 fun b H3 =>
          if b = true then te σ2 H3 fun y H4 => ∃ acc, H4 D = some (.lst acc) ∧ acc.length < sizeLine ∧ W (i + 1) (upd H4 D (.lst (acc ++ [y]))) else W (i + 1) H3) → (∀ H, W xs.length H → Q (.ref D) H) →
        wpAny (model X.prog X.w) X.A (letOwnedTupleGo tg (.ref a0) v) (fun _ s₁' => wpAny (model X.prog X.w) X.A (assign tg ce v) (fun _ s₂ =>
          wpAny (model X.prog X.w) X.A (forIn ifs true fun c r => if r = true then do let ok ← isTrue c ce (eval c ce); pure (ForInStep.yield ok) else pure (ForInStep.yield r)) (fun ok s₃ =>
            if ok = true then wpAny (model X.prog X.w) X.A (eval elt ce) (fun x s₄ => wpAny (model X.prog X.w) X.A (call (.builtin "list.append") [.ref D, x]) (fun _ s₅ => ∃ m, m < n ∧ Coming m s₅) E1 s₄) E1 s₃
            else ∃ m, m < n ∧ Coming m s₃) E1 s₂) E1 s₁') E1 s3 := by
      intro n s3 xs gn it l us i H' W v x E1 hn hz hx rx m w hst hdn
      obtain ⟨oa, nm, qn, ea, ca, da, sa⟩ := m.gen
      refine go_of (n := "generator") ea ca da (by decide) ?_
      obtain ⟨pl, I0, again⟩ := m.aside
      have more : ∀ {s' : Shared} {σ8 : L2.St} {H8 : Hp}, Hid (sleepsOf s3.gens) s'.gens → Inv (X.blk sG H3 scope ce fp) ([] ++ pl) σ8 H8 s' → wipe σ8 (own.map (·.2)) = wipe σ (own.map (·.2)) → W (i + 1) H8 → ∃ m, m < n ∧ Coming m (unhid (sleepsOf s3.gens) s') := fun {s' σ8 H8} o J hw w8 => by
        have mm := again o J
        have hl : (wipe σ (own.map (·.2))).length = σ8.length := by rw [← hw, wipe_length]
        refine ⟨xs.length + 1 - (i + 1), by omega, hCom ▸ .inr ⟨xs, gn, it, l, us, i + 1, H8, W, rfl, hz, mm.with (mm.inv.weak hl fun j v e => ?_), w8, hst, hdn⟩⟩
        rw [← hw] at e
        exact (wipe_some e).1
      refine wpAny_mono (wpAny_hid (s := s3) (pg.run _ (hid s3) _ H' x v _ I0 rx (hst i x H' hx w))) (fun _ s4 hh => ?_) fun e s4 hh => (by obtain ⟨_, _, _, z⟩ := hh; exact z.elim)
      obtain ⟨s4h, e4, o4, σ8, H8, I8, hw8, q8⟩ := hh
      subst e4
      refine wpAny_mono (wpAny_unhid o4 (pt.run _ s4h σ8 H8 _ I8 q8)) (fun b s5 hh => ?_) fun e s5 hh => (by obtain ⟨_, _, _, z⟩ := hh; exact z.elim)
      obtain ⟨s5h, e5, o5, H9, I9, q9⟩ := hh
      subst e5
      cases b with
      | false =>
        simp only [Bool.false_eq_true, if_false] at q9 ⊢
        exact more o5 I9 hw8 q9
      | true =>
        simp only [if_true] at q9 ⊢
        refine wpAny_mono (wpAny_unhid o5 (pe.run _ s5h σ8 H9 _ I9 q9)) (fun z s6 hh => ?_) fun e s6 hh => (by obtain ⟨_, _, _, z⟩ := hh; exact z.elim)
        obtain ⟨s6h, e6, o6, yv, H10, I10, r10, acc, hD10, hz10, nx⟩ := hh
        subst e6
        have run : wpAny (model X.prog X.w) X.A (call (.builtin "list.append") [.ref D, z]) (fun _ s' => Inv (X.blk sG H3 scope ce fp) ([] ++ pl) σ8 (upd H10 D (.lst (acc ++ [yv]))) s') (fun _ _ => False) s6h :=
          app_ok (X := X.blk sG H3 scope ce fp) I10 hD10 hz10 r10 fun s11 I11 => I11
        refine wpAny_mono (wpAny_unhid o6 run) (fun _ s7 hh => ?_) fun e s7 hh => (by obtain ⟨_, _, _, z⟩ := hh; exact z.elim)
        obtain ⟨s7h, e7, o7, I11⟩ := hh
        subst e7
        exact more o7 I11 hw8 nx
    rintro n s3 hI
    rw [← hCom] at hI
    rcases hI with ⟨rfl, rfl⟩ | ⟨xs, gn, it, l, us, i, H', W, rfl, hz, m, w, hst, hdn⟩
    · refine wpAny_mono (first ce (notedBy (model X.prog X.w) X.A ce fun e s' => _) rfl) (fun r s4 h4 => ?_) fun _ _ z => z
      obtain ⟨xs, H2, hW, nD, hz, h4⟩ := h4
      obtain ⟨W, w0, hst, hdn⟩ := hW D nD
      rcases h4 with ⟨rfl, rfl, J⟩ | ⟨v, x, gn, it, l, us, rfl, hx, rx, m⟩
      · exact fin J (hdn _ w0)
      · exact step (by have := (List.getElem?_eq_some_iff.mp hx).1; omega) hz hx rx m w0 hst hdn
    · refine wpAny_mono (m.next (E := notedBy (model X.prog X.w) X.A ce fun e s' => _) hr.hd hd) (fun r s4 h4 => ?_) fun _ _ z => z
      rcases h4 with ⟨rfl, ei, J⟩ | ⟨v, x, rfl, hx, rx, m'⟩
      · subst ei
        exact fin J (hdn _ w)
      · exact step (by have := (List.getElem?_eq_some_iff.mp hx).1; omega) hz hx rx m' w hst hdn
  exact codeAny_compStart_list loop (wpAny_pyIter_gen (s := { s' with heap := (s'.heap.push lobj).push dobj }) (isg.keeps fun b o e => Heap.get?_push_of_some _ (Heap.get?_push_of_some _ e)) loop)

theorem pe_lcY {elt tg iter : Expr} {ifs : List Expr} {scope : Scope} {own : List (Str × Nat)} {pos : Pos} {k : Nat} {t : TYI} {g : TG} {tt : TT} {te : TE} (hN : X.N.Nodup) (hr : Room (k + 1) X.A) (hi : PY X k iter t) (ok : BlkOk X.N X.env.scope scope own) (hpc : ∀ h, pushCells h scope.names = h)
    (hg : ∀ (s : Shared) (H : Hp) (C : Addr) (cl : List (Str × Addr)) (fp : List Addr), PG (X.blk s H scope (compEnvC scope cl C X.env) fp) tg g) (ht : ∀ (s : Shared) (H : Hp) (C : Addr) (cl : List (Str × Addr)) (fp : List Addr), PTs (X.blk s H scope (compEnvC scope cl C X.env) fp) ifs tt)
    (he : ∀ (s : Shared) (H : Hp) (C : Addr) (cl : List (Str × Addr)) (fp : List Addr), PE (X.blk s H scope (compEnvC scope cl C X.env) fp) elt te) (hs : ∀ x, foldedSetIterable iter X.env x = pure x := by intro _; rfl) :
    PE X (.ListComp elt [⟨tg, iter, ifs, 0⟩] scope pos) (tLcY t g tt te (own.map (·.2))) := by
  refine ⟨fun pins s σ H Q I h => ?_⟩
  rw [eval_ListComp]
  refine lcY_core hN I hr hi ok hpc hg ht he hs h fun D C s' m H' I' q hn f => ⟨m, hn, fun h'' sb => ?_⟩
  obtain ⟨f0, f1, f2, f3, f4, f5⟩ := f
  exact ⟨.ref D, H', I'.turned (t' := s'.toks) (fun b o hb e => (sb.2 b hb).trans e) f0 f1 f3 f4 f5, rfl, q⟩

theorem ps_setLcY {i : Nat} {y : Str} {py : Pos} {elt tg iter : Expr} {ifs : List Expr} {scope : Scope} {own : List (Str × Nat)} {pos spos : Pos} {k : Nat} {t : TYI} {g : TG} {tt : TT} {te : TE} (hN : X.N.Nodup) (hy : X.N[i]? = some y) (hyl : X.env.scope.names.lookup y = some .local)
    (hsw : swapsWith (.ListComp elt [⟨tg, iter, ifs, 0⟩] scope pos) (some (.Name y py)) spos.line X.env = pure true) (hr : Room (k + 1) X.A) (hi : PY X k iter t) (ok : BlkOk X.N X.env.scope scope own) (hpc : ∀ h, pushCells h scope.names = h)
    (hg : ∀ (s : Shared) (H : Hp) (C : Addr) (cl : List (Str × Addr)) (fp : List Addr), PG (X.blk s H scope (compEnvC scope cl C X.env) fp) tg g) (ht : ∀ (s : Shared) (H : Hp) (C : Addr) (cl : List (Str × Addr)) (fp : List Addr), PTs (X.blk s H scope (compEnvC scope cl C X.env) fp) ifs tt)
    (he : ∀ (s : Shared) (H : Hp) (C : Addr) (cl : List (Str × Addr)) (fp : List Addr), PE (X.blk s H scope (compEnvC scope cl C X.env) fp) elt te) (hs : ∀ x, foldedSetIterable iter X.env x = pure x := by intro _; rfl) :
    PS X (.Assign [.Name y py] (.ListComp elt [⟨tg, iter, ifs, 0⟩] scope pos) spos) (tAsg (tLcY t g tt te (own.map (·.2))) (gName i)) := by
  refine ⟨fun pins s σ H D I h => ?_⟩
  rw [exec_Assign_Name_used _ _ _ _ hsw]
  refine wpAny_bind (wpAny_standAt (wpAny_bind ?_))
  show wpAny _ X.A (do let _ ← comprehension (.ListComp elt [⟨tg, iter, ifs, 0⟩] scope pos) scope X.env (firstIterPos [⟨tg, iter, ifs, 0⟩] pos) (newList []) false (eval iter X.env) (some (assign (.Name y py) X.env))) _ _ s
  have h : tLcY t g tt te (own.map (·.2)) σ H (fun x H1 => gName i x σ H1 D.nx) := h
  refine wpAny_bind (wpAny_mono (lcY_core (Qf := fun _ s' => SP X pins D .next s') hN I hr hi ok hpc hg ht he hs h fun L C s' m H' I' q hn f => ?_) (fun _ s' hq => wpAny_pure (wpAny_pure hq)) fun _ _ z => z)
  show wpAny _ _ (assign (.Name y py) X.env (.ref L)) _ _ _
  refine wpAny_assign_Name (store_ok2 (v := V.ref L) I' hN hy (.inl hyl) rfl (fun s2 I2 ⟨a, sb, ha⟩ => ?_) (.inr hyl))
  obtain ⟨f0, f1, f2, f3, f4, f5⟩ := f
  have haC : C ≠ a := by
    rcases ha with z | z
    · rw [z]; exact f1
    · exact fun e => f4 y a z e.symm
  refine ⟨m, hn.sameBut sb haC, fun h3 sb3 => ?_⟩
  exact ⟨_, H', I2.turned (t' := s2.toks) (fun b o hb e => (sb3.2 b hb).trans e) f0 f1 f3 f4 f5, q⟩
end
end My
set_option Elab.async false
set_option maxRecDepth 100000
set_option maxHeartbeats 4000000
set_option linter.unusedVariables false
namespace My
open PySem PySem.Spec PyProof.Rows L2 L2.DX

def rSortF : List V → Hp → VK → Prop := fun vs H Q => ∃ (p d : Addr) (es : List (Int × Str)), vs = [.ref p] ∧ H p = some (itemsO p d) ∧ H d = some (.dK (ents es)) ∧ (keys es).Nodup ∧ es.length ≤ 1000 ∧
  ∀ (H' : Hp) (l : Addr) (ts : List V) (es' : List (Int × Str)), Same H H' → H l = none → H' l = some (.lst ts) → TupS H' ts es' → es'.Perm es → es'.Pairwise (fun p q => p.1 < q.1) → Q (.ref l) H'
section
variable {X : Cx}
theorem cr_sortedF (hc : X.calm = true) : CallR X (.builtin "sorted") rSortF := by
  intro pins s σ H xs us Q I r h
  obtain ⟨p, d, es, rfl, hp, hd, nd, hlen, q⟩ := h
  obtain rfl := Vals.ref1 r
  have view : s.heap.IsItemsView p d := (show ObjOk X.prog X.w H s.heap p (itemsO p d) from I.hok p _ hp).1
  obtain ⟨_, hs, vs, kv, o, ed, ep, ho, hx, hdt, ks, pr, _⟩ := dk_of I.hok hd
  have size : ed.size = es.length := by rw [← Array.length_toList, pairs_len pr, ← kv_len kv, ents_len]
  refine DT.sortedI (es := ed) (ep := ep) (I.ok.hd hc) view ⟨o, ho, hx, hdt⟩ (by rw [size]; exact size_ok (by omega)) fun h' tk as hk hlt hl hG => ?_
  have la : as.length = es.length := hl.trans size
  have nda : as.Nodup := List.Pairwise.imp (fun h => Nat.ne_of_lt h) hG.rise
  have made : ∀ (j : Nat) (b : Addr), as[j]? = some b → ∃ n x t u, es[j]? = some (n, x) ∧ h'.get? b = some { cls := .type "tuple", data := .seq #[Value.int n t, Value.str x u] } := by
    intro j b hj
    obtain ⟨e, he, hb⟩ := hG.pairs j b hj
    have hj2 : j < es.length := by rw [← la]; exact (List.getElem?_eq_some_iff.mp hj).1
    have hj3 : es[j]? = some (es[j].1, es[j].2) := List.getElem?_eq_getElem hj2
    obtain ⟨e2, t, u, h1, h2, h3⟩ := ent_of kv pr hj3
    obtain rfl := Option.some.inj (he.symm.trans h1)
    exact ⟨_, _, t, u, hj3, by rw [hb, h2, h3]⟩
  have hget : ∀ (b : Addr), b ∈ as → ∃ (j : Nat) (n : Int) (x : Str) (t u : Tok), as[j]? = some b ∧ es[j]? = some (n, x) ∧ h'.get? b = some { cls := .type "tuple", data := .seq #[Value.int n t, Value.str x u] } := by
    intro b hb
    obtain ⟨j, hj⟩ := List.mem_iff_getElem?.mp hb
    obtain ⟨n, x, t, u, h1, h2⟩ := made j b hj
    exact ⟨j, n, x, t, u, hj, h1, h2⟩
  have kk : ∀ {b : Addr} {n : Int} {x : Str} {t u : Tok}, h'.get? b = some { cls := .type "tuple", data := .seq #[Value.int n t, Value.str x u] } → keyIn h' (.ref b) = n ∧ txtIn h' (.ref b) = x := by
    intro b n x t u e
    unfold keyIn txtIn
    dsimp only
    rw [e]
    exact ⟨rfl, rfl⟩
  have old : ∀ b o, h'.get? b = some o → b ≠ h'.objs.size := fun b o e => Nat.ne_of_lt (Heap.lt_size e)
  have hob : (h'.push { cls := .type "list", data := .seq (as.map Value.ref).toArray }).get? h'.objs.size = some (seqObj "list" (as.map Value.ref).toArray 0) := Heap.get?_push_size _ rfl
  have ka : ∀ b o, h'.get? b = some o → (h'.push { cls := .type "list", data := .seq (as.map Value.ref).toArray }).get? b = some o := fun b o e => Heap.get?_push_of_some _ e
  generalize h'.push { cls := .type "list", data := .seq (as.map Value.ref).toArray } = h2 at hob ka ⊢
  have hz : (as.map Value.ref).length ≤ sizeLine := by rw [List.length_map, la]; exact size_ok (by omega)
  have ents2 : ∀ v ∈ as.map Value.ref, Ent h2 v (keyIn h' v) (txtIn h' v) := by
    intro v hv
    obtain ⟨b, hb, rfl⟩ := List.mem_map.mp hv
    obtain ⟨j, n, x, t, u, _, _, e⟩ := hget b hb
    rw [(kk e).1, (kk e).2]
    exact ⟨b, _, t, u, _, rfl, ka _ _ e, rfl, rfl⟩
  have one : ∀ v ∈ as.map Value.ref, ∀ u ∈ as.map Value.ref, keyIn h' v = keyIn h' u → txtIn h' v = txtIn h' u := by
    intro v hv u hu e
    obtain ⟨b, hb, rfl⟩ := List.mem_map.mp hv
    obtain ⟨c, hc2, rfl⟩ := List.mem_map.mp hu
    obtain ⟨j, n, x, t1, u1, _, e1, g1⟩ := hget b hb
    obtain ⟨i, m, y, t2, u2, _, e2, g2⟩ := hget c hc2
    rw [(kk g1).1, (kk g2).1] at e
    subst e
    rw [(kk g1).2, (kk g2).2]
    have l1 := look_ents nd (List.mem_of_getElem? e1)
    have l2 := look_ents nd (List.mem_of_getElem? e2)
    dsimp only at l1 l2
    rw [l1] at l2
    exact Option.some.inj l2
  refine wpAny_call_entry PyProof.Rows.slot_list_sort ⟨_, hob, rfl⟩ PyProof.Rows.entry_list_sort
    (SrtO.list_sort_ord (s := { s with heap := h2, toks := tk }) (swo_key (keyIn h')) hob hz (fun n2 => ent_sortable (by omega) ents2 one fun o e => ?_) fun out o1 o2 => ⟨.none, rfl, ?_⟩) (PyProof.Rows.args_list_sort _)
  · cases hob.symm.trans e
    intro z
    injection z with z
    revert z
    decide
  · show EP X pins σ Q (.ref h'.objs.size) { s with heap := sortedHeap h2 h'.objs.size (as.map Value.ref) out.toArray, toks := tk }
    have ez : (as.zip es).map (fun z => Value.ref z.1) = as.map Value.ref := by
      have q : (as.zip es).map (·.1) = as := List.map_fst_zip (by omega)
      rw [show (fun z : Addr × Int × Str => Value.ref z.1) = Value.ref ∘ (·.1) from rfl, ← List.map_map, q]
    obtain ⟨zs, pz, eo⟩ := perm_map (fun z : Addr × Int × Str => Value.ref z.1) (l := as.zip es) (out := out) (by rw [ez]; exact o2.perm)
    have at_ : ∀ z ∈ zs, ∃ j : Nat, as[j]? = some z.1 ∧ es[j]? = some z.2 := by
      intro z hz
      obtain ⟨j, hj⟩ := List.mem_iff_getElem?.mp (pz.mem_iff.mp hz)
      exact ⟨j, List.getElem?_zip_eq_some.mp hj⟩
    have pes : (zs.map (·.2)).Perm es := by
      have e := pz.map (·.2)
      rw [List.map_snd_zip (by omega)] at e
      exact e
    have key : ∀ z ∈ zs, keyIn h' (.ref z.1) = z.2.1 := by
      intro z hz
      obtain ⟨j, j1, j2⟩ := at_ z hz
      obtain ⟨n, x, t, u, e1, e2⟩ := made j z.1 j1
      rw [(kk e2).1]
      rw [j2] at e1
      rw [Option.some.inj e1]
    have srt : (zs.map (·.2)).Pairwise (fun p q => p.1 < q.1) := by
      have le : (zs.map (·.2)).Pairwise (fun p q => p.1 ≤ q.1) := by
        rw [← eo] at o1
        rw [List.pairwise_map]
        refine List.Pairwise.imp_of_mem (fun {a b} ha hb h => ?_) (List.pairwise_map.mp o1)
        have := of_decide_eq_false h
        rw [key a ha, key b hb] at this
        omega
      have nd2 : ((zs.map (·.2)).map (fun p : Int × Str => p.1)).Nodup := ((pes.map (fun p : Int × Str => p.1)).nodup_iff).mpr nd
      have ne : (zs.map (·.2)).Pairwise (fun p q => p.1 ≠ q.1) := List.pairwise_map.mp nd2
      exact (List.Pairwise.and le ne).imp fun h => by have := h.1; have := h.2; omega
    have kF : ∀ b o, b ≠ h'.objs.size → h2.get? b = some o → (sortedHeap h2 h'.objs.size (as.map Value.ref) out.toArray).get? b = some o :=
      fun b o nb e => (PyProof.Rows.sortedHeap_old nb (Heap.lt_size e)).trans e
    obtain ⟨eF, heF⟩ := PyProof.Rows.sortedHeap_at (vs := as.map Value.ref) (out := out.toArray) hob
    have I1 : Inv X pins σ H { s with heap := sortedHeap h2 h'.objs.size (as.map Value.ref) out.toArray, toks := tk } :=
      I.kept (t' := tk) fun b o e => kF b o (old _ _ (hk b o e)) (ka b o (hk b o e))
    have hn : H h'.objs.size = none := I.hok.fresh (Nat.le_of_lt hlt)
    have lz : zs.length = es.length := by
      have := pes.length_eq
      rw [List.length_map] at this
      exact this
    have rv : Vals (zs.map fun z => V.ref z.1) out := by
      rw [← eo]
      exact vals_maps (fun z : Addr × Int × Str => V.ref z.1) (fun z => Value.ref z.1) zs fun _ _ => rfl
    have I2 : Inv X pins σ (upd H h'.objs.size (.lst (zs.map fun z => V.ref z.1))) { s with heap := sortedHeap h2 h'.objs.size (as.map Value.ref) out.toArray, toks := tk } :=
      I1.take (h' := sortedHeap h2 h'.objs.size (as.map Value.ref) out.toArray) (t' := tk) (fun b ob _ e => e) (I.fpOk (Nat.le_of_lt hlt) hn)
        ⟨by rw [List.length_map, lz]; exact size_ok (by omega), out, eF, rv, by simpa using heF⟩
    obtain ⟨H2, I3, g, qt⟩ := takeT (P := fun b vs => ∃ (j : Nat) (n : Int) (x : Str), as[j]? = some b ∧ es[j]? = some (n, x) ∧ vs = [.int n, .str x]) I as _ I2 nda fun b hb => by
      obtain ⟨j, n, x, t, u, j1, j2, e⟩ := hget b hb
      have lb : s.heap.objs.size ≤ b := Nat.le_of_lt (hG.above b hb)
      refine ⟨lb, ?_, [.int n, .str x], ⟨j, n, x, j1, j2, rfl⟩, fun H3 => ⟨size_ok (by simp), [Value.int n t, Value.str x u], .cons ⟨_, rfl⟩ (.cons ⟨_, rfl⟩ .nil), ⟨_, kF _ _ (old _ _ e) (ka _ _ e), rfl, 0, rfl⟩⟩⟩
      rw [upd_ne (old _ _ e)]
      exact I.hok.fresh lb
    have gr : Same H H2 := fun b o e => g b o ((upd_ne (ne_of_none e hn)).trans e)
    refine ⟨.ref h'.objs.size, H2, I3, rfl, q H2 h'.objs.size _ _ gr hn (g _ _ upd_same) (tupS_of zs fun z hz => ?_) pes srt⟩
    obtain ⟨i, i1, i2⟩ := at_ z hz
    obtain ⟨vs, ⟨j, n, x, j1, j2, rfl⟩, hH⟩ := qt z.1 (List.mem_of_getElem? i1)
    have eij : i = j := (List.getElem?_inj (List.getElem?_eq_some_iff.mp i1).1 nda).mp (i1.trans j1.symm)
    subst eij
    rw [i2] at j2
    rw [Option.some.inj j2]
    exact hH
end

theorem op_either {X : Cx} {f : Value → Value → Sem Value} {r1 r2 : V → V → Hp → VK → Prop} (h1 : OpR X f r1) (h2 : OpR X f r2) : OpR X f (fun x y H Q => r1 x y H Q ∨ r2 x y H Q) := by
  intro pins s σ H x y u v Q I rx ry h
  rcases h with h | h
  · exact h1 pins s σ H x y u v Q I rx ry h
  · exact h2 pins s σ H x y u v Q I rx ry h

def spFormD (K : PySem.W.Frag) (C : Addr) : Sp := fun vs H Q _ => ∃ U a rs n x v, vs = [.ref a, .int n] ∧ DD K C U H a rs ∧ lk rs n = some (x, v) ∧ ∀ H', Same H H' → Q (.str x) H'

def spMemF (C : Addr) : Sp := fun vs H Q _ => ∃ U a es, vs = [.ref a] ∧ FS C U H a es ∧
  ∀ (H' : Hp) (l : Addr) (ts : List V) (es' : List (Int × Str)), Same H H' → H l = none → H' l = some (.lst ts) → TupS H' ts es' → es'.Perm es → es'.Pairwise (fun p q => p.1 < q.1) → Q (.ref l) H'
def spEntF (K : PySem.W.Frag) (C : Addr) : Sp := fun vs H Q _ => ∃ U a rs, vs = [.ref a] ∧ DD K C U H a rs ∧
  ∀ (H' : Hp) (l : Addr) (ts : List V) (rs' : List (Int × Rw)), Same H H' → H l = none → H' l = some (.lst ts) → Tup3 H' ts rs' → rs'.Perm rs → rs'.Pairwise (fun p q => p.1 < q.1) → Q (.ref l) H'

def spEach (C : Addr) : SpY := fun vs H Q => ∃ U a es, vs = [.ref a] ∧ FS C U H a es ∧
  ∀ (H' : Hp) (ts : List V) (es' : List (Int × Str)), Same H H' → TupS H' ts es' → es'.Perm es → es'.Pairwise (fun p q => p.1 < q.1) → Q ts H'
def spEachD (K : PySem.W.Frag) (C : Addr) : SpY := fun vs H Q => ∃ U a rs, vs = [.ref a] ∧ DD K C U H a rs ∧
  ∀ (H' : Hp) (ts : List V) (rs' : List (Int × Rw)), Same H H' → Tup3 H' ts rs' → rs'.Perm rs → rs'.Pairwise (fun p q => p.1 < q.1) → Q ts H'
theorem gone_keep {H : Hp} {l b : Addr} {xs : List V} {o : HO} (hl : H l = some (.lst xs)) (e : H b = some o) (h : ∀ ys, o ≠ .lst ys) : gone H l b = some o := by
  rw [gone_ne (fun z => by rw [z, hl] at e; exact h _ (Option.some.inj e).symm)]; exact e
theorem same_gone {H H' : Hp} {l : Addr} (s : Same H H') (h : H l = none) : Same H (gone H' l) := fun b o e => by
  rw [gone_ne (fun z => by rw [z, h] at e; cases e)]; exact s b o e
theorem tupS_gone {H : Hp} {l : Addr} {xs : List V} (hl : H l = some (.lst xs)) : ∀ {ts : List V} {es : List (Int × Str)}, TupS H ts es → TupS (gone H l) ts es
  | _, _, .nil => .nil
  | _, _, .cons h r => .cons (gone_keep hl h (fun _ z => by cases z)) (tupS_gone hl r)
theorem tup3_gone {H : Hp} {l : Addr} {xs : List V} (hl : H l = some (.lst xs)) : ∀ {ts : List V} {rs : List (Int × Rw)}, Tup3 H ts rs → Tup3 (gone H l) ts rs
  | _, _, .nil => .nil
  | _, _, .cons h r => .cons (gone_keep hl h (fun _ z => by cases z)) (tup3_gone hl r)
end My
set_option Elab.async false
set_option maxRecDepth 100000
set_option maxHeartbeats 4000000
set_option linter.unusedVariables false
namespace My
open PySem PySem.Spec PyProof.Rows L2 L2.DX

def intsV (l : List (Int × Int)) : List (Key × V) := entsV (l.map fun p => (p.1, V.int p.2))
theorem ints_len (l : List (Int × Int)) : (intsV l).length = l.length := by unfold intsV; rw [entsV_len, List.length_map]
theorem valV_intsV (k : Int) : ∀ l : List (Int × Int), valV (intsV l) (.inl k) = (lk l k).map V.int := by
  intro l
  unfold intsV
  rw [valV_entsV]
  induction l with
  | nil => rfl
  | cons p l ih =>
    rw [List.map_cons, lk_cons, lk_cons]
    by_cases e : p.1 = k
    · rw [if_pos e, if_pos e]; rfl
    · rw [if_neg e, if_neg e]; exact ih
def sameInts (l m : List (Int × Int)) : Bool := l.length == m.length && l.all fun p => lk m p.1 == some p.2
def rEqI : R2 := fun x y H Q => ∃ a b l m, x = .ref a ∧ y = .ref b ∧ H a = some (.dK (intsV l)) ∧ H b = some (.dK (intsV m)) ∧ Q (.bl (sameInts l m)) H
theorem hits_ints {P : Program} {w : World} {A : Around} {s : Shared} {m : List (Int × Int)} {vb : List (Key × Value)} (rb : KV (intsV m) vb) : ∀ {l : List (Int × Int)} {va : List (Key × Value)}, KV (intsV l) va →
    PySem.W.KeqHitsP P w A s vb va (l.all fun p => lk m p.1 == some p.2) := by
  intro l
  induction l with
  | nil =>
    intro va ra
    cases ra
    exact .nil
  | cons p l ih =>
    intro va ra
    unfold KV intsV at ra
    rw [List.map_cons] at ra
    cases ra with
    | @cons _ q _ qs h t =>
      obtain ⟨h1, h2⟩ := h
      obtain ⟨key, v⟩ := q
      have h1' : (Sum.inl p.1 : Key) = key := h1
      subst h1'
      obtain ⟨tk, e2⟩ := (show RelV (.int p.2) v from h2)
      subst e2
      have ih' := ih (va := qs) (by unfold KV intsV; exact t)
      have rr : RelO (valV (intsV m) (.inl p.1)) (valueAt vb (.inl p.1)) := rb.val (.inl p.1)
      rw [valV_intsV] at rr
      rw [List.all_cons]
      cases e : lk m p.1 with
      | none =>
        rw [e] at rr
        have hn : valueAt vb (.inl p.1) = none := RelO.none_of rr
        show PySem.W.KeqHitsP P w A s vb _ ((none == some p.2) && _)
        exact .miss hn
      | some n =>
        rw [e] at rr
        obtain ⟨y, hy, tk2, ry⟩ := rr.some_of
        subst ry
        obtain ⟨b, hb, hi⟩ := HT.eqAt_int A s p.2 tk n tk2
        have eb : (some n == some p.2) = b := by
          cases b with
          | true => rw [hi.mp rfl]; exact beq_self_eq_true _
          | false =>
            have : ¬ n = p.2 := fun z => by have := hi.mpr z.symm; cases this
            simpa using this
        rw [eb]
        exact .hit hy hb.eqP ih'
section
variable {X : Cx}
theorem op_eqI (hu : X.A.units + 80 < cLine) : OpR X (compareOp .Eq) rEqI := by
  intro pins s σ H x y v u Q I rx ry h
  obtain ⟨a, b, l, m, rfl, rfl, ha, hb, q⟩ := h
  cases (show v = Value.ref a from rx)
  cases (show u = Value.ref b from ry)
  obtain ⟨_, ya, va, ra, da⟩ := (show ObjOk X.prog X.w H s.heap a (.dK (intsV l)) from I.hok a _ ha)
  obtain ⟨_, yb, vb, rb, db⟩ := (show ObjOk X.prog X.w H s.heap b (.dK (intsV m)) from I.hok b _ hb)
  refine PySem.W.rcP_dicts (knd := mixKind X.prog X.w) (r := l.all fun p => lk m p.1 == some p.2) ya yb da db (by omega) (fun _ => hits_ints rb ra) _ _ ?_
  have e1 : va.length = l.length := by rw [← ra.length, ints_len]
  have e2 : vb.length = m.length := by rw [← rb.length, ints_len]
  rw [e1, e2]
  exact ⟨.bl _, H, I, rfl, q⟩
end
def valsOf (rs : List (Int × Rw)) : List (Int × Int) := rs.map fun r => (r.1, r.2.2)
def spValsOf (K : PySem.W.Frag) : Sp := fun vs H Q _ => ∃ U d rs, vs = [.ref d] ∧ RD K U H d rs ∧ ∀ p H', H p = none → Same H H' → H' p = some (.dK (intsV (valsOf rs))) → Q (.ref p) H'
def spEqualsD (K : PySem.W.Frag) (C : Addr) : Sp := fun vs H Q _ => ∃ U a b rs qs, vs = [.ref a, .ref b] ∧ DD K C U H a rs ∧ DD K C U H b qs ∧ ∀ H', Same H H' → Q (.bl (sameInts (valsOf rs) (valsOf qs))) H'
theorem vals_take_put {rs : List (Int × Rw)} {i : Nat} {n m : Int} {y : Str} (nd : (ks rs).Nodup) (h : rs[i]? = some (n, (y, m))) : putK (intsV (valsOf (rs.take i))) (.inl n) (.int m) = intsV (valsOf (rs.take (i + 1))) := by
  have e : ∀ j, intsV (valsOf (rs.take j)) = entsV (((rs.map fun r => (r.1, V.int r.2.2)).take j).filter fun p => (fun _ => true) p.1) := fun j => by
    unfold intsV valsOf
    rw [List.map_map, ← List.map_take, List.filter_eq_self.mpr (fun _ _ => rfl)]
    rfl
  have nd2 : (ks (rs.map fun r => (r.1, V.int r.2.2))).Nodup := by
    have q : ks (rs.map fun r => (r.1, V.int r.2.2)) = ks rs := by unfold ks; rw [List.map_map]; rfl
    rw [q]; exact nd
  have z := filter_take_put nd2 (v := V.int m) (i := i) (n := n) (by rw [List.getElem?_map, h]; rfl) (fun _ => true)
  rw [e, e, put_entsV, z, if_pos rfl]
end My
set_option Elab.async false
set_option maxRecDepth 100000
set_option maxHeartbeats 4000000
set_option linter.unusedVariables false
namespace My
open PySem PySem.Spec PyProof.Rows L2 L2.DX

def DenS (S : Addr) (U : List Int) (σ : L2.St) (F : Hp → Prop) (t : TE) (f : Int → Option Str) : Prop :=
  ∀ (H : Hp) (Q : VK), F H → (∀ y H' es, Same H H' → FS S U H' y es → (∀ k, look es k = f k) → Q (.ref y) H') → t σ H Q
def DenD (K : PySem.W.Frag) (C : Addr) (U : List Int) (σ : L2.St) (F : Hp → Prop) (t : TE) (f : Int → Option Rw) : Prop :=
  ∀ (H : Hp) (Q : VK), F H → (∀ y H' rs, Same H H' → DD K C U H' y rs → (∀ k, lk rs k = f k) → Q (.ref y) H') → t σ H Q
def VSf (f : Int → Option Str) : Prop := ∀ k x, f k = some x → (0 ≤ k ∧ k ≤ 999999) ∧ nameOk x = true
theorem vs_f {U : List Int} {es : List (Int × Str)} {f : Int → Option Str} (g : Good U es) (e : ∀ k, look es k = f k) (h : VSf f) : VS es := fun p hp => by
  have l := look_ents g.1 hp
  rw [e] at l
  exact h _ _ l

def cutF (f : Int → Option Rw) (s : Int → Option Str) : Int → Option Rw := fun k => if (s k).isSome = true then none else f k
def inF (f : Int → Option Rw) (s : Int → Option Str) : Int → Option Rw := fun k => if (s k).isSome = true then f k else none
def formsF (f : Int → Option Rw) : Int → Option Str := fun k => (f k).map (·.1)
def sOr (a b : Int → Option Str) : Int → Option Str := fun k => (a k).or (b k)
def sSub (a b : Int → Option Str) : Int → Option Str := fun k => if (b k).isSome = true then none else a k
def sKept (a b : Int → Option Str) : Int → Option Str := fun k => if (b k).isSome = true then a k else none
def dOr (f g : Int → Option Rw) : Int → Option Rw := fun k => over (f k) (g k)
def dLook (s : Int → Option Str) (f : Int → Option Rw) : Int → Option Rw := fun k => lookedAt (s k) (f k)
section
variable {K : PySem.W.Frag} {C S : Addr} {U : List Int} {σ : L2.St} {F : Hp → Prop} {ta tb : TE} {f g : Int → Option Rw} {s t : Int → Option Str}
theorem denS_var {i : Nat} {a : Addr} (e : σ[i]? = some (some (.ref a))) (h : ∀ H, F H → ∃ es, FS S U H a es ∧ ∀ k, look es k = s k) : DenS S U σ F (tVar i) s := fun H Q hf k => by
  obtain ⟨es, h1, h2⟩ := h H hf
  exact ⟨_, e, k a H es (Same.refl H) h1 h2⟩
theorem denD_var {i : Nat} {a : Addr} (e : σ[i]? = some (some (.ref a))) (h : ∀ H, F H → ∃ rs, DD K C U H a rs ∧ ∀ k, lk rs k = f k) : DenD K C U σ F (tVar i) f := fun H Q hf k => by
  obtain ⟨rs, h1, h2⟩ := h H hf
  exact ⟨_, e, k a H rs (Same.refl H) h1 h2⟩
theorem denS_op {op : List (Int × Str) → List (Int × Str) → List (Int × Str)} {w : (Int → Option Str) → (Int → Option Str) → Int → Option Str} (hw : ∀ es fs k, look (op es fs) k = w (look es) (look fs) k) (hF : Stable F) (ha : DenS S U σ F ta s) (hb : DenS S U σ F tb t) :
    DenS S U σ F (tOp (rBin S (spOp S op)) ta tb) (w s t) := by
  intro H Q hf k
  refine ha H _ hf fun x H1 es s1 hx ex => hb H1 _ (hF _ _ s1 hf) fun y H2 fs s2 hy ey => ?_
  have hx2 := hx.same s2
  have hy2 := hy
  obtain ⟨dx, d, e1, _⟩ := hx2
  obtain ⟨dy, d', e2, _⟩ := hy2
  refine ⟨x, y, _, _, _, _, rfl, rfl, e1, e2, U, x, y, es, fs, rfl, hx.same s2, hy, fun d H3 s3 hd => k d H3 _ ((s1.trans s2).trans s3) hd fun j => ?_⟩
  rw [hw, funext ex, funext ey]
theorem denS_meth {op : List (Int × Str) → List (Int × Str) → List (Int × Str)} {w : (Int → Option Str) → (Int → Option Str) → Int → Option Str} {m : Str} (hm : ∀ v : V, List.lookup m [(("_forms" : Str), v)] = none) (hw : ∀ es fs k, look (op es fs) k = w (look es) (look fs) k) (hF : Stable F)
    (ha : DenS S U σ F ta s) (hb : DenS S U σ F tb t) : DenS S U σ F (tMeth S m (spOp S op) [] E0 ta (tCons tb tNil)) (w s t) := by
  intro H Q hf k
  refine ha H _ hf fun x H1 es s1 hx ex => ?_
  have hx1 := hx
  obtain ⟨dx, d, e1, _⟩ := hx1
  refine ⟨x, _, _, rfl, e1, hm _, hb H1 _ (hF _ _ s1 hf) fun y H2 fs s2 hy ey => ?_⟩
  refine ⟨U, x, y, es, fs, rfl, hx.same s2, hy, fun d H3 s3 hd => k d H3 _ ((s1.trans s2).trans s3) hd fun j => ?_⟩
  rw [hw, funext ex, funext ey]
theorem wOr (es fs : List (Int × Str)) (k : Int) : look (united es fs) k = sOr (look es) (look fs) k := look_united es fs k
theorem wSub (es fs : List (Int × Str)) (k : Int) : look (rest es fs) k = sSub (look es) (look fs) k := look_rest es fs k
theorem wKept (es fs : List (Int × Str)) (k : Int) : look (common es fs) k = sKept (look es) (look fs) k := look_common es fs k
theorem denD_or (hF : Stable F) (ha : DenD K C U σ F ta f) (hb : DenD K C U σ F tb g) : DenD K C U σ F (tOp (rBin C (spOrD K C)) ta tb) (dOr f g) := by
  intro H Q hf k
  refine ha H _ hf fun x H1 rs s1 hx ex => hb H1 _ (hF _ _ s1 hf) fun y H2 qs s2 hy ey => ?_
  have hx2 := hx.same s2
  have hy2 := hy
  obtain ⟨dx, d, e1, _⟩ := hx2
  obtain ⟨dy, d', e2, ⟨es, _, _, gd⟩, _⟩ := hy2
  refine ⟨x, y, _, _, _, _, rfl, rfl, e1, e2, U, x, y, rs, qs, rfl, hx.same s2, hy, fun d H3 s3 hd => k d H3 _ ((s1.trans s2).trans s3) hd fun j => ?_⟩
  rw [lk_mergedA gd.1, ex, ey]; rfl
theorem lk_cut (rs : List (Int × Rw)) (es : List (Int × Str)) (c : Bool) (k : Int) : lk (rs.filter fun r => has es r.1 == c) k = if (has es k == c) = true then lk rs k else none :=
  lk_filter (fun j => has es j == c) rs k
theorem denD_sub (hF : Stable F) (ha : DenD K C U σ F ta f) (hb : DenS S U σ F tb s) : DenD K C U σ F (tOp (rBin2 C S (spPartD K C S false)) ta tb) (cutF f s) := by
  intro H Q hf k
  refine ha H _ hf fun x H1 rs s1 hx ex => hb H1 _ (hF _ _ s1 hf) fun y H2 es s2 hy ey => ?_
  have hx2 := hx.same s2
  have hy2 := hy
  obtain ⟨dx, d, e1, _⟩ := hx2
  obtain ⟨dy, d', e2, _⟩ := hy2
  refine ⟨x, y, _, _, _, _, rfl, rfl, e1, e2, U, U, x, y, rs, es, rfl, hx.same s2, hy, fun d H3 s3 hd => k d H3 _ ((s1.trans s2).trans s3) hd fun j => ?_⟩
  rw [lk_cut, ex]
  unfold cutF has
  rw [ey]
  cases (s j).isSome <;> rfl
theorem denD_kept (hF : Stable F) (ha : DenD K C U σ F ta f) (hb : DenS S U σ F tb s) : DenD K C U σ F (tMeth C "kept" (spPartD K C S true) [] E0 ta (tCons tb tNil)) (inF f s) := by
  intro H Q hf k
  refine ha H _ hf fun x H1 rs s1 hx ex => ?_
  have hx1 := hx
  obtain ⟨dx, d, e1, _⟩ := hx1
  refine ⟨x, _, _, rfl, e1, rfl, hb H1 _ (hF _ _ s1 hf) fun y H2 es s2 hy ey => ?_⟩
  refine ⟨U, U, x, y, rs, es, rfl, hx.same s2, hy, fun d H3 s3 hd => k d H3 _ ((s1.trans s2).trans s3) hd fun j => ?_⟩
  rw [lk_cut, ex]
  unfold inF has
  rw [ey]
  cases (s j).isSome <;> rfl
theorem denS_keys (ha : DenD K C U σ F ta f) : DenS S U σ F (tMeth C "key_set" (spKeySet K C S) [] E0 ta tNil) (formsF f) := by
  intro H Q hf k
  refine ha H _ hf fun x H1 rs s1 hx ex => ?_
  have hx1 := hx
  obtain ⟨dx, d, e1, _⟩ := hx1
  refine ⟨x, _, _, rfl, e1, rfl, U, x, rs, rfl, hx, fun z H2 es s2 hz ez => k z H2 es (s1.trans s2) hz fun j => ?_⟩
  rw [ez, ex]; rfl
theorem denD_look {tc : TE} (hc : ∀ (H : Hp) (Q : VK), Q (.ref C) H → tc σ H Q) (hF : Stable F) (hs : VSf s) (ha : DenS S U σ F ta s) (hb : DenD K C U σ F tb f) : DenD K C U σ F (tStat C (spLooked K C S) tc (tCons ta (tCons tb tNil))) (dLook s f) := by
  intro H Q hf k
  refine hc H _ ⟨rfl, ?_⟩
  refine ha H _ hf fun x H1 es s1 hx ex => hb H1 _ (hF _ _ s1 hf) fun y H2 rs s2 hy ey => ?_
  have g : Good U es := by obtain ⟨_, _, _, _, g⟩ := hx; exact g
  refine ⟨U, U, x, y, es, rs, rfl, hx.same s2, vs_f g ex hs, hy, fun z H3 qs s3 hz ez => k z H3 qs ((s1.trans s2).trans s3) hz fun j => ?_⟩
  rw [ez, ex, ey]; rfl
theorem denD_mk0 (hU : U.length ≤ 1000) : DenD K C U σ F (tMk0 K C (spInitD K C)) (fun _ => none) := by
  intro H Q hf k t ht x dx hx hdx hne
  refine ⟨x, dx, t, [], [], rfl, upd_same, .inr (ht _), .nil, by decide, fun d H' es s hx' hd hr => ⟨rfl, k x H' [] ?_ ⟨dx, d, hx', ⟨es, hd, hr, List.nodup_nil, fun _ h => (nomatch h), hU⟩, fun _ h => nomatch h⟩ fun _ => rfl⟩⟩
  intro b o e
  have n1 := ne_of_none e hx
  have n2 := ne_of_none e hdx
  have q := s b o ((del_at n1).trans ((upd_ne n1).trans ((upd_ne n2).trans e)))
  rw [del_at n1] at q
  exact q
end

def Px (K : PySem.W.Frag) (C S : Addr) (U : List Int) (H : Hp) (x y : Addr) : Prop :=
  (∃ es fs, FS S U H x es ∧ FS S U H y fs ∧ ∀ k, look es k = look fs k) ∨ ∃ rs qs, DD K C U H x rs ∧ DD K C U H y qs ∧ ∀ k, lk rs k = lk qs k
def PairsX (K : PySem.W.Frag) (C S : Addr) (U : List Int) (H : Hp) (ps : List V) : Prop := ∀ v ∈ ps, ∃ t x y, v = V.ref t ∧ H t = some (.tup [.ref x, .ref y]) ∧ Px K C S U H x y
section
variable {K : PySem.W.Frag} {C S : Addr} {U : List Int} {H H' : Hp}
theorem Px.same {x y : Addr} (h : Px K C S U H x y) (s : Same H H') : Px K C S U H' x y := by
  rcases h with ⟨es, fs, h1, h2, h3⟩ | ⟨rs, qs, h1, h2, h3⟩
  · exact .inl ⟨es, fs, h1.same s, h2.same s, h3⟩
  · exact .inr ⟨rs, qs, h1.same s, h2.same s, h3⟩
theorem Px.chg {x y g : Addr} {ls : List V} (e : H g = some (.lst ls)) (s : Ext g H H') (h : Px K C S U H x y) : Px K C S U H' x y := by
  rcases h with ⟨es, fs, h1, h2, h3⟩ | ⟨rs, qs, h1, h2, h3⟩
  · exact .inl ⟨es, fs, h1.chg e s, h2.chg e s, h3⟩
  · exact .inr ⟨rs, qs, h1.chg e s, h2.chg e s, h3⟩
theorem PairsX.same {ps : List V} (h : PairsX K C S U H ps) (s : Same H H') : PairsX K C S U H' ps := fun v hv => by
  obtain ⟨t, x, y, h1, h2, h3⟩ := h v hv
  exact ⟨t, x, y, h1, s _ _ h2, h3.same s⟩
theorem PairsX.chg {g : Addr} {ls ps : List V} (e : H g = some (.lst ls)) (s : Ext g H H') (h : PairsX K C S U H ps) : PairsX K C S U H' ps := fun v hv => by
  obtain ⟨t, x, y, h1, h2, h3⟩ := h v hv
  exact ⟨t, x, y, h1, s _ _ (fun z => by rw [z, e] at h2; cases h2) h2, h3.chg e s⟩
theorem PairsX.app {ps qs : List V} (h : PairsX K C S U H ps) (g : PairsX K C S U H qs) : PairsX K C S U H (ps ++ qs) := fun v hv => by
  rcases List.mem_append.mp hv with hv | hv
  · exact h v hv
  · exact g v hv
end
def DenLX (K : PySem.W.Frag) (C S : Addr) (U : List Int) (σ : L2.St) (F : Hp → Prop) (t : TA) (n : Nat) : Prop :=
  ∀ (H : Hp) (Q : List V → Hp → Prop), F H → (∀ qs H', Same H H' → qs.length = n → PairsX K C S U H' qs → Q qs H') → t σ H Q
section
variable {K : PySem.W.Frag} {C S : Addr} {U : List Int} {σ : L2.St} {F : Hp → Prop} {t1 t2 : TE} {t : TA} {n : Nat}
theorem denlx_nil : DenLX K C S U σ F tNil 0 := fun H Q _ k => k [] H (Same.refl H) rfl fun _ h => (nomatch h)
theorem denlx_S {f g : Int → Option Str} (hF : Stable F) (h1 : DenS S U σ F t1 f) (h2 : DenS S U σ F t2 g) (r : ∀ k, f k = g k) (ht : DenLX K C S U σ F t n) : DenLX K C S U σ F (tCons (tTup (tCons t1 (tCons t2 tNil))) t) (n + 1) := by
  intro H Q hf k
  refine h1 H _ hf fun x H1 es s1 hx ex => h2 H1 _ (hF _ _ s1 hf) fun y H2 fs s2 hy ey => ⟨size_ok (by simp), fun p hp => ?_⟩
  have s3 := same_new hp (o := .tup [.ref x, .ref y])
  refine ht _ _ (hF _ _ s3 (hF _ _ s2 (hF _ _ s1 hf))) fun qs H4 s4 hl hp4 => ?_
  refine k _ H4 (((s1.trans s2).trans s3).trans s4) (by rw [List.length_cons, hl]) fun v hv => ?_
  rcases List.mem_cons.mp hv with rfl | hv
  · exact ⟨p, x, y, rfl, s4 _ _ upd_same, .inl ⟨es, fs, ((hx.same s2).same s3).same s4, (hy.same s3).same s4, fun j => by rw [ex, ey, r]⟩⟩
  · exact hp4 v hv
theorem denlx_D {f g : Int → Option Rw} (hF : Stable F) (h1 : DenD K C U σ F t1 f) (h2 : DenD K C U σ F t2 g) (r : ∀ k, f k = g k) (ht : DenLX K C S U σ F t n) : DenLX K C S U σ F (tCons (tTup (tCons t1 (tCons t2 tNil))) t) (n + 1) := by
  intro H Q hf k
  refine h1 H _ hf fun x H1 es s1 hx ex => h2 H1 _ (hF _ _ s1 hf) fun y H2 fs s2 hy ey => ⟨size_ok (by simp), fun p hp => ?_⟩
  have s3 := same_new hp (o := .tup [.ref x, .ref y])
  refine ht _ _ (hF _ _ s3 (hF _ _ s2 (hF _ _ s1 hf))) fun qs H4 s4 hl hp4 => ?_
  refine k _ H4 (((s1.trans s2).trans s3).trans s4) (by rw [List.length_cons, hl]) fun v hv => ?_
  rcases List.mem_cons.mp hv with rfl | hv
  · exact ⟨p, x, y, rfl, s4 _ _ upd_same, .inr ⟨es, fs, ((hx.same s2).same s3).same s4, (hy.same s3).same s4, fun j => by rw [ex, ey, r]⟩⟩
  · exact hp4 v hv
end

structure DuX (K : PySem.W.Frag) (C S : Addr) (U : List Int) (F0 : Hp → Prop) (H0 : Hp) (D : Addr) (ps : List V) (H : Hp) : Prop where
  vs : F0 H
  here : H D = some (.lst ps)
  pr : PairsX K C S U H ps
  fresh : H0 D = none
  ext : Ext D H0 H
def Chgs (F0 : Hp → Prop) : Prop := ∀ (g : Addr) (ls : List V) (H H' : Hp), H g = some (.lst ls) → Ext g H H' → F0 H → F0 H'
section
variable {K : PySem.W.Frag} {C S : Addr} {U : List Int} {σ : L2.St} {F0 : Hp → Prop} {t : TA} {n : Nat}
theorem DuX.stable (hF : Stable F0) {H0 : Hp} {D : Addr} {ps : List V} : Stable (DuX K C S U F0 H0 D ps) := fun H H' s h =>
  ⟨hF _ _ s h.vs, s _ _ h.here, h.pr.same s, h.fresh, h.ext.trans (Ext.of s)⟩
theorem dux_start (hF : Stable F0) {i : Nat} {D' : Ends} {H : Hp} (ht : DenLX K C S U σ F0 t n) (hn : n ≤ 1000) (h : F0 H)
    (k : ∀ D ps H', ps.length = n → DuX K C S U F0 H D ps H' → D'.nx (σ.set i (some (.ref D))) H') : tAsg (tLst t) (gName i) D' σ H := by
  refine ht H _ h fun qs H1 s1 hl hq => ⟨size_ok (by omega), fun D hD => ?_⟩
  exact k D qs _ hl ⟨hF _ _ (same_new hD) (hF _ _ s1 h), upd_same, hq.same (same_new hD), s1.free hD, fun b o n e => (upd_ne n).trans (s1 _ _ e)⟩
theorem dux_append (hF : Stable F0) (hC : Chgs F0) {H0 : Hp} {D : Addr} {ps : List V} {i : Nat} {D' : Ends} {H : Hp} (hσ : σ[i]? = some (some (.ref D)))
    (ht : DenLX K C S U σ (DuX K C S U F0 H0 D ps) t 1) (hl : ps.length ≤ 1000) (h : DuX K C S U F0 H0 D ps H)
    (k : ∀ qs H', qs.length = ps.length + 1 → DuX K C S U F0 H0 D qs H' → D'.nx σ H') : tDrop (tBM K "list" rAppend (tVar i) t) D' σ H := by
  refine ⟨_, hσ, .inl ⟨rfl, ps, SqL.of h.here⟩, ?_⟩
  refine ht H _ h fun qs H1 s1 hq hp => ?_
  match qs, hq with
  | [y], _ =>
    have h1 := DuX.stable hF H H1 s1 h
    have ex : ∀ o, Ext D H1 (upd H1 D o) := fun o b u nb e => (upd_ne nb).trans e
    refine ⟨D, ps, y, rfl, rfl, h1.here, Nat.lt_of_le_of_lt hl (by decide), ?_⟩
    exact k _ _ (by rw [List.length_append]; rfl) ⟨hC _ _ _ _ h1.here (ex _) h1.vs, upd_same, (h1.pr.app hp).chg h1.here (ex _), h1.fresh, h1.ext.trans (ex _)⟩
theorem dux_cat (hF : Stable F0) {H0 : Hp} {D : Addr} {ps : List V} {i : Nat} {D' : Ends} {H : Hp} (hσ : σ[i]? = some (some (.ref D)))
    (ht : DenLX K C S U σ (DuX K C S U F0 H0 D ps) t n) (hl : ps.length + n ≤ 1000) (h : DuX K C S U F0 H0 D ps H)
    (k : ∀ D2 qs H', qs.length = ps.length + n → DuX K C S U F0 H0 D2 qs H' → D'.nx (σ.set i (some (.ref D2))) H') : tAsg (tOp rCat (tVar i) (tLst t)) (gName i) D' σ H := by
  refine ⟨_, hσ, ?_⟩
  refine ht H _ h fun qs H1 s1 hq hp => ⟨size_ok (by omega), fun p hp2 => ?_⟩
  have h1 := DuX.stable hF H H1 s1 h
  have s2 := same_new hp2 (o := .lst qs)
  have h2 := DuX.stable hF _ _ s2 h1
  refine ⟨D, p, ps, qs, rfl, rfl, h2.here, upd_same, size_ok (by omega), fun D2 hD2 => ?_⟩
  have s3 := same_new hD2 (o := .lst (ps ++ qs))
  have h3 := DuX.stable hF _ _ s3 h2
  have sH : Same H0 (upd (upd H1 p (.lst qs)) D2 (.lst (ps ++ qs))) := fun b o e => h3.ext b o (ne_of_none e h3.fresh) e
  have n2 : H0 D2 = none := by
    cases q : H0 D2 with
    | none => rfl
    | some o =>
      have z := h2.ext D2 o (ne_of_none q h2.fresh) q
      rw [hD2] at z; cases z
  exact k D2 _ _ (by rw [List.length_append, hq]) ⟨h3.vs, upd_same, h3.pr.app ((hp.same s2).same s3), n2, Ext.of sH⟩
end
end My
set_option Elab.async false
set_option maxRecDepth 100000
set_option maxHeartbeats 4000000
set_option linter.unusedVariables false
namespace My
open PySem PySem.Spec PyProof.Rows L2 L2.DX

def VsX (K : PySem.W.Frag) (C S : Addr) (U : List Int) (sv : List (Addr × (Int → Option Str))) (dv : List (Addr × (Int → Option Rw))) (H : Hp) : Prop :=
  (∀ p ∈ sv, ∃ es, FS S U H p.1 es ∧ ∀ k, look es k = p.2 k) ∧ ∀ p ∈ dv, ∃ rs, DD K C U H p.1 rs ∧ ∀ k, lk rs k = p.2 k
section
variable {K : PySem.W.Frag} {C S : Addr} {U : List Int} {sv : List (Addr × (Int → Option Str))} {dv : List (Addr × (Int → Option Rw))}
theorem VsX.stable : Stable (VsX K C S U sv dv) := fun H H' s h =>
  ⟨fun p hp => (by obtain ⟨es, a, b⟩ := h.1 p hp; exact ⟨es, a.same s, b⟩), fun p hp => by obtain ⟨rs, a, b⟩ := h.2 p hp; exact ⟨rs, a.same s, b⟩⟩
theorem VsX.chgs : Chgs (VsX K C S U sv dv) := fun g ls H H' e s h =>
  ⟨fun p hp => (by obtain ⟨es, a, b⟩ := h.1 p hp; exact ⟨es, a.chg e s, b⟩), fun p hp => by obtain ⟨rs, a, b⟩ := h.2 p hp; exact ⟨rs, a.chg e s, b⟩⟩
theorem VsX.s {H : Hp} (h : VsX K C S U sv dv H) {a : Addr} {f : Int → Option Str} (m : (a, f) ∈ sv) : ∃ es, FS S U H a es ∧ ∀ k, look es k = f k := h.1 _ m
theorem VsX.d {H : Hp} (h : VsX K C S U sv dv H) {a : Addr} {f : Int → Option Rw} (m : (a, f) ∈ dv) : ∃ rs, DD K C U H a rs ∧ ∀ k, lk rs k = f k := h.2 _ m
end
theorem vsf_look {es : List (Int × Str)} (h : VS es) : VSf (look es) := fun k x e => h _ (look_mem e)
theorem vsf_forms {rs : List (Int × Rw)} (h : VR rs) : VSf (formsF (lk rs)) := fun k x e => by
  unfold formsF at e
  cases q : lk rs k with
  | none => rw [q] at e; cases e
  | some r =>
    rw [q] at e
    have z := h _ (lk_mem q)
    cases e
    exact ⟨z.1, z.2.1⟩
theorem vsf_or {s t : Int → Option Str} (h : VSf s) (g : VSf t) : VSf (sOr s t) := fun k x e => by
  unfold sOr at e
  cases q : s k with
  | none => rw [q] at e; exact g _ _ e
  | some y => rw [q] at e; cases e; exact h _ _ q
theorem vs_firsts {l : List (Int × Str)} (h : VS l) : VS (firsts l) := by
  unfold firsts
  have main : ∀ (r acc : List (Int × Str)), VS acc → VS r → VS (r.foldl (fun acc p => if has acc p.1 = true then acc else acc ++ [p]) acc) := by
    intro r
    induction r with
    | nil => exact fun acc h _ => h
    | cons p r ih =>
      intro acc ha hr
      refine ih _ ?_ fun q hq => hr q (List.mem_cons_of_mem _ hq)
      show VS (if has acc p.1 = true then acc else acc ++ [p])
      by_cases c : has acc p.1 = true
      · rw [if_pos c]; exact ha
      · rw [if_neg c]
        intro q hq
        rcases List.mem_append.mp hq with hq | hq
        · exact ha q hq
        · rw [List.mem_singleton.mp hq]; exact hr p List.mem_cons_self
  exact main l [] (fun _ h => nomatch h) h
theorem vs_el {K : PySem.W.Frag} {H : Hp} : ∀ {vs : List V} {es : List (Int × Str)}, ElAll K H vs es → VS es
  | _, _, .nil => fun _ h => nomatch h
  | _, _, .cons _ hk hx r => fun p hp => by
    rcases List.mem_cons.mp hp with rfl | hp
    · exact ⟨hk, hx⟩
    · exact vs_el r p hp
section
variable {K : PySem.W.Frag} {H H' : Hp}
theorem EnAll.chg {a : Addr} {ls : List V} (e : H a = some (.lst ls)) (x : Ext a H H') : ∀ {vs : List V} {rs : List (Int × Rw)}, EnAll K H vs rs → EnAll K H' vs rs
  | _, _, .nil => .nil
  | _, _, .cons h ok r => .cons (sqT_chg e x h) ok (EnAll.chg e x r)
theorem EnAll.app {t : Addr} {k n : Int} {x : Str} (h : SqT K H t [.int k, .str x, .int n]) (ok : rowOk (k, (x, n))) : ∀ {vs : List V} {rs : List (Int × Rw)}, EnAll K H vs rs → EnAll K H (vs ++ [.ref t]) (rs ++ [(k, (x, n))])
  | _, _, .nil => .cons h ok .nil
  | _, _, .cons h1 ok1 r => .cons h1 ok1 (EnAll.app h ok r)
theorem vr_en : ∀ {vs : List V} {rs : List (Int × Rw)}, EnAll K H vs rs → VR rs
  | _, _, .nil => fun _ h => nomatch h
  | _, _, .cons _ ok r => fun p hp => by
    rcases List.mem_cons.mp hp with rfl | hp
    · exact ok
    · exact vr_en r p hp
end

theorem pairsX_all {K : PySem.W.Frag} {C S : Addr} {U : List Int} {σ : L2.St} {H : Hp} {D' : Ends} {i j l : Nat} {D : Addr} {qs : List V} {te : TE} (hσ : σ[i]? = some (some (.ref D))) (hD : H D = some (.lst qs)) (hp : PairsX K C S U H qs) (hl : qs.length ≤ 1000)
    (hw : ∀ x y, wipe (((wipe σ [j, l]).set j x).set l y) [j, l] = wipe σ [j, l])
    (hte : ∀ x y H1 (Q : VK), Px K C S U H1 x y → (∀ H2, Same H1 H2 → Q (.bl true) H2) → te (((wipe σ [j, l]).set j (some (.ref x))).set l (some (.ref y))) H1 Q)
    (k : ∀ H', Same H H' → D'.rt (.bl true) H') :
    tRet (tCB (rAll K) (tCons (tLc (iList K (tVar i)) (gTup K 2 (gCons (gName j) (gCons (gName l) gNil))) tYes te [j, l]) tNil)) D' σ H := by
  refine ⟨_, hσ, D, rfl, ⟨qs, SqL.of hD⟩, fun E hE => ?_⟩
  refine lc_list (xs := qs) (fun i H' => Ext E H H' ∧ H' E = some (.lst ((List.replicate i true).map V.bl))) ?_ ?_ ?_ ?_
  · exact ⟨fun b o n e => (upd_ne n).trans e, upd_same⟩
  · rintro i H' hi ⟨x, _⟩
    exact SqL.of (x _ _ (ne_of_none hD hE) hD)
  · rintro i v H' hv ⟨x, hd⟩
    obtain ⟨t, y, z, rfl, h2, h3⟩ := hp v (List.mem_of_getElem? hv)
    refine ⟨t, _, rfl, .inl (.inl (x _ _ (ne_of_none h2 hE) h2)), rfl, _, _, rfl, _, _, rfl, rfl, hw _ _, ?_⟩
    have h4 : Px K C S U H' y z := by
      have fs : ∀ {y es}, FS S U H y es → FS S U H' y es := by
        rintro y es ⟨dx, d, q1, q2, q3⟩
        exact ⟨dx, d, x _ _ (ne_of_none q1 hE) q1, x _ _ (ne_of_none q2 hE) q2, q3⟩
      have dd : ∀ {y rs}, DD K C U H y rs → DD K C U H' y rs := fun {y rs} h => by
        have sH : Same H H' := fun b o e => x b o (ne_of_none e hE) e
        exact h.same sH
      rcases h3 with ⟨es, gs, a1, a2, a3⟩ | ⟨rs, gs, a1, a2, a3⟩
      · exact .inl ⟨es, gs, fs a1, fs a2, a3⟩
      · exact .inr ⟨rs, gs, dd a1, dd a2, a3⟩
    refine hte y z H' _ h4 fun H2 s2 => ?_
    refine ⟨_, s2 _ _ hd, ?_, ?_, upd_same.trans ?_⟩
    · rw [List.length_map, List.length_replicate]
      have := (List.getElem?_eq_some_iff.mp hv).1
      exact small1000 (by omega)
    · exact fun b o n e => (upd_ne n).trans (s2 _ _ (x b o n e))
    · rw [List.replicate_succ', List.map_append]
      rfl
  · rintro H' ⟨x, hd⟩
    refine ⟨E, _, rfl, SqL.of hd, ?_⟩
    rw [allB]
    exact k _ fun b o e => x b o (ne_of_none e hE) e
theorem opt_cases {α : Type} (x : Option α) : x = none ∨ ∃ a, x = some a := by cases x <;> simp

def spDictN (K : PySem.W.Frag) (C : Addr) : Sp := fun vs H Q _ => ∃ (a : Addr) (n m : Nat) (x : Str), vs = [.ref a, .int m, .str x] ∧ Bag H a n ∧ n < 5000 ∧ 1 ≤ m ∧ m ≤ 20 ∧ (x = "p" ∨ x = "q" ∨ x = "r") ∧
  ∀ z rs H', Same (del a H) (del a H') → Bag H' a (n + 100) → DD K C (below m) H' z rs → Q (.ref z) H'
def spSetN (S : Addr) : Sp := fun vs H Q _ => ∃ (a : Addr) (n m : Nat), vs = [.ref a, .int m] ∧ Bag H a n ∧ n < 5000 ∧ 1 ≤ m ∧ m ≤ 20 ∧
  ∀ z es H', Same (del a H) (del a H') → Bag H' a (n + 100) → FS S (below m) H' z es → VS es → Q (.ref z) H'
def spEqs (K : PySem.W.Frag) (C S : Addr) : Sp := fun vs H Q _ => ∃ U d e s ds es ss, vs = [.ref d, .ref e, .ref s] ∧ DD K C U H d ds ∧ DD K C U H e es ∧ FS S U H s ss ∧ VS ss ∧ ∀ H', Same H H' → Q (.bl true) H'
def spMerges (K : PySem.W.Frag) (C : Addr) : Sp := fun vs H Q _ => ∃ U d e f ds es fs, vs = [.ref d, .ref e, .ref f] ∧ DD K C U H d ds ∧ DD K C U H e es ∧ DD K C U H f fs ∧ ∀ H', Same H H' → Q (.bl true) H'
end My
set_option Elab.async false
set_option maxRecDepth 100000
set_option maxHeartbeats 4000000
set_option linter.unusedVariables false
namespace My
open PySem PySem.Spec PyProof.Rows L2 L2.DX

theorem lk_vals (rs : List (Int × Rw)) (k : Int) : lk (valsOf rs) k = (lk rs k).map (·.2) := by
  unfold valsOf
  induction rs with
  | nil => rfl
  | cons p r ih =>
    rw [List.map_cons, lk_cons, lk_cons]
    by_cases e : p.1 = k
    · rw [if_pos e, if_pos e]; rfl
    · rw [if_neg e, if_neg e]; exact ih
theorem valsOf_len (rs : List (Int × Rw)) : (valsOf rs).length = rs.length := List.length_map _
theorem vals_alike {U : List Int} {ds es rb rt : List (Int × Rw)} {ys : List Int} (gb : Gd U rb) (gt : Gd U rt) (hb : ∀ k, lk rb k = over (lk ds k) (lk es k)) (ht : ∀ k, lk rt k = over (lk es k) (lk ds k))
    (hc : ∀ k, k ∈ ys ↔ ((lk ds k).isSome = true ∧ (lk es k).isSome = true)) (F : Int → Bool) (hF : ∀ k r1 r2, lk ds k = some r1 → lk es k = some r2 → (F k = true ↔ r1.2 = r2.2)) :
    sameInts (valsOf rb) (valsOf rt) = ys.all F := by
  have hl : (valsOf rb).length = (valsOf rt).length := by
    rw [valsOf_len, valsOf_len]
    refine len_of_hs gb gt fun k => ?_
    unfold hs
    rw [hb, ht]
    rcases opt_cases (lk ds k) with q1 | ⟨a1, q1⟩ <;> rcases opt_cases (lk es k) with q2 | ⟨a2, q2⟩ <;> simp [q1, q2, over]
  rw [Bool.eq_iff_iff]
  unfold sameInts
  rw [Bool.and_eq_true, List.all_eq_true, List.all_eq_true]
  constructor
  · rintro ⟨_, h⟩ k hk
    obtain ⟨i1, i2⟩ := (hc k).mp hk
    obtain ⟨r1, q1⟩ := Option.isSome_iff_exists.mp i1
    obtain ⟨r2, q2⟩ := Option.isSome_iff_exists.mp i2
    have e1 : lk rb k = some (r1.1, r2.2) := by rw [hb, q1, q2]; rfl
    have e2 : lk rt k = some (r2.1, r1.2) := by rw [ht, q1, q2]; rfl
    have m : (k, r2.2) ∈ valsOf rb := List.mem_map.mpr ⟨_, lk_mem e1, rfl⟩
    have z := h _ m
    have z2 : lk (valsOf rt) k = some r2.2 := by simpa using z
    rw [lk_vals, e2] at z2
    exact (hF k r1 r2 q1 q2).mpr (Option.some.inj z2)
  · intro h
    refine ⟨by rw [hl]; exact beq_self_eq_true _, fun p hp => ?_⟩
    obtain ⟨⟨k, r⟩, hm, rfl⟩ := List.mem_map.mp hp
    have e1 := lk_ents gb.1 hm
    dsimp only at e1
    show (lk (valsOf rt) k == some r.2) = true
    rw [lk_vals, ht]
    rw [hb] at e1
    rcases opt_cases (lk ds k) with q1 | ⟨a1, q1⟩ <;> rcases opt_cases (lk es k) with q2 | ⟨a2, q2⟩
    · rw [q1, q2] at e1; cases e1
    · rw [q1, q2] at e1 ⊢
      cases e1
      exact beq_self_eq_true _
    · rw [q1, q2] at e1 ⊢
      cases e1
      exact beq_self_eq_true _
    · have f := (hF k a1 a2 q1 q2).mp (h k ((hc k).mpr ⟨by rw [q1]; rfl, by rw [q2]; rfl⟩))
      rw [q1, q2] at e1 ⊢
      cases e1
      show (some a1.2 == some a2.2) = true
      rw [f]
      exact beq_self_eq_true _
theorem over_assoc (a b c : Option Rw) : over (over a b) c = over a (over b c) := by
  rcases opt_cases a with rfl | ⟨x, rfl⟩ <;> rcases opt_cases b with rfl | ⟨y, rfl⟩ <;> rcases opt_cases c with rfl | ⟨z, rfl⟩ <;> simp [over, over1]
theorem denD_merge2 {K : PySem.W.Frag} {C : Addr} {U : List Int} {σ : L2.St} {F : Hp → Prop} {ta tb tc : TE} {f g h : Int → Option Rw} (hF : Stable F) (ha : DenD K C U σ F ta f) (hb : DenD K C U σ F tb g) (hc : DenD K C U σ F tc h) :
    DenD K C U σ F (tMethR C "merged" (spStar ["self"] (spMergeAll K C)) E0 ta (tCons tb (tCons tc tNil))) (dOr (dOr f g) h) := by
  intro H Q hf k
  refine ha H _ hf fun x H1 rs s1 hx ex => ?_
  have hx1 := hx
  obtain ⟨dx, d, e1, _⟩ := hx1
  refine ⟨x, _, _, rfl, e1, rfl, hb H1 _ (hF _ _ s1 hf) fun y H2 qs s2 hy ey => hc H2 _ (hF _ _ s2 (hF _ _ s1 hf)) fun z H3 ts s3 hz ez => ?_⟩
  refine ⟨[.ref x], [.ref y, .ref z], rfl, rfl, size_ok (by simp), fun p hp => ?_⟩
  have s4 := same_new hp (o := .tup [.ref y, .ref z])
  refine ⟨U, x, p, rs, [.ref y, .ref z], [qs, ts], rfl, ((hx.same s2).same s3).same s4, .inl (.inl upd_same), .cons ((hy.same s3).same s4) (.cons (hz.same s4) .nil), fun d H5 s5 hd => ?_⟩
  refine k d H5 _ ((((s1.trans s2).trans s3).trans s4).trans s5) hd fun j => ?_
  have n1 : (ks qs).Nodup := by obtain ⟨_, _, _, ⟨_, _, _, g⟩, _⟩ := hy; exact g.1
  have n2 : (ks ts).Nodup := by obtain ⟨_, _, _, ⟨_, _, _, g⟩, _⟩ := hz; exact g.1
  rw [lk_mergedL [qs, ts] rs j fun l hl => (by
    simp only [List.mem_cons, List.not_mem_nil, or_false] at hl
    rcases hl with rfl | rfl
    · exact n1
    · exact n2)]
  show over (over (lk rs j) (lk qs j)) (lk ts j) = _
  rw [ex, ey, ez]; rfl
theorem TupS.at {H : Hp} : ∀ {vs : List V} {es : List (Int × Str)} {i : Nat} {v : V}, TupS H vs es → vs[i]? = some v → ∃ t k x, v = .ref t ∧ es[i]? = some (k, x) ∧ H t = some (.tup [.int k, .str x])
  | _, _, i, v, .nil, h => by simp at h
  | _, _, 0, v, .cons h1 r, h => by
    cases Option.some.inj h
    exact ⟨_, _, _, rfl, rfl, h1⟩
  | _, _, i + 1, v, .cons h1 r, h => r.at (i := i) (v := v) (by simpa using h)
theorem TupS.len {H : Hp} : ∀ {vs : List V} {es : List (Int × Str)}, TupS H vs es → vs.length = es.length
  | _, _, .nil => rfl
  | _, _, .cons _ r => by rw [List.length_cons, List.length_cons, r.len]

def sameVal (f g : Int → Option Rw) (k : Int) : Bool := decide ((f k).map (·.2) = (g k).map (·.2))
theorem sameVal_iff {f g : Int → Option Rw} {k : Int} {a b : Rw} (h1 : f k = some a) (h2 : g k = some b) : sameVal f g k = true ↔ a.2 = b.2 := by
  unfold sameVal
  rw [h1, h2, decide_eq_true_iff]
  exact ⟨fun h => Option.some.inj h, fun h => by show some a.2 = some b.2; rw [h]⟩
theorem sameVal_dec {f g : Int → Option Rw} {k : Int} {a b : Rw} (h1 : f k = some a) (h2 : g k = some b) : decide (V.int a.2 = V.int b.2) = sameVal f g k := by
  rw [Bool.eq_iff_iff, sameVal_iff h1 h2, decide_eq_true_iff]
  exact ⟨fun h => by injection h, fun h => by rw [h]⟩
theorem DDs.three {K : PySem.W.Frag} {C : Addr} {U : List Int} {H : Hp} {vs : List V} {ls : List (List (Int × Rw))} (h : DDs K C U H vs ls) (hl : vs.length = 3) :
    ∃ a b c es fs gs, vs = [.ref a, .ref b, .ref c] ∧ DD K C U H a es ∧ DD K C U H b fs ∧ DD K C U H c gs := by
  cases h with
  | nil => cases hl
  | cons h1 r =>
    cases r with
    | nil => cases hl
    | cons h2 r =>
      cases r with
      | nil => cases hl
      | cons h3 r =>
        cases r with
        | nil => exact ⟨_, _, _, _, _, _, rfl, h1, h2, h3⟩
        | cons h4 r =>
          rw [List.length_cons, List.length_cons, List.length_cons, List.length_cons] at hl
          omega
end My
set_option Elab.async false
set_option maxRecDepth 100000
set_option maxHeartbeats 4000000
set_option linter.unusedVariables false
namespace My
open PySem PySem.Spec PyProof.Rows L2


def spFormOf (C CB : Addr) : Sp := fun vs H Q E => ∃ U a es n, vs = [.ref a, .int n] ∧ FS C U H a es ∧ (0 ≤ n ∧ n ≤ 999999) ∧
  (∀ x H', look es n = some x → Same H H' → Q (.str x) H') ∧ ∀ d H', look es n = none → Same H H' → H d = none → H' d = some (.xd [("value", .int n)]) → E (.ref CB) (some d) H'

theorem mkO_one {K : PySem.W.Frag} {C : Addr} {f : Str} {y : V} {H1 : Hp} {Q : XK} (T : OwnX K C) (hno : PySem.W.findIn K (.ref C) f = some none)
    (k : ∀ d G, Same H1 G → H1 d = none → G d = some (.xd [(f, y)]) → Q (.ref C) (some d) G) :
    ([y] : List V).length ≤ 1000 ∧ ∀ a, H1 a = none → spInit1 K f (.ref a :: ([y] ++ [])) (L2.upd H1 a (exo a C none))
      (fun v H2 => v = .non ∧ ∃ (d : Addr) (fs : List (Str × V)), H2 a = some (exo a C (some d)) ∧ H2 d = some (exd d fs) ∧ H1 d = none ∧ Q (.ref C) (some d) (L2.upd (L2.del H2 a) d (.xd fs))) (fun _ _ _ => False) := by
  refine ⟨by simp, fun a ha => ⟨a, C, y, rfl, T, hno, upd_same, fun dx hdx hne => ⟨rfl, dx, _, upd_same, (upd_ne hne).trans upd_same, ?_, k dx _ ?_ ?_ upd_same⟩⟩⟩
  · exact (upd_ne hne).symm.trans hdx
  · intro b o e
    have n1 := ne_of_none e ha
    have n2 : b ≠ dx := ne_of_none e ((upd_ne hne).symm.trans hdx)
    exact (upd_ne n2).trans ((L2.del_ne n1).trans ((upd_ne n1).trans ((upd_ne n2).trans ((upd_ne n1).trans e))))
  · exact (upd_ne hne).symm.trans hdx

def hasD (es : List (Int × Str)) (d : PyData) : Bool := match d with
  | .int n => mKey d && has es n
  | _ => false
theorem key_int {d : PyData} (h : mKey d = true) : ∃ n, d = .int n ∧ 0 ≤ n ∧ n ≤ 999999 := by
  cases d with
  | int n =>
    have h : (decide (0 ≤ n) && decide (n ≤ 999999)) = true := h
    rw [Bool.and_eq_true, decide_eq_true_iff, decide_eq_true_iff] at h
    exact ⟨n, rfl, h.1, h.2⟩
  | _ => exact absurd h (by show ¬ (false = true); simp)
theorem hasD_no {es : List (Int × Str)} {d : PyData} (h : mKey d = false) : hasD es d = false := by
  cases d with
  | int n => show (mKey (.int n) && has es n) = false; rw [h]; rfl
  | _ => rfl
theorem hasD_int {es : List (Int × Str)} {n : Int} (h : mKey (.int n) = true) : hasD es (.int n) = has es n := by
  show (mKey (.int n) && has es n) = has es n
  rw [h]; rfl
def spHasX (K : PySem.W.Frag) (C : Addr) : Sp := fun vs H Q _ => ∃ U a es v d, vs = [.ref a, v] ∧ FS C U H a es ∧ Dx K H v d ∧ sm d ∧ ∀ H', Same H H' → Q (.bl (hasD es d)) H'

def spFormX (K : PySem.W.Frag) (C CB : Addr) : Sp := fun vs H Q E => ∃ U a es v d, vs = [.ref a, v] ∧ FS C U H a es ∧ Dx K H v d ∧ sm d ∧
  (∀ n x H', v = .int n → hasD es d = true → look es n = some x → Same H H' → Q (.str x) H') ∧ ∀ e H', hasD es d = false → Same H H' → H e = none → H' e = some (.xd [("value", v)]) → E (.ref CB) (some e) H'
theorem dx_num {K : PySem.W.Frag} {H : Hp} {v : V} {n : Int} (h : Dx K H v (.int n)) : v = .int n := by
  cases h with
  | of h => cases h; rfl
end My
set_option Elab.async false
set_option maxRecDepth 100000
set_option maxHeartbeats 4000000
set_option linter.unusedVariables false

namespace My
open PySem PySem.W PySem.Spec PySem.Calls PyProof.Rows
section
variable {prog : Program} {w : World} {A : Around} {E : Value → Shared → Prop} {s : Shared} {K : Frag} {x D : Addr} {ox : Obj} {od : Option Obj}
theorem findObj_any {C : Addr} {name : Str} {a g : Value} (hc : (clsIn K C).isSome = true) (ha : findIn K (.ref C) name = some (some a)) (hg : specialIn K a "__get__" = some (some g)) (ht : takesIn K a = some true) : findObj K C od name = some (.bind g a) := by
  obtain ⟨cd, hc⟩ := Option.isSome_iff_exists.mp hc
  unfold findObj
  rw [hc, Option.bind_some, ha, Option.bind_some]
  simp [hg, ht]
theorem class_excX {Q : Option Value → Shared → Prop} (T : L2.ExcC K D)
    (X : K.In s.heap) (I : InstAt s.heap x ox D od) (h : Q (some (.ref D)) { s with toks := s.toks + 1 }) : wpAny (model prog w) A (getAttr? (.ref x) "__class__") Q E s := by
  obtain ⟨hga, hgt, hsub, hdct, ha, hn, htk, hm⟩ := T
  have hf : findObj K D od "__class__" = some (.bind (.builtin "getset_descriptor.__get__") (.builtin "object.__class__")) := findObj_any (by obtain ⟨cd, hc, _⟩ := any_some hdct; rw [hc]; rfl) ha hn htk
  obtain ⟨hp, g, d, t, os⟩ := s
  have L0 := I.type (M := model prog w)
  have L1 := looks_findIn (M := model prog w) X hga
  have L2 := looks_findIn (M := model prog w) X hgt
  have L3 := looks_find (M := model prog w) X I hf
  have sub : Looks (model prog w) hp (isInstance (.ref x) (.type "BaseException")) true := L0.andThen (looks_subIn X hsub)
  have hx0 : (false && onTheHeap (Value.builtin "BaseException.__getattribute__")) = false := rfl
  have hx2 : (Value.builtin "BaseException.__getattribute__" == Value.builtin "object.__getattribute__") = false := by decide +kernel
  have hx1 : (onTheHeap (Value.ref D) && Value.builtin "BaseException.__getattribute__" == Value.builtin "object.__getattribute__") = false := by rw [hx2]; rfl
  unfold getAttr? getAttrBy? getAttrBy
  refine wpAny_bind (wpAny_mkText (wpAny_bind (wpAny_attempt (wpAny_holding (wpAny_bind (L0.at (wpAny_bind (L1.at ?_))))))))
  show wpAny _ _ (if (onTheHeap (Value.ref D) && Value.builtin "BaseException.__getattribute__" == Value.builtin "object.__getattribute__") = true then _ else _) _ _ _
  rw [hx1, if_neg Bool.false_ne_true]
  unfold getAttrByItsOwn hookBefore
  refine wpAny_bind ?_
  rw [if_pos (show onTheHeap (Value.ref D) = true from rfl)]
  refine L2.at ?_
  refine wpAny_bind (wpAny_attempt (wpAny_holding ?_))
  unfold callGetattribute
  rw [hx0, if_neg Bool.false_ne_true]
  unfold boundAndCalled
  rw [PySem.F.excAttr_ValueError.ga.bind (.ref x)]
  refine wpAny_bind (wpAny_pure ?_)
  show wpAny _ _ (call (.builtin "BaseException.__getattribute__") [.ref x, .str "__class__" t]) _ _ _
  refine wpAny_call (codeAny_call_builtin PySem.F.excAttr_ValueError.ga.plain PySem.F.entry_bexc_ga ?_)
  refine @check_slot (model prog w) _ _ ⟨hp, g, d, t + 1, os⟩ "BaseException.__getattribute__" "BaseException" "__getattribute__" (.ref x) [.str "__class__" t] [] _ (by decide +kernel) (by decide +kernel) sub (PySem.F.args_bexc_ga (.ref x) (.str "__class__" t)) ?_
  unfold Builtin.«object.__getattribute__»
  refine wpAny_bind (wpAny_of_eq (a := ((Value.ref x : Value), [Value.str "__class__" t])) (by first | rfl | (simp only [slotArgs]; rfl)) ?_)
  refine wpAny_bind (wpAny_pure (wpAny_bind (L0.at (wpAny_bind (L3.at ?_)))))
  show wpAny _ _ (holding [Value.builtin "object.__class__"] (call (.builtin "getset_descriptor.__get__") [.builtin "object.__class__", .ref x, .ref D]) >>= ret) _ _ _
  refine wpAny_bind (wpAny_holding (wpAny_call (class_get (s := ⟨hp, g, d, t + 1, os⟩) (ox := ox) (od := od) X I hm ?_)))
  refine wpAny_pure ?_
  show wpAny _ _ (handedOut (.ref D)) _ _ _
  rw [handedOut_of (v := .ref D) rfl]
  first
    | exact wpAny_pure (wpAny_pure h)
    | exact wpAny_pure h
    | exact wpAny_pure (wpAny_bind (wpAny_pure (wpAny_pure h)))
theorem kitX_exc (T : L2.ExcC K D) : KitX K (.ref x) (.ref D) (fun h => InstAt h x ox D od) where
  ty := fun _ _ _ I => I.type
  it := fun _ _ X _ => by
    obtain ⟨cdD, hcD, _⟩ := any_some T.hd
    unfold clsIn at hcD
    split at hcD
    · rename_i c' d' cd' sl' ho
      intro A' Q' E' s' k q
      unfold isType loadHead
      exact wpAny_bind (wpAny_loadPart (k _ _ (X _ _ ho)) (wpAny_pure q))
    · cases hcD
  ne := fun h tp dd its n sl X htp => by
    obtain ⟨cdD, hcD, _⟩ := any_some T.hd
    refine Bool.eq_false_iff.mpr fun q => ?_
    have e : D = tp := Value.ref.inj (beq_iff_eq.mp q)
    subst e
    unfold clsIn at hcD
    split at hcD
    · rename_i c' d' cd' sl' ho
      have z := (X _ _ ho).symm.trans htp
      cases z
    · cases hcD
  ca := fun X I k => class_excX T X I k
end
end My
namespace My
open PySem PySem.Spec PyProof.Rows L2

def rIsX (K : PySem.W.Frag) (D a d : Addr) : List V → Hp → VK → Prop := fun xs H Q => ∃ (c : V) (cv : Value) (b : Bool) (fs : List (Str × V)), xs = [.ref a, c] ∧ H d = some (.xd fs) ∧ (∀ u, RelV c u → u = cv) ∧ PySem.W.kitOne K (.ref D) cv = some b ∧ Q (.bl b) H
theorem call_isX {X : Cx} {a D d : Addr} {oe : Obj} {pn : List (Addr × Obj)} (C : ExcC X.K D) (hz : Zc (.ref D) (some d) oe) (hf : ∃ vs, oe.data = .fields vs) : CallR (X.suite a ((a, oe) :: pn)) (.builtin "isinstance") (rIsX X.K D a d) := by
  intro pins s σ H xs us Q I r h
  obtain ⟨c, cv, b, fs, rfl, hd, hcv, e, q⟩ := h
  cases r with
  | cons rx rr =>
    cases rr with
    | cons rt rr =>
      cases rr
      cases rx
      have ec := hcv _ rt
      subst ec
      obtain ⟨hget, _⟩ := I.pin (a, oe) (List.mem_append.mpr (.inl List.mem_cons_self))
      obtain ⟨vs, hv⟩ := hf
      obtain ⟨o, eo⟩ := objOk_get (I.hok d _ hd)
      have J : PySem.W.InstAt s.heap a oe D (some o) := by
        obtain ⟨oc, od, oda, osl⟩ := oe
        obtain ⟨h1, h2⟩ := hz
        dsimp only at h1 h2 hv
        subst h1 h2 hv
        exact ⟨hget, rfl, rfl, eo⟩
      exact PySem.W.kia_one (kitX_exc C) I.kIn J e (fun z => nomatch z) fun tk => ⟨.bl b, H, I.kept (t' := tk) fun _ _ z => z, rfl, q⟩

def rIsXc (K : PySem.W.Frag) (D a : Addr) (cls : Value) (d : Option Addr) : List V → Hp → VK → Prop := fun xs H Q => ∃ dd, cls = .ref D ∧ d = some dd ∧ rIsX K D a dd xs H Q
theorem call_isXc {X : Cx} {a D : Addr} {cls : Value} {d : Option Addr} {oe : Obj} {pn : List (Addr × Obj)} (C : ExcC X.K D) (hz : Zc cls d oe) (hf : ∃ vs, oe.data = .fields vs) : CallR (X.suite a ((a, oe) :: pn)) (.builtin "isinstance") (rIsXc X.K D a cls d) := by
  intro pins s σ H xs us Q I r h
  obtain ⟨dd, rfl, rfl, h⟩ := h
  exact call_isX C hz hf pins s σ H xs us Q I r h

theorem call_reprS {X : Cx} {a : Addr} {pn : List (Addr × Obj)} (g : X.A.guards = some []) (hu : X.A.units + 64 < cLine) : CallR (X.suite a pn) (.builtin "repr") (rRepr X.K) :=
  call_repr (X := X.suite a pn) g hu
end My
set_option Elab.async false
set_option maxRecDepth 100000
set_option maxHeartbeats 4000000
set_option linter.unusedVariables false
namespace My
open PySem PySem.Spec PyProof.Rows L2

def LitE (K : PySem.W.Frag) (σ : L2.St) (t : TE) (d : PyData) : Prop := ∀ (H : Hp) (Q : VK), (∀ v H', Same H H' → Dp K H' v d → Q v H') → t σ H Q
def LitA (K : PySem.W.Frag) (σ : L2.St) (t : TA) (ds : List PyData) : Prop := ∀ (H : Hp) (Q : List V → Hp → Prop), (∀ vs H', Same H H' → DpAll K H' vs ds → Q vs H') → t σ H Q
section
variable {K : PySem.W.Frag} {σ : L2.St}
theorem dpAll_len {H : Hp} : ∀ {vs : List V} {ds : List PyData}, DpAll K H vs ds → vs.length = ds.length
  | _, _, .nil => rfl
  | _, _, .cons _ r => by rw [List.length_cons, List.length_cons, dpAll_len r]
theorem lit_c {v : V} {d : PyData} (h : ∀ H, Dp K H v d) : LitE K σ (tC v) d := fun H Q k => k v H (Same.refl H) (h H)
theorem lit_int (i : Int) : LitE K σ (tC (.int i)) (.int i) := lit_c fun _ => .int i
theorem lit_str (x : Str) : LitE K σ (tC (.str x)) (.str x) := lit_c fun _ => .str x
theorem lit_bl (b : Bool) : LitE K σ (tC (.bl b)) (.bool b) := lit_c fun _ => .bl b
theorem lit_non : LitE K σ (tC .non) .none := lit_c fun _ => .non
theorem lit_var {i : Nat} {v : V} {d : PyData} (e : σ[i]? = some (some v)) (h : ∀ H, Dp K H v d) : LitE K σ (tVar i) d := fun H Q k => ⟨v, e, k v H (Same.refl H) (h H)⟩
theorem lit_nil : LitA K σ tNil [] := fun H Q k => k [] H (Same.refl H) .nil
theorem lit_cons {t : TE} {u : TA} {d : PyData} {ds : List PyData} (h : LitE K σ t d) (r : LitA K σ u ds) : LitA K σ (tCons t u) (d :: ds) := by
  intro H Q k
  refine h H _ fun v H1 s1 hv => r H1 _ fun vs H2 s2 hvs => ?_
  exact k _ _ (s1.trans s2) (.cons (dp_same s2 _ _ hv) hvs)
theorem lit_len {n : Nat} (h : n ≤ 1000) : n ≤ sizeLine := Nat.le_trans h (by decide)
theorem lit_tup {u : TA} {ds : List PyData} (r : LitA K σ u ds) (hl : ds.length ≤ 1000) : LitE K σ (tTup u) (.tuple ds) := by
  intro H Q k
  refine r H _ fun vs H1 s1 hvs => ⟨lit_len (by rw [dpAll_len hvs]; exact hl), fun p hp => ?_⟩
  have s2 : Same H1 (upd H1 p (.tup vs)) := same_new hp
  exact k _ _ (s1.trans s2) (.tup (.inl (.inl upd_same)) (dpAll_same s2 _ _ hvs))
theorem lit_lst {u : TA} {ds : List PyData} (r : LitA K σ u ds) (hl : ds.length ≤ 1000) : LitE K σ (tLst u) (.list ds) := by
  intro H Q k
  refine r H _ fun vs H1 s1 hvs => ⟨lit_len (by rw [dpAll_len hvs]; exact hl), fun p hp => ?_⟩
  have s2 : Same H1 (upd H1 p (.lst vs)) := same_new hp
  exact k _ _ (s1.trans s2) (.lst (.inl (.inl upd_same)) (dpAll_same s2 _ _ hvs))

def LsD (K : PySem.W.Frag) (H : Hp) (a : Addr) (ds : List PyData) : Prop := ∃ vs, H a = some (.lst vs) ∧ DpAll K H vs ds
theorem LsD.dp {H : Hp} {a : Addr} {ds : List PyData} (h : LsD K H a ds) : Dp K H (.ref a) (.list ds) := by
  obtain ⟨vs, h1, h2⟩ := h
  exact .lst (.inl (.inl h1)) h2
theorem LsD.same {H H' : Hp} {a : Addr} {ds : List PyData} (h : LsD K H a ds) (s : Same H H') : LsD K H' a ds := by
  obtain ⟨vs, h1, h2⟩ := h
  exact ⟨vs, s _ _ h1, dpAll_same s _ _ h2⟩
theorem LsD.len {H : Hp} {a : Addr} {ds : List PyData} {vs : List V} (h : LsD K H a ds) (e : H a = some (.lst vs)) : vs.length = ds.length := by
  obtain ⟨ws, h1, h2⟩ := h
  rw [h1] at e
  cases e
  exact dpAll_len h2

theorem lit_new {u : TA} {ds : List PyData} (r : LitA K σ u ds) (hl : ds.length ≤ 1000) {H : Hp} {Q : VK} (k : ∀ a H', Same H H' → H a = none → LsD K H' a ds → Q (.ref a) H') : tLst u σ H Q := by
  refine r H _ fun vs H1 s1 hvs => ⟨lit_len (by rw [dpAll_len hvs]; exact hl), fun p hp => ?_⟩
  have s2 : Same H1 (upd H1 p (.lst vs)) := same_new hp
  exact k _ _ (s1.trans s2) (s1.free hp) ⟨vs, upd_same, dpAll_same s2 _ _ hvs⟩
theorem lit_pow {i j : Int} (h : CPow i j) : LitE K σ (tOp (rI CPow fun i j => .int (i ^ j.toNat)) (tC (.int i)) (tC (.int j))) (.int (i ^ j.toNat)) := fun H Q k => ⟨_, _, rfl, rfl, h, k _ H (Same.refl H) (.int _)⟩
theorem lit_powadd {i j n : Int} (h : CPow i j) : LitE K σ (tOp (rI0 fun i j => .int (i + j)) (tOp (rI CPow fun i j => .int (i ^ j.toNat)) (tC (.int i)) (tC (.int j))) (tC (.int n))) (.int (i ^ j.toNat + n)) := fun H Q k => ⟨_, _, rfl, rfl, h, _, _, rfl, rfl, k _ H (Same.refl H) (.int _)⟩
theorem lit_neg (i : Int) : LitE K σ (tUn (rU fun i => .int (-i)) (tC (.int i))) (.int (-i)) := fun H Q k => ⟨_, rfl, k _ H (Same.refl H) (.int _)⟩
theorem dpAll_app {H : Hp} : ∀ {vs ws : List V} {ds es : List PyData}, DpAll K H vs ds → DpAll K H ws es → DpAll K H (vs ++ ws) (ds ++ es)
  | _, _, _, _, .nil, h => h
  | _, _, _, _, .cons h r, h2 => .cons h (dpAll_app r h2)
theorem dpAll_at {H : Hp} : ∀ {vs : List V} {ds : List PyData} {i : Nat} {v : V}, DpAll K H vs ds → vs[i]? = some v → ∃ d, ds[i]? = some d ∧ Dp K H v d
  | _, _, _, _, .nil, h => by cases h
  | _, _, 0, _, .cons (d := d) h r, e => by cases e; exact ⟨d, rfl, h⟩
  | _, _, i + 1, _, .cons h r, e => by
    have z := dpAll_at (i := i) r (by simpa using e)
    simpa using z
theorem dpAll_at' {H : Hp} : ∀ {vs : List V} {ds : List PyData} {i : Nat} {d : PyData}, DpAll K H vs ds → ds[i]? = some d → ∃ v, vs[i]? = some v ∧ Dp K H v d
  | _, _, _, _, .nil, h => by cases h
  | _, _, 0, _, .cons (v := v) h r, e => by cases e; exact ⟨v, rfl, h⟩
  | _, _, i + 1, _, .cons h r, e => by
    have z := dpAll_at' (i := i) r (by simpa using e)
    simpa using z
theorem dpAll_bools {H : Hp} : ∀ bs : List Bool, DpAll K H (bs.map V.bl) (bs.map PyData.bool)
  | [] => .nil
  | b :: r => .cons (.bl b) (dpAll_bools r)
theorem dpAll_ints {H : Hp} : ∀ {vs : List V} {ns : List Int}, DpAll K H vs (ns.map PyData.int) → vs = ns.map V.int
  | _, [], .nil => rfl
  | _, n :: ns, .cons h r => by
    cases h
    rw [List.map_cons, dpAll_ints r]
theorem lsd_cat {H : Hp} {a b : Addr} {ds es : List PyData} {Q : VK} (h1 : LsD K H a ds) (h2 : LsD K H b es) (hl : ds.length + es.length ≤ 1000) (k : ∀ p H', Same H H' → H p = none → LsD K H' p (ds ++ es) → Q (.ref p) H') : rCat (.ref a) (.ref b) H Q := by
  obtain ⟨vs, e1, d1⟩ := h1
  obtain ⟨ws, e2, d2⟩ := h2
  refine ⟨a, b, vs, ws, rfl, rfl, e1, e2, lit_len (by rw [dpAll_len d1, dpAll_len d2]; exact hl), fun p hp => ?_⟩
  have s := same_new hp (o := .lst (vs ++ ws))
  exact k p _ s hp ⟨_, upd_same, dpAll_same s _ _ (dpAll_app d1 d2)⟩
theorem seq_lit {u : TA} {ds : List PyData} {i : Nat} {rest : TS} {D : Ends} {H : Hp} (r : LitA K σ u ds) (hl : ds.length ≤ 1000) (k : ∀ a H', Same H H' → H a = none → LsD K H' a ds → rest D (σ.set i (some (.ref a))) H') :
    tSeq (tAsg (tLst u) (gName i)) rest D σ H := by
  show tLst u σ H fun x H1 => rest D (σ.set i (some x)) H1
  exact lit_new r hl k
theorem asg_lit {u : TA} {ds : List PyData} {i : Nat} {D : Ends} {H : Hp} (r : LitA K σ u ds) (hl : ds.length ≤ 1000) (k : ∀ a H', Same H H' → H a = none → LsD K H' a ds → D.nx (σ.set i (some (.ref a))) H') :
    tAsg (tLst u) (gName i) D σ H := by
  show tLst u σ H fun x H1 => D.nx (σ.set i (some x)) H1
  exact lit_new r hl k
theorem seq_cat {u : TA} {a : Addr} {es ds : List PyData} {i j : Nat} {rest : TS} {D : Ends} {H : Hp} (e : σ[i]? = some (some (.ref a))) (h : LsD K H a es) (r : LitA K σ u ds) (hl : es.length + ds.length ≤ 1000)
    (k : ∀ p H', Same H H' → H p = none → LsD K H' p (es ++ ds) → rest D (σ.set j (some (.ref p))) H') : tSeq (tAsg (tOp rCat (tVar i) (tLst u)) (gName j)) rest D σ H := by
  refine ⟨_, e, lit_new r (by omega) fun b H1 s1 n1 h1 => ?_⟩
  exact lsd_cat (h.same s1) h1 hl fun p H2 s2 n2 h2 => k p H2 (s1.trans s2) (s1.free n2) h2
theorem q_true {Q : VK} {b : Bool} {H : Hp} (h : b = true) (q : Q (.bl true) H) : Q (.bl b) H := h ▸ q
theorem args3 {u : TA} {ds : List PyData} {x y : V} {H : Hp} {Q : List V → Hp → Prop} (r : LitA K σ u ds) (hl : ds.length ≤ 1000) (k : ∀ a H', Same H H' → H a = none → LsD K H' a ds → Q [x, y, .ref a] H') :
    tCons (tC x) (tCons (tC y) (tCons (tLst u) tNil)) σ H Q := by
  show tLst u σ H fun v H1 => Q [x, y, v] H1
  exact lit_new r hl k
theorem args4 {u w : TA} {ds es : List PyData} {x y : V} {H : Hp} {Q : List V → Hp → Prop} (r : LitA K σ u ds) (hl : ds.length ≤ 1000) (r2 : LitA K σ w es) (hl2 : es.length ≤ 1000)
    (k : ∀ a b H', Same H H' → LsD K H' a ds → LsD K H' b es → Q [.ref a, x, y, .ref b] H') : tCons (tLst u) (tCons (tC x) (tCons (tC y) (tCons (tLst w) tNil))) σ H Q := by
  show tLst u σ H fun v H1 => tLst w σ H1 fun v2 H2 => Q [v, x, y, v2] H2
  refine lit_new r hl fun a H1 s1 n1 h1 => lit_new r2 hl2 fun b H2 s2 n2 h2 => ?_
  exact k a b H2 (s1.trans s2) (h1.same s2) h2
theorem args_ans {t : TE} {d : PyData} {i : Nat} {x y z : V} {H : Hp} {Q : List V → Hp → Prop} (e : σ[i]? = some (some z)) (r : LitE K σ t d) (k : ∀ v H', Same H H' → Dp K H' v d → Q [x, z, y, v] H') :
    tCons (tC x) (tCons (tVar i) (tCons (tC y) (tCons t tNil))) σ H Q := ⟨z, e, r _ _ k⟩
theorem iter_cat {u : TA} {a : Addr} {es ds : List PyData} {i : Nat} {H : Hp} {R : It → Hp → Prop} (e : σ[i]? = some (some (.ref a))) (h : LsD K H a es) (r : LitA K σ u ds) (hl : es.length + ds.length ≤ 1000)
    (k : ∀ p H', Same H H' → LsD K H' p (es ++ ds) → R (Itl K p) H') : iList K (tOp rCat (tVar i) (tLst u)) σ H R := by
  refine ⟨_, e, lit_new r (by omega) fun b H1 s1 n1 h1 => ?_⟩
  refine lsd_cat (h.same s1) h1 hl fun p H2 s2 n2 h2 => ?_
  have h3 := h2
  obtain ⟨vs, e2, _⟩ := h3
  exact ⟨p, rfl, ⟨vs, SqL.of e2⟩, k p H2 (s1.trans s2) h2⟩
theorem flat_bools : ∀ bs : List Bool, (bs.map V.bl).all flatV = true
  | [] => rfl
  | b :: r => flat_bools r
theorem flat_ints : ∀ bs : List Int, (bs.map V.int).all flatV = true
  | [] => rfl
  | b :: r => flat_ints r
end
theorem ix_tupN {X : Cx} {K : PySem.W.Frag} (h : X.K = K) : IxR X (rIxT K) := by
  subst h
  exact ix_tup
theorem op_in_seqN {X : Cx} {K : PySem.W.Frag} (h : X.K = K) : OpR X (compareOp .In) (rIn K false) := by
  subst h
  exact op_in_seq
section
variable {X : Cx} {k : Nat} {ps : List Str} {sp : Sp} {x : Str} {p pos : Pos}
theorem pe_fn0 (D : Fn X.prog X.w X.K X.mg X.base k x ps sp) (hr : Room k X.A) (hg : Gl X x)
    (hdb : (x == ("__debug__" : Str)) = false := by decide) : PE X (.Call (.Name x p) [] [] pos) (tCall sp [] E0 tNil) := by
  obtain ⟨f, fd, hm, F, kp, b⟩ := D
  exact pe_call0 F hr hg hm kp b .nil pass0 hdb
end

theorem lc_w {α : Type} {J : It} {n : Nat} {G : Hp → Prop} {Y : Nat → Hp → V → Hp → Prop} (w : Walk J n G Y) {g : TG} {tt : TT} {te : TE} {vs : List Nat} {σ : L2.St} {H1 : Hp} {D : Addr} {Qd : Hp → Prop}
    (as : List α) (F : α → Option V) (hn : as.length = n) (hsz : n ≤ 1000) (hD : H1 D = none) (hG : ∀ H2, Same H1 H2 → G H2)
    (hs : ∀ (i : Nat) (a : α) (x : V) (H H' : Hp) (R : Option V → Hp → Prop), as[i]? = some a → Same H1 H → Y i H x H' → (∀ H2, Same H H2 → R (F a) H2) →
      g x (wipe σ vs) H' fun σ2 H2 => wipe σ2 vs = wipe σ vs ∧ tt σ2 H2 fun b H3 => if b = true then te σ2 H3 fun y H4 => R (some y) H4 else R none H3)
    (hd : ∀ H2, Same H1 H2 → H2 D = some (.lst (as.filterMap F)) → Qd H2) :
    ∃ W : Nat → Nat → Hp → Prop, (∃ m, W 0 m (upd H1 D (.lst []))) ∧ ∀ i m H, W i m H →
      (J.stop i H ∧ Qd H) ∨ (J.go i H ∧ ∃ Nx : Hp → Prop, (∀ H', Nx H' → ∃ m', m' < m ∧ W (i + 1) m' H') ∧ ∀ x H', J.yld i H x H' → g x (wipe σ vs) H' fun σ2 H2 => wipe σ2 vs = wipe σ vs ∧ tt σ2 H2 fun b H3 =>
        if b = true then te σ2 H3 fun y H4 => ∃ acc, H4 D = some (.lst acc) ∧ acc.length < sizeLine ∧ Nx (upd H4 D (.lst (acc ++ [y]))) else Nx H3) := by
  refine lc_it w (fun i H => Same H1 H ∧ H D = some (.lst ((as.take i).filterMap F))) ⟨same_new hD, upd_same⟩ (fun i H _ p => hG H p.1) ?_
    (fun H p => hd H p.1 (by rw [p.2, ← hn, List.take_length]))
  intro i x H H' hi p y
  obtain ⟨s, hd'⟩ := p
  have hlt : i < as.length := by omega
  have ha : as[i]? = some as[i] := List.getElem?_eq_getElem hlt
  have et : (as.take (i + 1)).filterMap F = (as.take i).filterMap F ++ (F as[i]).toList := by
    rw [List.take_add_one, ha, List.filterMap_append]
    cases q : F as[i] with
    | none => simp [q]
    | some z => simp [q]
  refine hs i as[i] x H H' (fun o H4 => match o with
    | some y => ∃ acc, H4 D = some (.lst acc) ∧ acc.length < sizeLine ∧ (Same H1 (upd H4 D (.lst (acc ++ [y]))) ∧ upd H4 D (.lst (acc ++ [y])) D = some (.lst ((as.take (i + 1)).filterMap F)))
    | none => Same H1 H4 ∧ H4 D = some (.lst ((as.take (i + 1)).filterMap F))) ha s y ?_
  intro H2 s2
  cases q : F as[i] with
  | none =>
    refine ⟨s.trans s2, ?_⟩
    rw [et, q]
    simpa using s2 _ _ hd'
  | some z =>
    refine ⟨_, s2 _ _ hd', ?_, fun b o e => (upd_ne (ne_of_none e hD)).trans ((s.trans s2) b o e), ?_⟩
    · refine Nat.lt_of_le_of_lt (Nat.le_trans (List.length_filterMap_le _ _) ?_) (show 1000 < sizeLine by decide)
      rw [List.length_take]
      omega
    · rw [upd_same, et, q]
      rfl
theorem walk_zipTT {K : PySem.W.Frag} {a b : Addr} {xs ys : List V} {n : Nat} (hn : n = min xs.length ys.length) : Walk (RZ.ItzT K a b) n (fun H => SqT K H a xs ∧ SqT K H b ys) (YPair (fun i => xs[i]?) (fun i => ys[i]?)) := by
  subst hn
  refine ⟨fun i _ hi q => ?_, fun _ q => ⟨xs, ys, q.1, q.2, by omega⟩, fun i H v H' _ q y => ?_⟩
  · have h1 : i < xs.length := by omega
    have h2 : i < ys.length := by omega
    exact ⟨xs, ys, xs[i], ys[i], q.1, q.2, by simp [h1], by simp [h2]⟩
  · obtain ⟨T, x, z, h1, h2, h3, h4, h5⟩ := y
    exact ⟨T, x, z, h1, h2, h3, h4 xs q.1, h5 ys q.2⟩
theorem zip_get {α β : Type} {xs : List α} {ys : List β} {i : Nat} {q : α × β} (h : (xs.zip ys)[i]? = some q) : xs[i]? = some q.1 ∧ ys[i]? = some q.2 := by
  rw [List.getElem?_zip_eq_some] at h
  exact h
theorem filterMap_some {α : Type} (f : α → V) : ∀ as : List α, as.filterMap (fun a => some (f a)) = as.map f
  | [] => rfl
  | a :: r => by rw [List.filterMap_cons, List.map_cons, filterMap_some f r]
end My
set_option Elab.async false
set_option maxRecDepth 100000
set_option maxHeartbeats 4000000
set_option linter.unusedVariables false
namespace My
open PySem PySem.Spec PyProof.Rows L2

section
variable {P : Program} {w : World} {A : Around} {E : Value → Shared → Prop} {s : Shared}
theorem subset_any {a b : Addr} {S T : Int → Bool} {n : Nat} {nm : String} {A' : Around} {Q : Bool → Shared → Prop} (ha : s.heap.SetOf (intKind P w) a S n) (hb : s.heap.SetOf (intKind P w) b T n) (h1 : (∀ k, S k = true → T k = true) → Q true s) (h0 : (∃ k, S k = true ∧ T k = false) → Q false s) :
    wpAny (model P w) A' (Builtin.Frozenset.subsetOf nm a b) Q E s := by
  obtain ⟨oa, ea, epa, ta, hoa, hxa, hda, hela, hma, hba, hfa, hna⟩ := id ha
  obtain ⟨ob, eb, epb, tb, hob, hxb, hdb, helb, hmb, hbb, hfb, hnb⟩ := id hb
  have sz : ∀ {c : Addr} {o : Obj} {es : Array (Int × Value)} {ep : Nat} {t : SetTable} {Q' : Nat → Shared → Prop} {A' : Around}, s.heap.get? c = some o → o.data = .set es ep t → t.fits es.size = true → Q' es.size s →
      wpAny (model P w) A' (Builtin.Frozenset.sizeOf c) Q' E s := by
    intro c o es ep t Q' A' ho hd hf h
    unfold Builtin.Frozenset.sizeOf setEntries
    exact wpAny_bind (wpAny_bind (wpAny_setState_of ho hd hf (wpAny_pure (wpAny_pure h))))
  unfold Builtin.Frozenset.subsetOf
  refine wpAny_bind (sz hoa hda hfa ?_)
  refine wpAny_bind (sz hob hdb hfb ?_)
  rw [hna, hnb, if_neg (by omega)]
  refine wpAny_bind (wpAny_setEpoch_of hoa hda hfa ?_)
  refine wpAny_bind (walk_quiet hoa hda hfa hob hdb hfb hela helb ?_)
  refine wpAny_bind (wpAny_mono (wpAny_forIn_list _ (fun rest (r : Option Bool × Unit) s' => r.1 = none ∧ s' = s ∧ (∀ e ∈ rest, e ∈ ea.toList) ∧ ∀ k, S k = true → (∃ e ∈ rest, (intKind P w).is k e.2 = true) ∨ T k = true)
    (fun (r : Option Bool × Unit) s' => (r.1 = none ∧ s' = s ∧ ∀ k, S k = true → T k = true) ∨ (r.1 = some false ∧ s' = s ∧ ∃ k, S k = true ∧ T k = false)) ?_ ?_ _ _ ?_) ?_ fun _ _ z => z)
  · rintro ⟨hh, x⟩ rest r s' ⟨hr, rfl, hi, hk2⟩
    have hm := hi _ List.mem_cons_self
    obtain ⟨⟨k, hk, hq⟩, hsc⟩ := hela _ hm
    dsimp only at hk hq hsc
    subst hq
    have hS : S k = true := (hma k).2 ⟨_, hm, hk⟩
    refine wpAny_bind (wpAny_holding (wpAny_setFind_of (knd := intKind P w) hk hsc hb fun r hr => ?_))
    cases r with
    | none =>
      simp only [Option.isNone_none, if_true]
      exact wpAny_pure (.inr ⟨rfl, rfl, k, hS, by cases q : T k with | false => rfl | true => rw [q] at hr; cases hr⟩)
    | some j =>
      simp only [Option.isNone_some, Bool.false_eq_true, if_false]
      unfold Builtin.Frozenset.unchanged
      refine wpAny_bind (wpAny_bind (wpAny_setEpoch_of hoa hda hfa ?_))
      rw [bne_self_eq_false]
      simp only [Bool.false_eq_true, if_false]
      refine wpAny_pure (wpAny_pure ⟨rfl, rfl, fun e he => hi e (List.mem_cons_of_mem _ he), fun k' h' => ?_⟩)
      rcases hk2 k' h' with ⟨e, he, hq⟩ | z
      · rcases List.mem_cons.mp he with rfl | he
        · obtain ⟨t1, e1⟩ := is_int hk
          obtain ⟨t2, e2⟩ := is_int hq
          have e2' : x = Value.int k' t2 := e2
          rw [e1] at e2'
          cases e2'
          refine .inr ?_
          cases q : T k with
          | true => rfl
          | false => rw [q] at hr; cases hr
        · exact .inl ⟨e, he, hq⟩
      · exact .inr z
  · rintro r s' ⟨hr, rfl, _, hk2⟩
    refine .inl ⟨hr, rfl, fun k h' => ?_⟩
    rcases hk2 k h' with ⟨e, he, _⟩ | z
    · cases he
    · exact z
  · exact ⟨rfl, rfl, fun e he => he, fun k h' => .inl ((hma k).1 h')⟩
  · rintro ⟨r, u⟩ s' hp
    dsimp only at hp
    rcases hp with ⟨rfl, rfl, z⟩ | ⟨rfl, rfl, z⟩
    · exact wpAny_pure (h1 z)
    · exact wpAny_pure (h0 z)
theorem set_eqB {a b : Addr} {S T : Int → Bool} {n m : Nat} {Q : Value → Shared → Prop} (ha : s.heap.SetOf (intKind P w) a S n) (hb : s.heap.SetOf (intKind P w) b T m) (hu : A.units < cLine) (h : ∀ r, (r = true → n = m ∧ ∀ k, S k = true → T k = true) → (r = false → n = m → ∃ k, S k = true ∧ T k = false) → Q (.bool r) s) :
    wpAny (model P w) A (compareOp .Eq (.ref a) (.ref b)) Q E s := by
  refine wpAny_richCompare_same_room (op := .Eq) ha.typeIs hb.typeIs slot_set_eq (wpAny_call_entry slot_set_eq ha.typeIs entry_set_eq ?_ (args_set_eq_2 _ _)) hu
  have f1 := F.sub_set_set
  obtain ⟨oa, ea, epa, ta, hoa, hxa, hda, hela, hma, hba, hfa, hna⟩ := id ha
  obtain ⟨ob, eb, epb, tb, hob, hxb, hdb, helb, hmb, hbb, hfb, hnb⟩ := id hb
  obtain ⟨ac, ad, adt, asl⟩ := oa
  obtain ⟨bc, bd, bdt, bsl⟩ := ob
  simp only at hda hdb
  have hca : ac = .type "set" := hxa.1
  have hcb : bc = .type "set" := hxb.1
  subst hda hdb hca hcb
  have f2 := F.sub_set_frozenset
  have sz : ∀ {c : Addr} {o : Obj} {es : Array (Int × Value)} {ep : Nat} {t : SetTable} {Q' : Nat → Shared → Prop} {A' : Around}, s.heap.get? c = some o → o.data = .set es ep t → t.fits es.size = true → Q' es.size s →
      wpAny (model P w) A' (Builtin.Frozenset.sizeOf c) Q' E s := by
    intro c o es ep t Q' A' ho hd hf h
    unfold Builtin.Frozenset.sizeOf setEntries
    exact wpAny_bind (wpAny_bind (wpAny_setState_of ho hd hf (wpAny_pure (wpAny_pure h))))
  unfold Builtin.«frozenset.__eq__»
  refine wpAny_bind ?_
  generalize hSZ : Builtin.Frozenset.sizeOf = SZ
  generalize hSB : Builtin.Frozenset.subsetOf = SB
  wp_walk
  subst hSZ
  refine sz hoa rfl hfa ?_
  refine wpAny_bind (sz hob rfl hfb ?_)
  rw [hna, hnb]
  by_cases e : n = m
  · subst e
    rw [bne_self_eq_false]
    wp_walk
    subst hSB
    refine subset_any ha hb (fun z => ?_) fun z => ?_
    · exact wpAny_pure ⟨_, rfl, fun z => (nomatch z), h true (fun _ => ⟨rfl, z⟩) fun q => nomatch q⟩
    · exact wpAny_pure ⟨_, rfl, fun z => (nomatch z), h false (fun q => nomatch q) fun _ _ => z⟩
  · have e2 : (n != m) = true := bne_iff_ne.mpr e
    rw [e2]
    wp_walk
    exact ⟨_, rfl, fun z => (nomatch z), h false (fun q => nomatch q) fun _ z => (e z).elim⟩
end
section
variable {X : Cx}

def rEqSetB : R2 := fun x y H Q => ∃ a b S T n m, x = .ref a ∧ y = .ref b ∧ H a = some (.set S n) ∧ H b = some (.set T m) ∧ ∀ r, (r = true → n = m ∧ ∀ k, S k = true → T k = true) → (r = false → n = m → ∃ k, S k = true ∧ T k = false) → Q (.bl r) H
theorem op_eqSetB (hu : X.A.units + 1 < cLine) : OpR X (compareOp .Eq) rEqSetB := by
  intro pins s σ H x y v u Q I rx ry h
  obtain ⟨a, b, S, T, n, m, rfl, rfl, ha, hb, q⟩ := h
  cases rx; cases ry
  exact set_eqB (I.hok a _ ha) (I.hok b _ hb) (Nat.lt_of_succ_lt hu) fun r h1 h0 => ⟨.bl r, H, I, rfl, q r h1 h0⟩
end
end My
set_option Elab.async false
set_option maxRecDepth 100000
set_option maxHeartbeats 4000000
set_option linter.unusedVariables false
namespace My
open PySem PySem.Spec PyProof.Rows L2 L2.DX

theorem eqAt_strB (A : Around) (s : Shared) (a : Str) (t : Tok) (c : Str) (u : Tok) : ∃ e, SeqAt.EqAt A s (.str a t) (.str c u) e ∧ (e = true ↔ a = c) :=
  ⟨(a == c), SeqAt.EqAt.str_str a t c u, by simp⟩
def sameForms (l m : List (Int × Str)) : Bool := l.length == m.length && l.all fun p => look m p.1 == some p.2
def rEqF : R2 := fun x y H Q => ∃ a b l m, x = .ref a ∧ y = .ref b ∧ H a = some (.dK (ents l)) ∧ H b = some (.dK (ents m)) ∧ Q (.bl (sameForms l m)) H
theorem hits_forms {P : Program} {w : World} {A : Around} {s : Shared} {m : List (Int × Str)} {vb : List (Key × Value)} (rb : KV (ents m) vb) : ∀ {l : List (Int × Str)} {va : List (Key × Value)}, KV (ents l) va →
    PySem.W.KeqHitsP P w A s vb va (l.all fun p => look m p.1 == some p.2) := by
  intro l
  induction l with
  | nil =>
    intro va ra
    cases ra
    exact .nil
  | cons p l ih =>
    intro va ra
    unfold KV ents at ra
    rw [List.map_cons] at ra
    cases ra with
    | @cons _ q _ qs h t =>
      obtain ⟨h1, h2⟩ := h
      obtain ⟨key, v⟩ := q
      have h1' : (Sum.inl p.1 : Key) = key := h1
      subst h1'
      obtain ⟨tk, e2⟩ := (show RelV (.str p.2) v from h2)
      subst e2
      have ih' := ih (va := qs) (by unfold KV ents; exact t)
      have rr : RelO (valV (ents m) (.inl p.1)) (valueAt vb (.inl p.1)) := rb.val (.inl p.1)
      rw [valV_ents] at rr
      rw [List.all_cons]
      cases e : look m p.1 with
      | none =>
        rw [e] at rr
        have hn : valueAt vb (.inl p.1) = none := RelO.none_of rr
        show PySem.W.KeqHitsP P w A s vb _ ((none == some p.2) && _)
        exact .miss hn
      | some n =>
        rw [e] at rr
        obtain ⟨y, hy, tk2, ry⟩ := rr.some_of
        subst ry
        obtain ⟨b, hb, hi⟩ := eqAt_strB A s p.2 tk n tk2
        have eb : (some n == some p.2) = b := by
          cases b with
          | true => rw [hi.mp rfl]; exact beq_self_eq_true _
          | false =>
            have : ¬ n = p.2 := fun z => by have := hi.mpr z.symm; cases this
            simpa using this
        rw [eb]
        exact .hit hy hb.eqP ih'
section
variable {X : Cx}
theorem op_eqF (hu : X.A.units + 80 < cLine) : OpR X (compareOp .Eq) rEqF := by
  intro pins s σ H x y v u Q I rx ry h
  obtain ⟨a, b, l, m, rfl, rfl, ha, hb, q⟩ := h
  cases (show v = Value.ref a from rx)
  cases (show u = Value.ref b from ry)
  obtain ⟨_, ya, va, ra, da⟩ := (show ObjOk X.prog X.w H s.heap a (.dK (ents l)) from I.hok a _ ha)
  obtain ⟨_, yb, vb, rb, db⟩ := (show ObjOk X.prog X.w H s.heap b (.dK (ents m)) from I.hok b _ hb)
  refine PySem.W.rcP_dicts (knd := mixKind X.prog X.w) (r := l.all fun p => look m p.1 == some p.2) ya yb da db (by omega) (fun _ => hits_forms rb ra) _ _ ?_
  have e1 : va.length = l.length := by rw [← ra.length, ents_len]
  have e2 : vb.length = m.length := by rw [← rb.length, ents_len]
  rw [e1, e2]
  exact ⟨.bl _, H, I, rfl, q⟩
end
def kinds7 : List String := ["NoneType", "bool", "int", "str", "list", "tuple", "dict"]
theorem tyD_kinds (d : PyData) : tyD d ∈ kinds7 := by
  cases d <;> simp [tyD, kinds7]

def spEqX (K : PySem.W.Frag) (C : Addr) : Sp := fun vs H Q _ => ∃ U a es y, vs = [.ref a, y] ∧ FS C U H a es ∧
  ((∃ W b fs, y = .ref b ∧ FS C W H b fs ∧ Q (.bl (sameForms es fs)) H) ∨ (∃ d, Dx K H y d ∧ Q (.bl false) H))

def spEqKB (C : Addr) : Sp := fun vs H Q _ => ∃ U W a b es fs, vs = [.ref a, .ref b] ∧ FS C U H a es ∧ FS C W H b fs ∧
  ∀ H' r, Same H H' → (r = true → es.length = fs.length ∧ ∀ k, has es k = true → has fs k = true) → (r = false → es.length = fs.length → ∃ k, has es k = true ∧ has fs k = false) → Q (.bl r) H'
end My
set_option Elab.async false
set_option maxRecDepth 100000
set_option maxHeartbeats 4000000
set_option linter.unusedVariables false
namespace My
open PySem PySem.Spec PyProof.Rows L2

section
variable {X : Cx} {pins : List (Addr × Obj)} {σ : L2.St} {H : Hp} {s : Shared}
theorem str_back {Q : VK} {P : Value → Shared → Prop} {s' : Shared} {u : Value} (h : EP X pins σ (fun v H' => ∃ x, v = .str x ∧ Q (.str x) H') u s') (k : ∀ t x H', Inv X pins σ H' s' → Q (.str x) H' → P (.str x t) s') : PySem.W.StrBack P u s' := by
  obtain ⟨_, H', I', r, x, rfl, q⟩ := h
  obtain ⟨t, rfl⟩ := r
  exact k t x H' I' q

theorem run_inG {k : Nat} {f : Addr} {fd : FuncData} {ps : List Str} {sp : Sp} {Q : VK} {us : List Value} {vs : List V}
    (F : FnG X.prog X.w X.K X.mg X.base CX0 k f fd ps sp) (hg : X.A.guards = some []) (hr : Room (k + 1) X.A) (hb : Binds X.K fd ps []) (I : Inv X pins σ H s)
    (r : Vals vs us) (h : sp vs H Q E0) {E : Value → Shared → Prop} :
    wpAny (model X.prog X.w) X.A.in1 (call (.ref f) us) (EP X pins σ Q) E s := by
  have hl : us.length = ps.length := r.length.symm.trans (F.len _ _ _ _ h)
  have b0 : BindsTo s fd ⟨us, []⟩ (ps.zip us) := by
    have := hb s us I.kIn (by simpa using hl)
    simpa using this
  have z := F.run X.A.in1 X.stack s H ⟨us, []⟩ us vs Q E0 hg hr.in1 I.env0.in1 b0 r h
  refine wpAny_call (codeAny_mono z ?_)
  intro r s' hq
  match r, hq with
  | .error e, hq => exact hq.elim
  | .ok (.ret u), hq => exact I.after hq
  | .ok .next, hq => exact hq.elim
  | .ok .brk, hq => exact hq.elim
  | .ok .cont, hq => exact hq.elim
theorem run_in2 {k : Nat} {f : Addr} {fd : FuncData} {ps : List Str} {sp : Sp} {Q : VK} {us : List Value} {vs : List V}
    (F : FnOk X.prog X.w X.K X.mg X.base CX0 k f fd ps sp) (hr : Room (k + 1 + 1) X.A) (hb : Binds X.K fd ps []) (I : Inv X pins σ H s)
    (r : Vals vs us) (h : sp vs H Q E0) {E : Value → Shared → Prop} :
    wpAny (model X.prog X.w) X.A.in1.in1 (call (.ref f) us) (EP X pins σ Q) E s := by
  have hl : us.length = ps.length := r.length.symm.trans (F.len _ _ _ _ h)
  have b0 : BindsTo s fd ⟨us, []⟩ (ps.zip us) := by
    have := hb s us I.kIn (by simpa using hl)
    simpa using this
  have z := F.run X.A.in1.in1 X.stack s H ⟨us, []⟩ us vs Q E0 hr.in1.in1 I.env0.in1.in1 b0 r h
  refine wpAny_call (codeAny_mono z ?_)
  intro r s' hq
  match r, hq with
  | .error e, hq => exact hq.elim
  | .ok (.ret u), hq => exact I.after hq
  | .ok .next, hq => exact hq.elim
  | .ok .brk, hq => exact hq.elim
  | .ok .cont, hq => exact hq.elim
end
section
variable {X : Cx}
def rOwnT (C : Addr) (sp : Sp) : List V → Hp → VK → Prop := fun vs H Q => ∃ b dy gs, vs = [.ref b] ∧ H b = some (.ins C dy gs) ∧
  sp [.ref b] H (fun v H' => ∃ x, v = .str x ∧ Q (.str x) H') E0

def MtG (P : Program) (w : World) (K : PySem.W.Frag) (mg : Str → Option Value) (base : Heap) (C : Addr) (m : Str) (k : Nat) (ps : List Str) (sp : Sp) : Prop :=
  ∃ f fd, PySem.W.findIn K (.ref C) m = some (some (.ref f)) ∧ PySem.W.isFn K (.ref f) = true ∧ PySem.W.keepIn K (.ref f) = true ∧ FnG P w K mg base CX0 k f fd ps sp ∧ Binds K fd ps []
theorem call_ownRepr {C : Addr} {k : Nat} {ps : List Str} {sp : Sp} (hg : X.A.guards = some []) (O : MtG X.prog X.w X.K X.mg X.base C "__repr__" k ps sp) (hr : Room (k + 1) X.A) :
    CallR X (.builtin "repr") (rOwnT C sp) := by
  intro pins s σ H vs us Q I r h
  obtain ⟨b, dy, gs, rfl, hb, q⟩ := h
  obtain ⟨u, rfl, ru⟩ := vals1 r
  cases ru
  obtain ⟨f, fd, hs, hf, _, F, bd⟩ := O
  obtain ⟨m, Fr⟩ := fr_of I
  obtain ⟨ox, od, J⟩ := inst_of I hb
  have hu : X.A.units + 1 < cLine := by have := hr.un; omega
  refine PySem.W.repr_K hu Fr I.ok.mod.kin J hs hf ?_
  refine thn (run_inG (us := [.ref b]) (vs := [.ref b]) F hg hr bd I (.cons rfl .nil) q) ?_
  intro u s' z
  exact str_back z fun t x H' I' q => ⟨.str x, H', I', ⟨t, rfl⟩, q⟩
theorem call_ownStr {C : Addr} {k : Nat} {ps : List Str} {sp : Sp} (O : OwnOp X C "__str__" k ps sp) (hr : Room (k + 1 + 1) X.A) :
    CallR X (.type "str") (rOwnT C sp) := by
  intro pins s σ H vs us Q I r h
  obtain ⟨b, dy, gs, rfl, hb, q⟩ := h
  obtain ⟨u, rfl, ru⟩ := vals1 r
  cases ru
  obtain ⟨f, fd, hs, hf, F, bd⟩ := O.ex
  obtain ⟨m, Fr⟩ := fr_of I
  obtain ⟨ox, od, J⟩ := inst_of I hb
  have hu : X.A.units + 1 + 1 < cLine := by have := hr.un; omega
  refine PySem.W.kso_call hu I.kIn J hs hf ?_
  refine thn (run_in2 (us := [.ref b]) (vs := [.ref b]) F hr bd I (.cons rfl .nil) q) ?_
  intro u s' z
  exact str_back z fun t x H' I' q => ⟨.str x, H', I', ⟨t, rfl⟩, q⟩

def tFmtD (K : PySem.W.Frag) (te : TE) : TE := fun σ H Q => te σ H fun x H1 => ∃ a d, x = .ref a ∧ Dp K H1 x d ∧ d.showable = true ∧ d.depth ≤ 60 ∧ d.shown.length ≤ sizeLine ∧ Q (.str d.shown) H1
theorem pe_fmtD {e : Expr} {te : TE} {pos : Pos} (hg : X.A.guards = some []) (hu : X.A.units + 64 < cLine) (he : PE X e te) : PE X (.FormattedValue e 114 none pos) (tFmtD X.K te) := by
  refine ⟨fun pins s σ H Q I h => ?_⟩
  refine wpAny_FormattedValue_repr (thn (he.run pins s σ H _ I h) fun v s1 hv => ?_)
  obtain ⟨_, H1, I1, r1, a, d, rfl, hx, hs, hd, hz, q⟩ := hv
  cases r1
  obtain ⟨as, rd⟩ := Dp.reads I1 d (.ref a) (.ref a) hx rfl
  refine pyReprObj_of_reads rd hs (fun z => by rw [dp_noDict d _ hx] at z; cases z) hg (by omega) (fun _ _ e => e) ?_ hz
  intro h' u tk hk
  exact wpAny_formatField_str ⟨.str d.shown, H1, I1.kept hk, ⟨u, rfl⟩, q⟩ ⟨.str d.shown, H1, (I1.kept (t' := tk) hk).tok _, ⟨_, rfl⟩, q⟩ hz
end
section
open PySem.W
variable {prog : Program} {w : World} {A : Around} {E : Value → Shared → Prop} {s : Shared} {K : Frag} {x C f L : Addr} {h₀ : Heap} {m : Str → Option Value} {ox : Obj} {od : Option Obj}

theorem truthy_len {Q : Bool → Shared → Prop} (F : Fr h₀ L s.heap m) (X₀ : K.In h₀) (I : InstAt s.heap x ox C od) (hs : findIn K (.ref C) "__bool__" = some none) (hl : findIn K (.ref C) "__len__" = some (some (.ref f))) (hf : isFn K (.ref f) = true)
    (h : wpAny (model prog w) A.in1 (call (.ref f) [.ref x]) (PySem.W.LenBack (fun v s' => ∃ n t, v = .int n t ∧ Q (n != 0) s')) E s) : wpAny (model prog w) A (truthy (.ref x)) Q E s := by
  have X := X₀.keeps F.keep
  unfold truthy
  refine wpAny_bind (m := callSpecial? (.ref x) (Str.ofString "__bool__")) (wpAny_bind (wpAny_bind (I.type.here ((looks_findIn X hs).here (wpAny_pure ?_)))))
  refine wpAny_bind (wpAny_bind (I.type.here ((looks_findIn X hl).here ?_)))
  show wpAny _ _ (if (some (Value.ref f)).isNone = true then _ else _) _ _ _
  rw [if_neg (by simp)]
  refine wpAny_bind (wpAny_runValue (codeAny_builtin entry_len ?_))
  rw [Around.under_plainId plain_len _]
  refine wpAny_mono (Q := fun fin s' => ∃ v, fin = .done (.ret v) ∧ ∃ n t, v = .int n t ∧ Q (n != 0) s') ?_ ?_ fun _ _ e => e
  · unfold Builtin.«len»
    refine wpAny_bind (m := oneArg "len" _) (wpAny_pure ?_)
    refine wpAny_bind (m := callSpecial? (.ref x) (Str.ofString "__len__")) (special_fn X I hl (beq_iff_eq.mp hf) (wpAny_mono h (fun r s' hr => ?_) fun _ _ y => y))
    cases r <;> first | exact hr.elim | skip
    rename_i n u
    obtain ⟨⟨h0, h1⟩, hq⟩ := hr
    refine wpAny_bind (wpAny_holding (wpAny_pure ?_))
    refine wpAny_bind (wpAny_letGo ?_)
    show wpAny _ _ (if n < 0 then _ else _) _ _ _
    rw [if_neg (by omega)]
    show wpAny _ _ (if n ≥ 2 ^ 63 then _ else _) _ _ _
    rw [if_neg (by omega)]
    exact wpAny_bind (wpAny_mkInt (wpAny_pure ⟨_, rfl, hq⟩))
  · rintro fin s' ⟨v, rfl, n, t, rfl, q⟩
    exact wpAny_pure q
open Builtin in
theorem bool_len {Q : Value → Shared → Prop} (X : K.In s.heap) (I : InstAt s.heap x ox C od) (F : Fr h₀ L s.heap m) (X₀ : K.In h₀) (hs : findIn K (.ref C) "__bool__" = some none) (hl : findIn K (.ref C) "__len__" = some (some (.ref f))) (hf : isFn K (.ref f) = true)
    (h : wpAny (model prog w) A.in1.in1.in1 (call (.ref f) [.ref x]) (PySem.W.LenBack (fun v s' => ∃ n t, v = .int n t ∧ Q (.bool (n != 0)) s')) E s) : wpAny (model prog w) A (call (.type "bool") [.ref x]) Q E s := by
  refine callType_codes (T := "bool") (Bi := Builtin.«object.__init__») (Q₁ := fun r s₁ => ∃ b, r = .bool b ∧ Q r s₁) PySem.F.called_bool (PySem.F.typeCall_bool_1 _) PySem.F.entry_object_init ?_ ?_
  · refine codeAny_of_tree ?_
    show wpAny _ A.in1.in1 (do checkBuiltinCall "bool.__new__" ⟨[.type "bool", .ref x], []⟩; again (.builtin "bool.__new__" ⟨[.type "bool", .ref x], []⟩)) _ _ s
    refine wpAny_bind (wpAny_of_eq (PySem.F.newCall_bool_1 _) (wpAny_pure ⟨plainId_quiet (by decide +kernel) _, codeAny_builtin PySem.F.entry_bool_new ?_⟩))
    rw [Around.under_plainId (by decide +kernel) _]
    unfold Builtin.«bool.__new__»
    refine wpAny_bind (m := isType (.type "bool")) (wpAny_pure ?_)
    refine wpAny_bind (wpAny_of_eq PySem.F.conv_sub_bool ?_)
    refine wpAny_bind (m := someArgs "bool" 0 1 _) (wpAny_pure ?_)
    refine wpAny_bind (wpAny_mono (truthy_len F X₀ I hs hl hf (Q := fun b s' => Q (.bool b) s') h) (fun b s' hb => ?_) fun _ _ e => e)
    exact wpAny_pure ⟨b, rfl, hb⟩
  · rintro obj s₁ ⟨y, rfl, hq⟩
    exact ⟨PySem.typeIs_bool _ _, PySem.F.args_object_init_2 _ _, object_init_meets PySem.F.called_bool.init.lookup PySem.F.called_bool.made (by decide) prog w A.in1 _ s₁ ⟨PySem.typeIs_bool _ _, rfl, hq⟩⟩
end
section
variable {X : Cx}
def rOwnN (C : Addr) (sp : Sp) : List V → Hp → VK → Prop := fun vs H Q => ∃ b dy gs, vs = [.ref b] ∧ H b = some (.ins C dy gs) ∧
  sp [.ref b] H (fun v H' => ∃ n : Int, v = .int n ∧ 0 ≤ n ∧ n < 2 ^ 63 ∧ Q (.bl (n != 0)) H') E0
theorem run_in3 {pins : List (Addr × Obj)} {σ : L2.St} {H : Hp} {s : Shared} {k : Nat} {f : Addr} {fd : FuncData} {ps : List Str} {sp : Sp} {Q : VK} {us : List Value} {vs : List V}
    (F : FnOk X.prog X.w X.K X.mg X.base CX0 k f fd ps sp) (hr : Room (k + 1 + 1 + 1) X.A) (hb : Binds X.K fd ps []) (I : Inv X pins σ H s)
    (r : Vals vs us) (h : sp vs H Q E0) {E : Value → Shared → Prop} :
    wpAny (model X.prog X.w) X.A.in1.in1.in1 (call (.ref f) us) (EP X pins σ Q) E s := by
  have hl : us.length = ps.length := r.length.symm.trans (F.len _ _ _ _ h)
  have b0 : BindsTo s fd ⟨us, []⟩ (ps.zip us) := by
    have := hb s us I.kIn (by simpa using hl)
    simpa using this
  have z := F.run X.A.in1.in1.in1 X.stack s H ⟨us, []⟩ us vs Q E0 hr.in1.in1.in1 I.env0.in1.in1.in1 b0 r h
  refine wpAny_call (codeAny_mono z ?_)
  intro r s' hq
  match r, hq with
  | .error e, hq => exact hq.elim
  | .ok (.ret u), hq => exact I.after hq
  | .ok .next, hq => exact hq.elim
  | .ok .brk, hq => exact hq.elim
  | .ok .cont, hq => exact hq.elim
theorem call_ownBool {C : Addr} {k : Nat} {ps : List Str} {sp : Sp} (nb : PySem.W.findIn X.K (.ref C) "__bool__" = some none) (O : OwnOp X C "__len__" k ps sp) (hr : Room (k + 1 + 1 + 1) X.A) :
    CallR X (.type "bool") (rOwnN C sp) := by
  intro pins s σ H vs us Q I r h
  obtain ⟨b, dy, gs, rfl, hb, q⟩ := h
  obtain ⟨u, rfl, ru⟩ := vals1 r
  cases ru
  obtain ⟨f, fd, hs, hf, F, bd⟩ := O.ex
  obtain ⟨m, Fr⟩ := fr_of I
  obtain ⟨ox, od, J⟩ := inst_of I hb
  refine bool_len I.kIn J Fr I.ok.mod.kin nb hs hf ?_
  refine thn (run_in3 (us := [.ref b]) (vs := [.ref b]) F hr bd I (.cons rfl .nil) q) ?_
  rintro u s' ⟨_, H', I', r, n, rfl, n0, n1, z⟩
  obtain ⟨t, rfl⟩ := r
  exact ⟨⟨n0, n1⟩, n, _, rfl, .bl (n != 0), H', I'.tok _, rfl, z⟩
end
end My
set_option Elab.async false
set_option maxRecDepth 100000
set_option maxHeartbeats 4000000
set_option linter.unusedVariables false
namespace My
open PySem PySem.Spec PyProof.Rows L2

theorem FunV.kbinds {K : PySem.W.Frag} {x qual : Str} {st : Stmt} {f t : Addr} {fd : FuncData} {o : Obj} {v : Value} {m : Nat} {ps ks : List Str} {n : Nat} (F : FunV K x qual st (.ref t) f fd) (lt : K.lookup t = some o) (ot : o.data = .seq #[v] m)
    (h : ∀ (kV doc pm : Value) (an : Option Addr) (cdv ct : Value) (us ws : List Value), us.length = n → ws.length = ks.length →
      ∃ k, bindArgs (PySem.W.fnOf x qual (defArgs st) (defBody st) (defScope st) (.ref t) kV doc pm an cdv ct) ⟨us, ks.zip ws⟩ = seqItems? (.ref t) >>= k ∧ k (some #[v]) = pure (ps.zip (us ++ ws))) :
    KBn K fd ps n ks (fun us ws => us ++ ws) (fun vs zs => vs ++ zs) := by
  obtain ⟨oc, od, kV, doc, pm, an, cdv, ct, osl, rfl, lk, hcd⟩ := F.ex
  refine ⟨fun s us ws X l1 l2 => ?_, fun r1 r2 => r1.append r2⟩
  obtain ⟨k, e1, e2⟩ := h kV doc pm an cdv ct us ws l1 l2
  refine BindsTo.of_looks fun M => ?_
  rw [e1]
  exact looks_items X lt ot (.of_pure e2)
def MkK (P : Program) (w : World) (K : PySem.W.Frag) (mg : Str → Option Value) (base : Heap) (C : Addr) (k : Nat) (ps : List Str) (ks : List Str) (sp : Sp) : Prop :=
  ∃ f fd, Mk K C f ∧ FnOk P w K mg base CX0 k f fd ps sp ∧ KBn K fd ps 1 ks (fun us ws => us ++ ws) (fun vs zs => vs ++ zs)
def tMakeK (C : Addr) (m : Nat) (sp : Sp) (tk : TA) : TE := fun σ H Q => tk σ H fun zs H2 => zs.length = m ∧
  ∀ x dx, H2 x = none → H2 dx = none → dx ≠ x → sp ([V.ref x] ++ zs) (upd (upd H2 dx (.own x)) x (.ins C dx [])) (fun v H3 => v = .non ∧ Q (.ref x) H3) E0
theorem pe_mkK {X : Cx} {k : Nat} {C : Addr} {ps ks : List Str} {sp : Sp} {x : Str} {p pos : Pos} {kws : List Keyword} {tk : TA} (D : MkK X.prog X.w X.K X.mg X.base C k ps ks sp) (hr : Room (k + 1) X.A) (hg : Gl X x) (hm : X.mg x = some (.ref C))
    (hkw : PK X kws tk) (hall : (backToKw pos (keywordEach kws X.env)).all (·.1.isSome) = true := by rfl) (hks : (backToKw pos (keywordEach kws X.env)).filterMap (·.1) = ks := by rfl)
    (hdb : (x == ("__debug__" : Str)) = false := by decide)
    (hpl : ((backTo pos (starEach [] X.env)).any (·.1) || (backToKw pos (keywordEach kws X.env)).any (·.1.isNone)) = false := by rfl) :
    PE X (.Call (.Name x p) [] kws pos) (tMakeK C ks.length sp tk) := by
  obtain ⟨f, fd, M, F, hb⟩ := D
  refine ⟨fun pins s σ H Q I h => ?_⟩
  refine wpAny_Call_Name_kw (ld_glob I hg hm ?_ hdb)
  refine PySem.W.callWith_KW0 (h₀ := X.base) I.ok.mod.kin M.kp hall (thn (hkw.run pos pins s σ H _ I h) fun ws s2 ⟨zs, H2, I2, rz, l2, q2⟩ => ⟨I2.kIn, ?_⟩) hpl
  rw [hks]
  exact run_makeN (n := 0) M F hr hb pass0 I2 .nil rz rfl l2 q2
end My
set_option Elab.async false
set_option maxRecDepth 100000
set_option maxHeartbeats 4000000
set_option linter.unusedVariables false
namespace My
open PySem PySem.Spec PyProof.Rows L2

theorem empty_app (x : Str) : Str.empty ++ x = x := by
  show (⟨#[] ++ x.cps⟩ : Str) = x
  rw [Array.empty_append]
theorem app_len (x y : Str) : (x ++ y).length = x.length + y.length := by
  show (x.cps ++ y.cps).size = _
  rw [Array.size_append]
  rfl
def intS (i : Int) : Str := (toString i : String)
theorem intS_len {i : Int} (h : i.natAbs < 10 ^ 12) : (intS i).length ≤ 13 := PyData.shown_int_le h
theorem key_log {i : Int} (h0 : 0 ≤ i) (h1 : i ≤ 999999) : i.natAbs.log2 < 1920 := log2_small (by
  have : (1000000 : Nat) < 2 ^ 1920 := by decide
  omega)
def elS (p : Int × Str) : Str := (intS p.1 ++ ":") ++ p.2
theorem name_len {x : Str} (h : nameOk x = true) : x.length ≤ 4 := by
  unfold nameOk at h
  simp only [Bool.and_eq_true, decide_eq_true_eq] at h
  exact h.1.1.2
theorem elS_len {p : Int × Str} (h : (0 ≤ p.1 ∧ p.1 ≤ 999999) ∧ nameOk p.2 = true) : (elS p).length ≤ 20 := by
  have a := intS_len (i := p.1) (by have := h.1; omega)
  have b := name_len h.2
  unfold elS
  rw [app_len, app_len, show (":" : Str).length = 1 from rfl]
  omega
theorem sum_le_mul {α : Type} (f : α → Nat) (b : Nat) : ∀ l : List α, (∀ x ∈ l, f x ≤ b) → (l.map f).sum ≤ l.length * b
  | [], _ => by simp
  | x :: r, h => by
    have := sum_le_mul f b r fun y hy => h y (List.mem_cons_of_mem _ hy)
    have := h x List.mem_cons_self
    rw [List.map_cons, List.sum_cons, List.length_cons, Nat.succ_mul]
    omega
def textE (es : List (Int × Str)) : Str := if es.isEmpty = true then "empty" else Txt.join " " (es.map elS)
def shownE (es : List (Int × Str)) : Str := (PyData.list (es.map tupD)).shown
def reprE (es : List (Int × Str)) : Str := ("FormSet(" ++ shownE es) ++ ")"
theorem VS.perm {es es' : List (Int × Str)} (h : VS es) (p : es'.Perm es) : VS es' := fun q hq => h q (p.mem_iff.mp hq)
theorem VS.ne {es : List (Int × Str)} (h : VS es) : NE es := fun p hp => (h p hp).2
theorem okP_name {x : Str} (h : nameOk x = true) : okP 1000 10 (.str x) := by
  have hl := name_len h
  refine ⟨?_, ?_, ?_, ?_, name_lay h⟩
  · first | rfl | simp [PyData.showable]
  · exact PyData.leavesShort_of_canLay0 100 (.str x) (name_lay h) rfl
  · show x.length ≤ 1000; omega
  · show 0 ≤ 10; omega
theorem okP_tups {es : List (Int × Str)} (h : VS es) (hl : es.length ≤ 20) : okP 41000 20 (.list (es.map tupD)) := by
  refine okP_list (W := 2002) (D := 11) (fun d hd => ?_) (by rw [List.length_map]; omega) (by decide)
  obtain ⟨p, hp, rfl⟩ := List.mem_map.mp hd
  refine okP_tup (W := 1000) (D := 10) (fun e he => ?_) (by simp) (by decide)
  simp only [List.mem_cons, List.not_mem_nil, or_false] at he
  rcases he with rfl | rfl
  · exact okP_of (small_int (h p hp).1.1 (by have := (h p hp).1.2; omega))
  · exact okP_name (h p hp).2
theorem okP_len {W D : Nat} {d : PyData} (h : okP W D d) (hw : W ≤ 41000) : d.shown.length ≤ 4200000 := by
  have a := PyData.shown_le 100 (by decide) d h.2.1
  have := h.2.2.1
  omega
theorem shownE_len {es : List (Int × Str)} (h : VS es) (hl : es.length ≤ 20) : (shownE es).length ≤ 4200000 := okP_len (okP_tups h hl) (Nat.le_refl _)
theorem fit5 {n : Nat} (h : n ≤ 5000000) : n ≤ sizeLine := Nat.le_trans h (by decide)

theorem sort_one {es a b : List (Int × Str)} (nd : (keys es).Nodup) (pa : a.Perm es) (sa : a.Pairwise (fun p q => p.1 < q.1)) (pb : b.Perm es) (sb : b.Pairwise (fun p q => p.1 < q.1)) : a = b := by
  have pk : (keys b).Perm (keys es) := pb.map _
  have sk : (keys b).Pairwise (· ≤ ·) := List.pairwise_map.mpr (sb.imp fun h => Int.le_of_lt h)
  have e1 := sorted_eq (ks := keys b) nd nd (fun _ => rfl) pa sa pk sk
  have e2 := sorted_eq (ks := keys b) nd nd (fun _ => rfl) pb sb pk sk
  rw [e1]
  exact e2.symm
def spStrS (C : Addr) : Sp := fun vs H Q _ => ∃ U a es, vs = [.ref a] ∧ FS C U H a es ∧ VS es ∧ es.length ≤ 20 ∧
  ∀ H' es', Same H H' → es'.Perm es → es'.Pairwise (fun p q => p.1 < q.1) → Q (.str (textE es')) H'
def spReprS (C : Addr) : Sp := fun vs H Q _ => ∃ U a es, vs = [.ref a] ∧ FS C U H a es ∧ VS es ∧ es.length ≤ 20 ∧
  ∀ H' es', Same H H' → es'.Perm es → es'.Pairwise (fun p q => p.1 < q.1) → Q (.str (reprE es')) H'
end My
set_option Elab.async false
set_option maxRecDepth 100000
set_option maxHeartbeats 4000000
set_option linter.unusedVariables false
namespace My
open PySem PySem.Spec PyProof.Rows L2
theorem Bag.put {H : Hp} {a b : Addr} {n : Nat} {o : HO} (h : Bag H a n) (ne : b ≠ a) : Bag (upd H b o) a n := by
  obtain ⟨x, y, z, h, r⟩ := h
  exact ⟨x, y, z, (upd_ne ne.symm).trans h, r⟩
theorem at_map {α : Type} {xs : List α} {f : α → V} {i : Int} (h0 : 0 ≤ i) (h1 : i < xs.length) : ∃ x, atI (xs.map f) i = some (f x) ∧ x ∈ xs := by
  have hlt : i.toNat < xs.length := by omega
  refine ⟨xs[i.toNat], ?_, List.getElem_mem hlt⟩
  unfold atI ixN
  rw [if_pos h0, if_pos (by rw [List.length_map]; exact h1)]
  simp [hlt]
theorem tupS_bag {H H' : Hp} {a : Addr} {n : Nat} (e : Ext a H H') (b : Bag H a n) {ts : List V} {es : List (Int × Str)} (h : TupS H ts es) : TupS H' ts es := by
  obtain ⟨x, y, z, e1, _⟩ := b
  exact tupS_chg e1 e h
def spRows2 : Sp := fun vs H Q _ => ∃ (a : Addr) (n : Nat), vs = [.ref a] ∧ Bag H a n ∧ n < 1000 ∧
  ∀ l xs rows H', Ext a H H' → Bag H' a (n + 50) → H' l = some (.lst xs) → l ≠ a → TupS H' xs rows → VS rows → rows.length ≤ 12 → Q (.ref l) H'
theorem VS.snoc {es : List (Int × Str)} {p : Int × Str} (h : VS es) (hp : (0 ≤ p.1 ∧ p.1 ≤ 999999) ∧ nameOk p.2 = true) : VS (es ++ [p]) := by
  intro q hq
  rcases List.mem_append.mp hq with hq | hq
  · exact h q hq
  · rw [List.mem_singleton.mp hq]; exact hp
theorem Bag.ne2 {H : Hp} {a b : Addr} {n : Nat} {kvs : List (Key × V)} (h : Bag H a n) (e : H b = some (.dK kvs)) : b ≠ a := by
  rintro rfl
  obtain ⟨x, y, z, h, _⟩ := h
  rw [h] at e; cases e
def okR (d : PyData) : Prop := sm d ∧ d.showable = true ∧ d.depth ≤ 60 ∧ d.shown.length ≤ sizeLine
theorem okR_of {d : PyData} (h : okB d = true) : okR d := by
  have t := okT_of (okP_mono (okP_of h) (by decide) (by decide))
  exact ⟨okT_sm t, t.1, Nat.le_trans t.2.2.2.1 (by decide), okT_len t⟩
theorem okR_dict0 : okR (.dict []) := ⟨⟨by decide, .inr ⟨_, rfl⟩⟩, by decide +kernel, by decide, by decide +kernel⟩
def spOthers (K : PySem.W.Frag) : Sp := fun vs H Q _ => ∃ (a dd : Addr) (n : Nat) (es : List (Int × Str)), vs = [.ref a, .ref dd] ∧ Bag H a n ∧ n < 5000 ∧ H dd = some (.dK (ents es)) ∧
  ∀ l xs H', Ext a H H' → Bag H' a (n + 1) → H' l = some (.lst xs) → (∀ v ∈ xs, ∃ d, Dx K H' v d ∧ okR d ∧ hasD es d = false) → xs.length ≤ 20 → Q (.ref l) H'
theorem pass0X {X : Cx} : Passes (L2.CX X.prog X.w) X E0 := by
  rintro pins σ H s e s' _ ⟨_, _, _, _, _, _, _, _, _, _, _, _, h⟩
  exact h.elim
def spRight (C : Addr) : Sp := fun vs H Q _ => ∃ U x d es, vs = [.ref x, .ref d] ∧ FS C U H x es ∧ H d = some (.dK (ents es)) ∧ VS es ∧ es.length ≤ 20 ∧ ∀ H', Same H H' → Q (.bl true) H'
theorem ifE_join {c : Bool} {ta tb : TE} {σ : L2.St} {H : Hp} {Q : VK} {v : V} (h1 : c = true → ∀ R : VK, R v H → ta σ H R) (h2 : c = false → ∀ R : VK, R v H → tb σ H R) (k : Q v H) : if c = true then ta σ H Q else tb σ H Q := by
  cases c with
  | true => exact iteT (h1 rfl Q k)
  | false => exact iteF (h2 rfl Q k)
theorem eqv_empty (L : List (Int × Str)) : PyData.eqv (.list (L.map tupD)) (.list []) = L.isEmpty := by cases L <;> rfl
theorem textE_of {L : List (Int × Str)} (h : L.isEmpty = false) : textE L = Txt.join " " (L.map elS) := by
  unfold textE
  rw [h, if_neg (by simp)]
theorem textE_nil {L : List (Int × Str)} (h : L.isEmpty = true) : textE L = "empty" := by
  unfold textE
  rw [h, if_pos rfl]
theorem len_ne {L : List (Int × Str)} {n : Nat} (h : L.length = n) : (((n : Nat) : Int) != 0) = !L.isEmpty := by
  subst h
  cases L with
  | nil => rfl
  | cons _ _ =>
    rw [List.length_cons]
    show (!(((_ : Nat) : Int) == 0)) = true
    rw [Bool.not_eq_true', beq_eq_false_iff_ne]
    omega
theorem dec_bl2 (a : Bool) : decide (V.bl a = V.bl a) = true := decide_eq_true rfl
end My
set_option Elab.async false
set_option maxRecDepth 100000
set_option maxHeartbeats 4000000
set_option linter.unusedVariables false
namespace My
open PySem PySem.Spec PyProof.Rows L2
section
variable {X : Cx}

def rEq2 (K : PySem.W.Frag) (C : Addr) (sp : Sp) : R2 := fun x y H Q => ∃ a dx fs, x = .ref a ∧ H a = some (.ins C dx fs) ∧
  ((∃ b dy gs, y = .ref b ∧ H b = some (.ins C dy gs)) ∨ ∃ d, Dx K H y d) ∧ sp [x, y] H (fun v H' => ∃ c, v = .bl c ∧ Q (.bl c) H') E0
theorem op_ownEq2 {C : Addr} {k : Nat} {ps : List Str} {sp : Sp} (O : OwnOp X C "__eq__" k ps sp) (hr : Room k X.A) (hu : X.A.units < cLine)
    (hn : ∀ S ∈ kinds7, PySem.W.notFirst X.K C (.type S) = true) : OpR X (compareOp .Eq) (rEq2 X.K C sp) := by
  intro pins s σ H x y v u Q I rx ry h
  obtain ⟨a, dx, fs, rfl, ha, hy, q⟩ := h
  cases rx
  obtain ⟨f, fd, hs, hf, F, bd⟩ := O.ex
  obtain ⟨m, Fr⟩ := fr_of I
  obtain ⟨ox, od, J⟩ := inst_of I ha
  show wpAny _ _ (richCompare .Eq _ _) _ _ _
  have go : ∀ tb, PySem.W.Looks (model X.prog X.w) s.heap (typeOf u) tb → PySem.W.notFirst X.K C tb = true → wpAny (model X.prog X.w) X.A (richCompare .Eq (.ref a) u) (EP X pins σ Q) X.xe s := by
    intro tb hb hn2
    refine PySem.W.cmp_K hu Fr I.ok.mod.kin J hb hn2 hs hf ?_
    refine thn (run_fn (us := [.ref a, u]) (vs := [.ref a, y]) F hr bd .nil pass0 I (.cons rfl (.cons ry .nil)) q) ?_
    rintro u s' ⟨_, H', I', r, c, rfl, z⟩
    cases r
    exact ⟨.bl c, H', I', rfl, z⟩
  rcases hy with ⟨b, dy, gs, rfl, hb⟩ | ⟨d, hd⟩
  · cases ry
    obtain ⟨oy, oe, J2⟩ := inst_of I hb
    exact go _ J2.type (by unfold PySem.W.notFirst; simp)
  · obtain ⟨P, kx, p, _⟩ := kit_of I ry (ty_of hd)
    exact go _ (kx.ty _ _ I.kIn p) (hn _ (tyD_kinds d))
end
end My
set_option Elab.async false
set_option maxRecDepth 100000
set_option maxHeartbeats 4000000
set_option linter.unusedVariables false
namespace My
open PySem PySem.Spec PyProof.Rows L2
theorem op_ownEq2N {X : Cx} {K : PySem.W.Frag} {C : Addr} {k : Nat} {ps : List Str} {sp : Sp} (h : X.K = K) (O : OwnOp X C "__eq__" k ps sp) (hr : Room k X.A) (hu : X.A.units < cLine)
    (hn : ∀ S ∈ kinds7, PySem.W.notFirst K C (.type S) = true) : OpR X (compareOp .Eq) (rEq2 K C sp) := by
  subst h
  exact op_ownEq2 O hr hu hn
theorem keys_rev (rows : List (Int × Str)) : keys rows.reverse = (keys rows).reverse := List.map_reverse
theorem has_firsts (rows : List (Int × Str)) (k : Int) : has (firsts rows) k = true ↔ k ∈ keys rows := by
  rw [has_iff]
  have go : ∀ l : List (Int × Str), ∀ acc : List (Int × Str), k ∈ keys (l.foldl (fun acc p => if has acc p.1 = true then acc else acc ++ [p]) acc) ↔ k ∈ keys acc ∨ k ∈ keys l := by
    intro l
    induction l with
    | nil => intro acc; simp [keys]
    | cons p r ih =>
      intro acc
      rw [List.foldl_cons, ih]
      by_cases h : has acc p.1 = true
      · rw [if_pos h]
        have h2 := has_iff.mp h
        unfold keys at h2 ⊢
        rw [List.map_cons, List.mem_cons]
        constructor
        · rintro (z | z)
          · exact .inl z
          · exact .inr (.inr z)
        · rintro (z | z | z)
          · exact .inl z
          · exact .inl (z ▸ h2)
          · exact .inr z
      · rw [if_neg h, keys_app]
        unfold keys
        simp only [List.map_cons, List.map_nil, List.mem_append, List.mem_cons, List.not_mem_nil, or_false, or_assoc]
  rw [show firsts rows = rows.foldl (fun acc p => if has acc p.1 = true then acc else acc ++ [p]) [] from rfl, go rows []]
  simp [keys]
theorem firsts_le (rows : List (Int × Str)) : (firsts rows).length ≤ rows.length := by
  have := firsts_len rows rows.length
  rwa [List.take_length] at this
theorem good_own {rows : List (Int × Str)} (h : rows.length ≤ 1000) : Good (keys rows) (firsts rows) := good_firsts (fun p hp => List.mem_map_of_mem hp) (by rw [keys_len]; exact h)
theorem tupS_rev {H : Hp} : ∀ {ts : List V} {es : List (Int × Str)}, TupS H ts es → TupS H ts.reverse es.reverse
  | _, _, .nil => .nil
  | _, _, .cons h r => by
    rw [List.reverse_cons, List.reverse_cons]
    exact tupS_app h (tupS_rev r)
theorem VS.rev {es : List (Int × Str)} (h : VS es) : VS es.reverse := fun p hp => h p (List.mem_reverse.mp hp)

theorem set_made {K : PySem.W.Frag} {C r : Addr} {xs : List V} {rows : List (Int × Str)} {H : Hp} {R : Addr → Hp → Prop} (hr : H r = some (.lst xs) ∨ SqT K H r xs) (he : ElAll K H xs rows) (hl : rows.length ≤ 1000)
    (k : ∀ z H', Same H H' → FS C (keys rows) H' z (firsts rows) → R z H') (x dx : Addr) (hx : H x = none) (hdx : H dx = none) (hne : dx ≠ x) :
    spInit K C [.ref x, .ref r] (upd (upd H dx (.own x)) x (.ins C dx [])) (fun v H2 => v = .non ∧ R x H2) E0 := by
  have sm := made_same (C := C) (fs := []) hx hdx hne
  refine ⟨x, dx, r, xs, rows, rfl, upd_same, ?_, he.same sm, hl, fun d2 H6 s6 hz6 hd6 => ⟨rfl, k x H6 ?_ ⟨dx, d2, hz6, hd6, good_own hl⟩⟩⟩
  · rcases hr with hr | hr
    · exact .inl (sm _ _ hr)
    · exact .inr (same_seqT sm hr)
  · intro b o e
    have q := s6 b o ((del_at (ne_of_none e hx)).trans (sm _ _ e))
    rw [del_at (ne_of_none e hx)] at q
    exact q
theorem flat_ents : ∀ es : List (Int × Str), ∃ ds, FlatKv (ents es) ds
  | [] => ⟨_, .nil⟩
  | p :: r => by
    obtain ⟨ds, h⟩ := flat_ents r
    exact ⟨_, .cons (d := .str p.2) rfl h⟩

structure Liv (K : PySem.W.Frag) (C z1 z2 d1 l : Addr) (xs : List V) (rows : List (Int × Str)) (H0 H : Hp) : Prop where
  one : FS C (keys rows) H z1 (firsts rows)
  two : FS C (keys rows.reverse) H z2 (firsts rows.reverse)
  due : H d1 = some (.dK (ents (firsts rows)))
  lst : H l = some (.lst xs)
  tup : TupS H xs rows
  all : ∀ b o, H0 b = some o → H b = some o
theorem Liv.same {K : PySem.W.Frag} {C z1 z2 d1 l : Addr} {xs : List V} {rows : List (Int × Str)} {H0 H H' : Hp} (h : Liv K C z1 z2 d1 l xs rows H0 H) (s : Same H H') : Liv K C z1 z2 d1 l xs rows H0 H' :=
  ⟨h.one.same s, h.two.same s, s _ _ h.due, s _ _ h.lst, tupS_same s h.tup, fun b o e => s _ _ (h.all b o e)⟩
theorem Liv.ext {K : PySem.W.Frag} {C z1 z2 d1 l g : Addr} {xs : List V} {rows : List (Int × Str)} {H0 H H' : Hp} {n : Nat} (h : Liv K C z1 z2 d1 l xs rows H0 H) (b : Bag H g n) (nl : l ≠ g) (ng : H0 g = none) (s : Ext g H H') : Liv K C z1 z2 d1 l xs rows H0 H' := by
  have b2 := b
  obtain ⟨x, y, z, e, _⟩ := b
  exact ⟨h.one.chg e s, h.two.chg e s, s _ _ (b2.ne2 h.due) h.due, s _ _ nl h.lst, tupS_chg e s h.tup, fun c o q => s _ _ (fun w => by rw [w, ng] at q; cases q) (h.all c o q)⟩
theorem nd_firsts (rows : List (Int × Str)) : (keys (firsts rows)).Nodup := (firsts_from rows [] List.nodup_nil).1
theorem rev_len {rows : List (Int × Str)} : (firsts rows).length = (firsts rows.reverse).length := by
  have p : (keys (firsts rows)).Perm (keys (firsts rows.reverse)) := by
    refine (List.perm_ext_iff_of_nodup (nd_firsts _) (nd_firsts _)).mpr fun k => ?_
    rw [← has_iff, ← has_iff, has_firsts, has_firsts, keys_rev, List.mem_reverse]
  have := p.length_eq
  rwa [keys_len, keys_len] at this
theorem rev_has {rows : List (Int × Str)} {k : Int} (h : has (firsts rows) k = true) : has (firsts rows.reverse) k = true := by
  rw [has_firsts] at h ⊢
  rw [keys_rev, List.mem_reverse]
  exact h
theorem more_len {rows : List (Int × Str)} {p : Int × Str} (h : has (firsts rows) p.1 = false) : (firsts (rows ++ [p])).length = (firsts rows).length + 1 := by
  rw [firsts_app, if_neg (by rw [h]; simp), List.length_append]
  rfl
theorem same_no {l m : List (Int × Str)} (h : l.length ≠ m.length) : sameForms l m = false := by
  unfold sameForms
  rw [show (l.length == m.length) = false from beq_eq_false_iff_ne.mpr h]
  rfl
theorem and_join {c : Bool} {u : TT} {σ : L2.St} {H : Hp} {Q : Bool → Hp → Prop} (h : c = true → ∀ R : Bool → Hp → Prop, (∀ H', Same H H' → R false H') → u σ H R) (k : ∀ H', Same H H' → Q false H') : if c = true then u σ H Q else Q false H := by
  cases c with
  | true => exact iteT (h rfl Q k)
  | false => exact iteF (k H (Same.refl H))
theorem not_self (b : Bool) : decide (V.bl (!b) = V.bl b) = false := by cases b <;> rfl
end My
set_option Elab.async false
set_option maxRecDepth 100000
set_option maxHeartbeats 4000000
set_option linter.unusedVariables false
namespace My
open PySem PySem.Spec PyProof.Rows L2

def hasR (rs : List (Int × Rw)) (d : PyData) : Bool := match d with
  | .int n => mKey d && hs rs n
  | _ => false
theorem hasR_no {rs : List (Int × Rw)} {d : PyData} (h : mKey d = false) : hasR rs d = false := by
  cases d with
  | int n => show (mKey (.int n) && hs rs n) = false; rw [h]; rfl
  | _ => rfl
theorem hasR_int {rs : List (Int × Rw)} {n : Int} (h : mKey (.int n) = true) : hasR rs (.int n) = hs rs n := by
  show (mKey (.int n) && hs rs n) = hs rs n
  rw [h]; rfl
def spHasDX (K : PySem.W.Frag) (C : Addr) : Sp := fun vs H Q _ => ∃ U a rs v d, vs = [.ref a, v] ∧ DD K C U H a rs ∧ Dx K H v d ∧ sm d ∧ ∀ H', Same H H' → Q (.bl (hasR rs d)) H'

def spFormDX (K : PySem.W.Frag) (C CB : Addr) : Sp := fun vs H Q E => ∃ U a rs v d, vs = [.ref a, v] ∧ DD K C U H a rs ∧ Dx K H v d ∧ sm d ∧
  (∀ n x m H', v = .int n → hasR rs d = true → lk rs n = some (x, m) → Same H H' → Q (.str x) H') ∧ ∀ e H', hasR rs d = false → Same H H' → H e = none → H' e = some (.xd [("value", v)]) → E (.ref CB) (some e) H'

def spItemDX (K : PySem.W.Frag) (C CB : Addr) : Sp := fun vs H Q E => ∃ U a rs v d, vs = [.ref a, v] ∧ DD K C U H a rs ∧ Dx K H v d ∧ sm d ∧
  (∀ n x m H', v = .int n → hasR rs d = true → lk rs n = some (x, m) → Same H H' → Q (.int m) H') ∧ ∀ e H', hasR rs d = false → Same H H' → H e = none → H' e = some (.xd [("value", v)]) → E (.ref CB) (some e) H'
def lessD (rs : List (Int × Rw)) (n : Int) : List (Int × Rw) := rs.filter fun p => decide (p.1 ≠ n)
def spLessD (K : PySem.W.Frag) (C : Addr) : Sp := fun vs H Q _ => ∃ U a rs n, vs = [.ref a, .int n] ∧ DD K C U H a rs ∧ (0 ≤ n ∧ n ≤ 999999) ∧
  ∀ d H', Same H H' → DD K C U H' d (lessD rs n) → Q (.ref d) H'
def spLenD (K : PySem.W.Frag) (C : Addr) : Sp := fun vs H Q _ => ∃ U a rs, vs = [.ref a] ∧ DD K C U H a rs ∧ Q (.int rs.length) H
theorem drop_entsV (n : Int) (es : List (Int × V)) : dropK (entsV es) (.inl n) = entsV (es.filter fun p => decide (p.1 ≠ n)) := by
  unfold dropK entsV
  rw [List.filter_map]
  congr 1
  refine List.filter_congr fun p _ => ?_
  show decide ((Sum.inl p.1 : Key) ≠ .inl n) = decide (p.1 ≠ n)
  by_cases e : p.1 = n
  · rw [e]; simp
  · rw [decide_eq_true e]
    exact decide_eq_true fun z => e (Sum.inl.inj z)
theorem less_id {rs : List (Int × Rw)} {n : Int} (h : hs rs n = false) : lessD rs n = rs := by
  unfold lessD
  rw [List.filter_eq_self]
  intro p hp
  refine decide_eq_true fun e => ?_
  unfold hs at h
  cases q : lk rs n with
  | some r => rw [q] at h; cases h
  | none =>
    unfold lk at q
    rw [Option.map_eq_none_iff, List.find?_eq_none] at q
    exact q p hp (decide_eq_true e)
theorem Rws.less {K : PySem.W.Frag} {H : Hp} {es : List (Int × V)} {rs : List (Int × Rw)} (h : Rws K H es rs) (n : Int) : Rws K H (es.filter fun p => decide (p.1 ≠ n)) (lessD rs n) :=
  h.filter fun k => decide (k ≠ n)

def sameRows (rs qs : List (Int × Rw)) : Bool := rs.length == qs.length && rs.all fun p => decide (lk qs p.1 = some p.2)
def rEqRX (K : PySem.W.Frag) : R2 := fun x y H Q => ∃ a b es fs rs qs, x = .ref a ∧ y = .ref b ∧ H a = some (.dK (entsV es)) ∧ H b = some (.dK (entsV fs)) ∧ Rws K H es rs ∧ Rws K H fs qs ∧ VR rs ∧ VR qs ∧ Q (.bl (sameRows rs qs)) H
section
variable {X : Cx} {pins : List (Addr × Obj)} {σ : L2.St} {H : Hp} {s : Shared}
theorem eqv_row {z y : Str} {n m : Int} : PyData.eqv (.tuple [.str z, .int n]) (.tuple [.str y, .int m]) = decide ((z, n) = (y, m)) := by
  show (z == y && (decide (n = m) && true)) = _
  rw [Bool.and_true]
  by_cases h1 : z = y
  · by_cases h2 : n = m
    · rw [h1, h2]; simp
    · rw [h1, decide_eq_false h2, decide_eq_false (fun e => h2 (Prod.mk.inj e).2)]; simp
  · rw [decide_eq_false (fun e => h1 (Prod.mk.inj e).1), beq_eq_false_iff_ne.mpr h1]; rfl
theorem row_eqP (I : Inv X pins σ H s) {A : Around} (hu : A.units + 64 < cLine) {t w : Addr} {z y : Str} {n m : Int} (h1 : SqT X.K H t [.str z, .int n]) (h2 : SqT X.K H w [.str y, .int m]) (hz : nameOk z = true) (hy : nameOk y = true) :
    SeqAt.EqP X.prog X.w A s (.ref t) (.ref w) (decide ((z, n) = (y, m))) := by
  by_cases e : t = w
  · subst e
    have := I.tuple_inj h1 h2
    cases this
    rw [decide_eq_true rfl]
    exact (SeqAt.EqAt.same _).eqP
  · refine SeqAt.eqP_refs e fun E Q q => ?_
    obtain ⟨as, d1⟩ := Dp.reads I (.tuple [.str z, .int n]) (.ref t) (.ref t) (.tup h1 (.cons (.str _) (.cons (.int _) .nil))) rfl
    obtain ⟨bs, d2⟩ := Dp.reads I (.tuple [.str y, .int m]) (.ref w) (.ref w) (.tup h2 (.cons (.str _) (.cons (.int _) .nil))) rfl
    refine SeqAt.compareEq_shaped d1 d2 (row_lay hz) (row_lay hy) hu ?_
    rw [eqv_row]
    exact q
theorem hits_rows (I : Inv X pins σ H s) {A : Around} (hu : A.units + 64 < cLine) {fs : List (Int × V)} {qs : List (Int × Rw)} {vb : List (Key × Value)} (rb : KV (entsV fs) vb) (r2 : Rws X.K H fs qs) (vq : VR qs) :
    ∀ {es : List (Int × V)} {rs : List (Int × Rw)} {va : List (Key × Value)}, Rws X.K H es rs → VR rs → KV (entsV es) va →
    PySem.W.KeqHitsP X.prog X.w A s vb va (rs.all fun p => decide (lk qs p.1 = some p.2)) := by
  intro es
  induction es with
  | nil =>
    intro rs va r1 _ ra
    cases r1
    cases ra
    exact .nil
  | cons p es ih =>
    intro rs va r1 vr ra
    cases r1 with
    | @cons t k x n _ rs' ht r1' =>
      unfold KV entsV at ra
      rw [List.map_cons] at ra
      cases ra with
      | @cons _ q _ qs' h tl =>
        obtain ⟨h1, h2⟩ := h
        obtain ⟨key, v⟩ := q
        have h1' : (Sum.inl k : Key) = key := h1
        subst h1'
        have e2 : v = Value.ref t := h2
        subst e2
        have ih' := ih (va := qs') r1' (fun r hr => vr r (List.mem_cons_of_mem _ hr)) (by unfold KV entsV; exact tl)
        have rr : RelO (valV (entsV fs) (.inl k)) (valueAt vb (.inl k)) := rb.val (.inl k)
        rw [valV_entsV] at rr
        rw [List.all_cons]
        rcases r2.lk k with ⟨e1, e3⟩ | ⟨t2, y, m, e1, e3, ht2⟩
        · rw [e1] at rr
          have hn : valueAt vb (.inl k) = none := RelO.none_of rr
          show PySem.W.KeqHitsP X.prog X.w A s vb _ (decide (lk qs k = some (x, n)) && _)
          rw [e3, decide_eq_false (fun z => nomatch z)]
          exact .miss hn
        · rw [e1] at rr
          obtain ⟨u, hu2, ru⟩ := rr.some_of
          have eu : u = Value.ref t2 := ru
          subst eu
          have ok1 := (vr _ List.mem_cons_self).2.1
          have ok2 := (vq _ (lk_mem e3)).2.1
          have hb := row_eqP I hu ht ht2 ok1 ok2
          show PySem.W.KeqHitsP X.prog X.w A s vb _ (decide (lk qs k = some (x, n)) && _)
          have ed : decide (lk qs k = some (x, n)) = decide ((x, n) = (y, m)) := by
            rw [e3]
            by_cases z : (x, n) = (y, m)
            · rw [z]; simp
            · rw [decide_eq_false z, decide_eq_false fun w => z (Option.some.inj w).symm]
          rw [ed]
          exact .hit hu2 hb ih'
theorem op_eqRX (hu : X.A.units + 80 < cLine) : OpR X (compareOp .Eq) (rEqRX X.K) := by
  intro pins s σ H x y v u Q I rx ry h
  obtain ⟨a, b, es, fs, rs, qs, rfl, rfl, ha, hb, r1, r2, v1, v2, q⟩ := h
  cases (show v = Value.ref a from rx)
  cases (show u = Value.ref b from ry)
  obtain ⟨_, ya, va, ra, da⟩ := (show ObjOk X.prog X.w H s.heap a (.dK (entsV es)) from I.hok a _ ha)
  obtain ⟨_, yb, vb, rb, db⟩ := (show ObjOk X.prog X.w H s.heap b (.dK (entsV fs)) from I.hok b _ hb)
  refine PySem.W.rcP_dicts (knd := mixKind X.prog X.w) (r := rs.all fun p => decide (lk qs p.1 = some p.2)) ya yb da db (by omega) (fun _ => hits_rows I (by show X.A.units + 1 + 64 < cLine; omega) rb r2 v2 r1 v1 ra) _ _ ?_
  have e1 : va.length = rs.length := by rw [← ra.length, entsV_len, r1.len]
  have e2 : vb.length = qs.length := by rw [← rb.length, entsV_len, r2.len]
  rw [e1, e2]
  exact ⟨.bl _, H, I, rfl, q⟩
end

def spEqDX (K : PySem.W.Frag) (C S : Addr) : Sp := fun vs H Q _ => ∃ U a rs y, vs = [.ref a, y] ∧ DD K C U H a rs ∧
  ((∃ W b qs, y = .ref b ∧ DD K C W H b qs ∧ Q (.bl (sameRows rs qs)) H) ∨ (∃ W b fs, y = .ref b ∧ FS S W H b fs ∧ Q (.bl false) H))

def enS (p : Int × Rw) : Str := (((intS p.1 ++ ":") ++ p.2.1) ++ "=") ++ intS p.2.2
def textR (rs : List (Int × Rw)) : Str := if rs.isEmpty = true then "empty" else Txt.join " " (rs.map enS)
def shownR (rs : List (Int × Rw)) : Str := (PyData.list (rs.map ent3)).shown
def reprR (rs : List (Int × Rw)) : Str := ("FormDict(" ++ shownR rs) ++ ")"
def spStrD (K : PySem.W.Frag) (C : Addr) : Sp := fun vs H Q _ => ∃ U a rs, vs = [.ref a] ∧ DD K C U H a rs ∧ rs.length ≤ 13 ∧
  ∀ H' L, Same H H' → L.Perm rs → L.Pairwise (fun p q => p.1 < q.1) → Q (.str (textR L)) H'
def spReprD (K : PySem.W.Frag) (C : Addr) : Sp := fun vs H Q _ => ∃ U a rs, vs = [.ref a] ∧ DD K C U H a rs ∧ rs.length ≤ 13 ∧
  ∀ H' L, Same H H' → L.Perm rs → L.Pairwise (fun p q => p.1 < q.1) → Q (.str (reprR L)) H'
end My
set_option Elab.async false
set_option maxRecDepth 100000
set_option maxHeartbeats 4000000
set_option linter.unusedVariables false
namespace My
open PySem PySem.Spec PyProof.Rows L2

def ValOk (v : Int) : Prop := 1 - 10 ^ 40 ≤ v ∧ v ≤ 10 ^ 40 - 1
theorem ValOk.abs {v : Int} (h : ValOk v) : v.natAbs < 10 ^ 40 := by
  obtain ⟨h1, h2⟩ := h
  omega
theorem ValOk.log {v : Int} (h : ValOk v) : v.natAbs.log2 < 133 := by
  have h1 := h.abs
  by_cases e : v.natAbs = 0
  · rw [e]; decide
  · refine (Nat.log2_lt e).mpr (Nat.lt_of_lt_of_le h1 (by decide))
theorem ValOk.log2 {v : Int} (h : ValOk v) : v.natAbs.log2 < 1920 := Nat.lt_trans h.log (by decide)
theorem val_len {v : Int} (h : ValOk v) : (intS v).length ≤ 41 := by
  have h1 := int_text_length_le10 (a := v) (k := 40) (by decide) h.abs
  unfold intS
  rw [PySem.ofString_length]
  exact h1
theorem okB_val {v : Int} (h : ValOk v) : okB (.int v) = true := by
  unfold okB
  have a3 : (PyData.shown (.int v)).length ≤ 100 := by
    rw [PyData.shown_int]
    exact Nat.le_trans (val_len h) (by decide)
  have a4 : (PyData.int v).weight ≤ 1000 := by
    show (if v == 0 then 0 else v.natAbs.log2 + 1) ≤ 1000
    have := h.log
    split <;> omega
  have b1 : (PyData.int v).showable = true := by simp only [PyData.showable]; exact decide_eq_true h.log2
  have b2 : (PyData.int v).leavesShort 100 = true := by simp only [PyData.leavesShort]; exact decide_eq_true a3
  rw [b1, b2, decide_eq_true a4]
  rfl
theorem enS_len {p : Int × Rw} (h : rowOk p) : (enS p).length ≤ 70 := by
  obtain ⟨⟨h1, h2⟩, h3, h4⟩ := h
  have a := intS_len (i := p.1) (by omega)
  have b := name_len h3
  have c := val_len (v := p.2.2) h4
  unfold enS
  rw [app_len, app_len, app_len, app_len]
  have : (":" : Str).length = 1 := rfl
  have : ("=" : Str).length = 1 := rfl
  omega
theorem VR.perm {rs L : List (Int × Rw)} (h : VR rs) (p : L.Perm rs) : VR L := fun q hq => h q (p.mem_iff.mp hq)
theorem okP_en {p : Int × Rw} (h : rowOk p) : okP 3003 11 (ent3 p) := by
  refine okP_tup (W := 1000) (D := 10) (fun e he => ?_) (by simp) (by decide)
  simp only [List.mem_cons, List.not_mem_nil, or_false] at he
  rcases he with rfl | rfl | rfl
  · exact okP_of (small_int h.1.1 (by have := h.1.2; omega))
  · exact okP_name h.2.1
  · exact okP_of (okB_val h.2.2)
theorem okP_ents {rs : List (Int × Rw)} (h : VR rs) (hl : rs.length ≤ 13) : okP 41000 20 (.list (rs.map ent3)) := by
  refine okP_list (W := 3003) (D := 11) (fun d hd => ?_) (by rw [List.length_map]; omega) (by decide)
  obtain ⟨p, hp, rfl⟩ := List.mem_map.mp hd
  exact okP_en (h p hp)
theorem shownR_len {rs : List (Int × Rw)} (h : VR rs) (hl : rs.length ≤ 13) : (shownR rs).length ≤ 4200000 := okP_len (okP_ents h hl) (Nat.le_refl _)
theorem sort_oneR {rs a b : List (Int × Rw)} (nd : (ks rs).Nodup) (pa : a.Perm rs) (sa : a.Pairwise (fun p q => p.1 < q.1)) (pb : b.Perm rs) (sb : b.Pairwise (fun p q => p.1 < q.1)) : a = b := by
  refine List.Perm.eq_of_pairwise (le := fun p q => p.1 < q.1) (fun x y hx hy h1 h2 => ?_) sa sb (pa.trans pb.symm)
  exact absurd h1 (by omega)

def withR (rs : List (Int × Rw)) (n : Int) (x : Str) (v : Int) (b : Bool) : List (Int × Rw) := if (b || !hs rs n) = true then mergedA rs [(n, (x, v))] else rs
def spWithD (K : PySem.W.Frag) (C : Addr) : Sp := fun vs H Q _ => ∃ U a rs n x v b, vs = [.ref a, .int n, .str x, .int v, .bl b] ∧ DD K C U H a rs ∧ rowOk (n, (x, v)) ∧ n ∈ U ∧
  ∀ d H', Same H H' → DD K C U H' d (withR rs n x v b) → Q (.ref d) H'

theorem dict_made {K : PySem.W.Frag} {C r : Addr} {xs : List V} {rows : List (Int × Rw)} {H : Hp} {U : List Int} {R : Addr → Hp → Prop} (hr : H r = some (.lst xs) ∨ SqT K H r xs) (he : EnAll K H xs rows) (hl : rows.length ≤ 1000)
    (hm : ∀ p ∈ rows, p.1 ∈ U) (hU : U.length ≤ 1000)
    (k : ∀ z H', Same H H' → DD K C U H' z (laidA [] rows) → R z H') (x dx : Addr) (hx : H x = none) (hdx : H dx = none) (hne : dx ≠ x) :
    spInitD K C [.ref x, .ref r] (upd (upd H dx (.own x)) x (.ins C dx [])) (fun v H2 => v = .non ∧ R x H2) E0 := by
  have sm := made_same (C := C) (fs := []) hx hdx hne
  refine ⟨x, dx, r, xs, rows, rfl, upd_same, ?_, he.same sm, hl, fun d2 H6 es s6 hz6 hd6 hr6 => ⟨rfl, k x H6 ?_ ⟨dx, d2, hz6, ⟨es, hd6, hr6, (Gd.nil hU).laid hm⟩, VR.laid (fun _ z => nomatch z) (vr_en he)⟩⟩⟩
  · rcases hr with hr | hr
    · exact .inl (sm _ _ hr)
    · exact .inr (same_seqT sm hr)
  · intro b o e
    have q := s6 b o ((del_at (ne_of_none e hx)).trans (sm _ _ e))
    rw [del_at (ne_of_none e hx)] at q
    exact q
theorem laid_one (r : Int × Rw) : laidA [] [r] = [r] := by
  obtain ⟨n, x, v⟩ := r
  rfl
end My
set_option Elab.async false
set_option maxRecDepth 100000
set_option maxHeartbeats 4000000
set_option linter.unusedVariables false
namespace My
open PySem PySem.Spec PyProof.Rows L2

def MtD (P : Program) (w : World) (K : PySem.W.Frag) (mg : Str → Option Value) (base : Heap) (C : Addr) (m : Str) (k : Nat) (ps : List Str) (sp : Sp) (dvs : List V) (n : Nat) (ks : List Str) (gV : List V → List V → List V) : Prop :=
  ∃ f fd, PySem.W.findIn K (.ref C) m = some (some (.ref f)) ∧ PySem.W.isFn K (.ref f) = true ∧ PySem.W.keepIn K (.ref f) = true ∧ FnOk P w K mg base CX0 k f fd ps sp ∧ (∃ ds, Vals dvs ds ∧ Binds K fd ps ds) ∧ ∃ g, KBn K fd ps (n + 1) ks g gV
def tMethK (C : Addr) (m : Str) (n j : Nat) (sp : Sp) (gV : List V → List V → List V) (ta : TE) (t tk : TA) : TE := fun σ H Q => ta σ H fun x H1 => ∃ a dx fs, x = .ref a ∧ H1 a = some (.ins C dx fs) ∧ fs.lookup m = none ∧
  t σ H1 fun vs H2 => tk σ H2 fun zs H3 => vs.length = n ∧ zs.length = j ∧ sp (gV (x :: vs) zs) H3 Q E0
section
variable {X : Cx} {C : Addr} {k n : Nat} {ps ks : List Str} {sp : Sp} {dvs : List V} {gV : List V → List V → List V} {x m : Str} {p pos apos : Pos} {e o : Expr} {es : List Expr} {kws : List Keyword} {t tk : TA} {to : TE}
theorem pe_mtD {pl : Sem Bool} (D : MtD X.prog X.w X.K X.mg X.base C m k ps sp dvs n ks gV) (hr : Room k X.A) (c : Cls X.K C) (he : PE X o to) (ha : PA X (e :: es) t)
    (hst : starEach (e :: es) X.env = (false, eval e X.env) :: starEach es X.env := by rfl) (hpl : (backTo pos (starEach es X.env)).any (·.1) = false := by rfl)
    (ht : eval (.Call (.Attribute o m apos) (e :: es) [] pos) X.env = (do
      let ov ← eval o X.env
      standAt apos.atName
      let (f, first) ← holding [ov] (getMethod ov m pl)
      callWith pos f first (backTo pos (starEach (e :: es) X.env)) (backToKw pos (keywordEach [] X.env))) := by rfl) :
    PE X (.Call (.Attribute o m apos) (e :: es) [] pos) (tMeth C m sp dvs E0 to t) := by
  obtain ⟨f, fd, h1, h2, h3, F, ⟨ds, hv, b⟩, _⟩ := D
  exact pe_meth he c ⟨h1, h2, h3⟩ F hr b hv pass0 ha hst hpl ht
theorem pe_mtK {pl : Sem Bool} (D : MtD X.prog X.w X.K X.mg X.base C m k ps sp dvs n ks gV) (hr : Room k X.A) (c : Cls X.K C) (he : PE X o to) (ha : PA X (e :: es) t) (hkw : PK X kws tk)
    (hall : (backToKw pos (keywordEach kws X.env)).all (·.1.isSome) = true := by rfl) (hks : (backToKw pos (keywordEach kws X.env)).filterMap (·.1) = ks := by rfl)
    (hst : starEach (e :: es) X.env = (false, eval e X.env) :: starEach es X.env := by rfl)
    (hpl : ((backTo pos (starEach (e :: es) X.env)).any (·.1) || (backToKw pos (keywordEach kws X.env)).any (·.1.isNone)) = false := by rfl)
    (ht : eval (.Call (.Attribute o m apos) (e :: es) kws pos) X.env = (do
      let ov ← eval o X.env
      standAt apos.atName
      let (f, first) ← holding [ov] (getMethod ov m pl)
      callWith pos f first (backTo pos (starEach (e :: es) X.env)) (backToKw pos (keywordEach kws X.env))) := by rfl) :
    PE X (.Call (.Attribute o m apos) (e :: es) kws pos) (tMethK C m n ks.length sp gV to t tk) := by
  obtain ⟨f, fd, h1, h2, h3, F, _, g, hb⟩ := D
  refine ⟨fun pins s σ H Q I h => ?_⟩
  refine PySem.W.methodCall_KW (pl := pl) (thn (he.run pins s σ H _ I h) fun u s1 ⟨x, H1, I1, rx, a, dx, fs, ex, ea, l, q⟩ => ?_) ht
  subst ex
  obtain rfl : u = Value.ref a := rx
  refine getmeth_ok I1 ea c ⟨h1, h2, h3⟩ l ?_
  refine PySem.W.callWith_KW (h₀ := X.base) (first := [.ref a]) I1.ok.mod.kin h3 hall (thn (ha.run pos pins s1 σ H1 _ I1 q) fun us s3 ⟨vs, H2, I3, rv, q2⟩ => ?_) hpl hst
  refine thn (hkw.run pos pins s3 σ H2 _ I3 q2) fun ws s4 ⟨zs, H3, I4, rz, l1, l2, q3⟩ => ⟨I4.kIn, ?_⟩
  rw [hks]
  have e1 : (Value.ref a :: us).length = n + 1 := by rw [List.length_cons, ← rv.length, l1]
  have e2 : ws.length = ks.length := rz.length.symm.trans l2
  have z := F.run X.A X.stack s4 H3 ⟨.ref a :: us, ks.zip ws⟩ (g (.ref a :: us) ws) (gV (.ref a :: vs) zs) Q E0 hr I4.env0 (hb.to s4 (.ref a :: us) ws I4.kIn e1 e2) (hb.rel (.cons rfl rv) rz) q3
  refine wpAny_call (codeAny_mono z ?_)
  intro r s' hq
  match r, hq with
  | .error e, hq => exact hq.elim
  | .ok (.ret u), hq => exact I4.after hq
  | .ok .next, hq => exact hq.elim
  | .ok .brk, hq => exact hq.elim
  | .ok .cont, hq => exact hq.elim
end
theorem FunD.okN {P : Program} {w : World} {K : PySem.W.Frag} {mg : Str → Option Value} {base : Heap} {x qual : Str} {params : Arguments} {body : List Stmt} {scope : Scope} {dvs : List V} {kws : List (Str × V)} {f : Addr} {fd : FuncData}
    {N ps : List Str} {k : Nat} {sp : Sp} (F : FunD K x qual params body scope dvs kws f fd) (S : FnScope N ps scope) (len : ∀ vs H Q E, sp vs H Q E → vs.length = ps.length)
    (hbody : ∀ (cdv : Value) (A : Around) (outer : List Env) (s : Shared) (H : Hp) (vs : List V) (Q : VK) (E : XK), Room k (A.deeper (envOfC qual scope s.heap.objs.size f cdv)) → sp vs H Q E →
      ∃ t, PSs (cxOf CX0 P w K mg base N qual scope f cdv A outer s H E).nox body t ∧ t { nx := fun _ H' => Q .non H', rt := Q } (start N vs) H) : FnOk P w K mg base CX0 (k + 1) f fd ps sp := by
  refine F.ok S len fun cdv A outer s H vs Q E hr hsp => ?_
  obtain ⟨t, h, q⟩ := hbody cdv A outer s H vs Q E hr hsp
  exact ⟨t, h.nox, q⟩

theorem MtX.calm {P : Program} {w : World} {K : PySem.W.Frag} {mg : Str → Option Value} {base : Heap} {C : Addr} {m : Str} {k : Nat} {ps : List Str} {sp : Sp} (D : MtX P w K mg base C m k ps sp) : Mt P w K mg base C m k ps (fun vs H Q _ => sp vs H Q E0) := by
  obtain ⟨f, fd, h1, h2, h3, F, b⟩ := D
  refine ⟨f, fd, h1, h2, h3, ⟨fun vs H Q E h => F.len _ _ _ _ h, fun A outer s H args us vs Q E hr e0 hb r h => ?_⟩, b⟩
  refine codeAny_mono (F.run A outer s H args us vs Q E0 hr e0 hb r h) fun r s' hq => ?_
  cases r with
  | error e =>
    obtain ⟨_, _, _, _, _, _, _, _, _, _, _, _, z⟩ := (show L2.CX P w outer H s E0 e s' from hq)
    exact z.elim
  | ok fl =>
    cases fl with
    | ret u => exact hq
    | next => exact hq
    | brk => exact hq
    | cont => exact hq
theorem sl_tupK {X : Cx} {K : PySem.W.Frag} (h : X.K = K) : SlR X (rSlA K) := by
  subst h
  exact sl_tupA
end My
set_option Elab.async false
set_option maxRecDepth 100000
set_option maxHeartbeats 4000000
set_option linter.unusedVariables false
namespace My
open PySem PySem.Spec PyProof.Rows L2

abbrev Ps := List Str → Option (PyData × List Str)
def pTok (x : Str) : List Str → Option (List Str)
  | [] => none
  | t :: r => if t = x then some r else none
def pLoop (op : Str) (sub : Ps) : Nat → PyData → Ps
  | 0, l, ts => some (l, ts)
  | n + 1, l, ts => match pTok op ts with
    | none => some (l, ts)
    | some r => match sub r with
      | none => none
      | some (d, r2) => pLoop op sub n (.tuple [.str op, l, d]) r2
def pParts1 (inner : Ps) : Ps := fun ts => match pTok "(" ts with
  | none => none
  | some r => match inner r with
    | none => none
    | some (d, r2) => match pTok ")" r2 with
      | none => none
      | some r3 => some (d, r3)
def pParts2 (inner : Ps) (ts : List Str) : Option (PyData × PyData × List Str) := match pTok "(" ts with
  | none => none
  | some r => match inner r with
    | none => none
    | some (d, r2) => match pTok "," r2 with
      | none => none
      | some r3 => match inner r3 with
        | none => none
        | some (d2, r4) => match pTok ")" r4 with
          | none => none
          | some r5 => some (d, d2, r5)
def pSingle (inner : Ps) : Ps := fun ts => match ts with
  | [] => none
  | t :: r => if nameOk t = true then some (.str t, r) else
    if t = "keys" then (match pParts1 inner r with
      | none => none
      | some (d, q) => some (.tuple [.str "keys", d], q)) else
    if t = "look" then (match pParts2 inner r with
      | none => none
      | some (d, d2, q) => some (.tuple [.str "look", d, d2], q)) else
    pParts1 inner (t :: r)
def ops5 : List Str := ["|", "^", "&", "-", "@"]
def opAt (m : Nat) : Str := ops5.getD (4 - m) Str.empty

def pLev (single : Ps) : Nat → Ps
  | 0 => single
  | m + 1 => fun ts => match pLev single m ts with
    | none => none
    | some (l, r) => pLoop (opAt m) (pLev single m) r.length l r

def pIn : Nat → Ps
  | 0 => fun _ => none
  | n + 1 => pLev (pSingle (pIn n)) 5

def rdF (w : Addr) (i dep : Int) : List (Str × V) := [("words", .ref w), ("at", .int i), ("depth", .int dep)]

structure RdI (C : Addr) (H : Hp) (r dx w : Addr) (ws : List Str) (i dep : Nat) : Prop where
  ins : H r = some (.ins C dx (rdF w i dep))
  lst : H w = some (.lst (ws.map V.str))
  len : ws.length ≤ 1000
theorem RdI.ne {C : Addr} {H : Hp} {r dx w : Addr} {ws : List Str} {i dep : Nat} (h : RdI C H r dx w ws i dep) : w ≠ r := fun e => by
  have := h.lst
  rw [e, h.ins] at this
  cases this
def spTook (C : Addr) : Sp := fun vs H Q _ => ∃ r dx w ws i dep x y, vs = [.ref r, .str x] ∧ RdI C H r dx w ws i dep ∧ ws[i]? = some y ∧
  (y = x → Q (.bl true) (upd H r (.ins C dx (rdF w ((i + 1 : Nat) : Int) dep)))) ∧ (y ≠ x → Q (.bl false) H)
def spNeed (C CB : Addr) : Sp := fun vs H Q E => ∃ r dx w ws i dep x y, vs = [.ref r, .str x] ∧ RdI C H r dx w ws i dep ∧ ws[i]? = some y ∧
  (y = x → Q .non (upd H r (.ins C dx (rdF w ((i + 1 : Nat) : Int) dep)))) ∧
  (y ≠ x → ∀ e H', Same H H' → H e = none → H' e = some (.xd [("place", .int 0)]) → E (.ref CB) (some e) H')
section
variable {X : Cx} {C : Addr} {k : Nat} {ps : List Str} {sp : Sp} {m : Str} {pos apos : Pos} {o : Expr} {to : TE} {E : XK}
theorem pe_mtX0 {pl : Sem Bool} (D : MtX X.prog X.w X.K X.mg X.base C m k ps sp) (hr : Room k X.A) (c : Cls X.K C) (hx : Passes (L2.CX X.prog X.w) X E) (he : PE X o to)
    (ht : eval (.Call (.Attribute o m apos) [] [] pos) X.env = (do
      let ov ← eval o X.env
      standAt apos.atName
      let (f, first) ← holding [ov] (getMethod ov m pl)
      callWith pos f first (backTo pos (starEach [] X.env)) (backToKw pos (keywordEach [] X.env))) := by rfl) :
    PE X (.Call (.Attribute o m apos) [] [] pos) (tMeth C m sp [] E to tNil) := by
  obtain ⟨f, fd, h1, h2, h3, F, b⟩ := D
  exact pe_meth0 (ds := []) he c ⟨h1, h2, h3⟩ F hr b .nil hx ht
end
theorem at_nat {xs : List V} {i : Nat} {v : V} (h : xs[i]? = some v) : atI xs (i : Int) = some v := by
  have hi := (List.getElem?_eq_some_iff.mp h).1
  unfold atI ixN
  rw [if_pos (Int.natCast_nonneg i), if_pos (by omega)]
  simpa using h
theorem RdI.at {C : Addr} {H : Hp} {r dx w : Addr} {ws : List Str} {i dep : Nat} {y : Str} (h : RdI C H r dx w ws i dep) (e : ws[i]? = some y) : atI (ws.map V.str) (i : Int) = some (.str y) :=
  at_nat (by rw [List.getElem?_map, e]; rfl)

structure RdT (C : Addr) (H : Hp) (r dx w : Addr) (toks ts : List Str) (dep : Nat) : Prop where
  rd : RdI C H r dx w (toks ++ ([""] : List Str)) (toks.length - ts.length) dep
  suf : toks.drop (toks.length - ts.length) = ts
  le : ts.length ≤ toks.length
  ne : ∀ t ∈ toks, t ≠ ""
  sms : ∀ t ∈ toks, sm (.str t)
section
variable {C : Addr} {H H' : Hp} {r dx w : Addr} {toks ts : List Str} {dep : Nat}
theorem RdT.at (h : RdT C H r dx w toks ts dep) : (toks ++ ([""] : List Str))[toks.length - ts.length]? = some (ts.headD "") := by
  have e := h.suf
  cases ts with
  | nil =>
    show (toks ++ ([""] : List Str))[toks.length - 0]? = some ""
    simp
  | cons t tl =>
    have hlt : toks.length - (t :: tl).length < toks.length := by
      have := h.le
      rw [List.length_cons] at this ⊢
      omega
    rw [List.getElem?_append_left hlt]
    have e2 : toks[toks.length - (t :: tl).length]? = (toks.drop (toks.length - (t :: tl).length))[0]? := by rw [List.getElem?_drop]; simp
    rw [e2, e]
    rfl
theorem RdT.step {x : Str} (h : RdT C H r dx w toks ts dep) (hx : x ≠ "") (e : ts.headD "" = x) : ∃ tl, ts = x :: tl ∧ pTok x ts = some tl ∧
    RdT C (upd H r (.ins C dx (rdF w ((toks.length - ts.length + 1 : Nat) : Int) dep))) r dx w toks tl dep := by
  cases ts with
  | nil => exact absurd e.symm hx
  | cons t tl =>
    have e : t = x := e
    subst e
    have hle := h.le
    rw [List.length_cons] at hle
    have ei : toks.length - (t :: tl).length + 1 = toks.length - tl.length := by rw [List.length_cons]; omega
    refine ⟨tl, rfl, if_pos rfl, ⟨⟨?_, (upd_ne h.rd.ne).trans h.rd.lst, h.rd.len⟩, ?_, by omega, h.ne, h.sms⟩⟩
    · rw [upd_same, ei]
    · have := h.suf
      rw [← ei, ← List.drop_drop, this]
      rfl
theorem RdT.no {x : Str} (hx : x ≠ "") (e : ts.headD "" ≠ x) : pTok x ts = none := by
  cases ts with
  | nil => rfl
  | cons t tl => exact if_neg e
theorem RdT.deep (h : RdT C H r dx w toks ts dep) (q : Nat) : RdT C (upd H r (.ins C dx (rdF w ((toks.length - ts.length : Nat) : Int) q))) r dx w toks ts q :=
  ⟨⟨upd_same, (upd_ne h.rd.ne).trans h.rd.lst, h.rd.len⟩, h.suf, h.le, h.ne, h.sms⟩
theorem ext_upd {o : HO} : Ext r H (upd H r o) := fun b u n e => (upd_ne n).trans e
theorem Ext.tr {H'' : Hp} (a : Ext r H H') (b : Ext r H' H'') : Ext r H H'' := fun c o n e => b c o n (a c o n e)
theorem ext_none {e : Addr} (x : Ext r H H') (h : H' r ≠ none) (n : H' e = none) : H e = none := by
  cases q : H e with
  | none => rfl
  | some o =>
    by_cases c : e = r
    · rw [c] at n; exact absurd n h
    · rw [x e o c q] at n; cases n
theorem RdT.some (h : RdT C H r dx w toks ts dep) : H r ≠ none := by rw [h.rd.ins]; exact fun z => nomatch z
theorem RdT.same (h : RdT C H r dx w toks ts dep) (s : Same H H') : RdT C H' r dx w toks ts dep := ⟨⟨s _ _ h.rd.ins, s _ _ h.rd.lst, h.rd.len⟩, h.suf, h.le, h.ne, h.sms⟩
end
mutual

def tre : PyData → Bool
  | .str _ => true
  | .tuple ds => treAll ds
  | _ => false
def treAll : List PyData → Bool
  | [] => true
  | d :: ds => tre d && treAll ds
end

def ExtT (H H' : Hp) : Prop := (∀ b xs, H b = some (.tup xs) → H' b = some (.tup xs)) ∧ ∀ b o xs, H b = some (.frz o (.tup xs)) → H' b = some (.frz o (.tup xs))
mutual
theorem extT_dp {K : PySem.W.Frag} {H H' : Hp} (e : ExtT H H') : ∀ (d : PyData) (v : V), tre d = true → Dp K H v d → Dp K H' v d
  | .str _, _, _, h => by cases h; exact .str _
  | .tuple ds, _, t, h => by
    cases h with
    | tup q z =>
      refine .tup ?_ (extT_dpAll e ds _ (by unfold tre at t; exact t) z)
      rcases q with (q | ⟨o, q⟩) | q
      · exact .inl (.inl (e.1 _ _ q))
      · exact .inl (.inr ⟨o, e.2 _ _ _ q⟩)
      · exact .inr q
  | .none, _, t, _ => by cases t
  | .bool _, _, t, _ => by cases t
  | .int _, _, t, _ => by cases t
  | .list _, _, t, _ => by cases t
  | .dict _, _, t, _ => by cases t
theorem extT_dpAll {K : PySem.W.Frag} {H H' : Hp} (e : ExtT H H') : ∀ (ds : List PyData) (vs : List V), treAll ds = true → DpAll K H vs ds → DpAll K H' vs ds
  | [], _, _, h => by cases h; exact .nil
  | d :: ds, _, t, h => by
    unfold treAll at t
    rw [Bool.and_eq_true] at t
    cases h with
    | cons q z => exact .cons (extT_dp e d _ t.1 q) (extT_dpAll e ds _ t.2 z)
end
theorem ExtT.same {H H' : Hp} (s : Same H H') : ExtT H H' := ⟨fun b xs e => s _ _ e, fun b o xs e => s _ _ e⟩
theorem ExtT.ext {H H' : Hp} {r C dx : Addr} {fs : List (Str × V)} (hr : H r = some (.ins C dx fs)) (e : Ext r H H') : ExtT H H' :=
  ⟨fun b xs h => e _ _ (fun c => by rw [c, hr] at h; cases h) h, fun b o xs h => e _ _ (fun c => by rw [c, hr] at h; cases h) h⟩
theorem ExtT.lst {H : Hp} {p : Addr} {ls : List V} {o : HO} (hp : H p = some (.lst ls)) : ExtT H (upd H p o) :=
  ⟨fun b xs h => (upd_ne (fun c => by rw [c, hp] at h; cases h)).trans h, fun b o xs h => (upd_ne (fun c => by rw [c, hp] at h; cases h)).trans h⟩
theorem RdT.put {C : Addr} {H : Hp} {r dx w : Addr} {toks ts : List Str} {dep : Nat} (h : RdT C H r dx w toks ts dep) {p : Addr} {o : HO} (n1 : p ≠ r) (n2 : p ≠ w) : RdT C (upd H p o) r dx w toks ts dep :=
  ⟨⟨(upd_ne n1.symm).trans h.rd.ins, (upd_ne n2.symm).trans h.rd.lst, h.rd.len⟩, h.suf, h.le, h.ne, h.sms⟩

def ParseQ (K : PySem.W.Frag) (C CB : Addr) (p : Ps) (r dx w : Addr) (toks ts : List Str) (dep : Nat) (H : Hp) (Q : VK) (E : XK) : Prop :=
  (∀ d rest v H', p ts = some (d, rest) → Ext r H H' → RdT C H' r dx w toks rest dep → Dp K H' v d → tre d = true → Q v H') ∧
  (p ts = none → ∀ e H', Ext r H H' → H e = none → H' e = some (.xd [("place", .int 0)]) → E (.ref CB) (some e) H')
def spSingleR (K : PySem.W.Frag) (C CB : Addr) (n : Nat) : Sp := fun vs H Q E => ∃ r dx w toks ts dep, vs = [.ref r] ∧ RdT C H r dx w toks ts dep ∧ dep + n = 8 ∧ ParseQ K C CB (pSingle (pIn n)) r dx w toks ts dep H Q E
def spLevelR (K : PySem.W.Frag) (C CB : Addr) (n m : Nat) : Sp := fun vs H Q E => ∃ r dx w toks ts dep j, vs = [.ref r, .int j] ∧ j = 5 - m ∧ m ≤ 5 ∧ RdT C H r dx w toks ts dep ∧ dep + n = 8 ∧
  ParseQ K C CB (pLev (pSingle (pIn n)) m) r dx w toks ts dep H Q E
def spPartsR (K : PySem.W.Frag) (C CB : Addr) (n : Nat) : Sp := fun vs H Q E => ∃ r dx w toks ts dep many, vs = [.ref r, .int many] ∧ RdT C H r dx w toks ts dep ∧ dep + n = 8 ∧
  ((many = 1 ∧ (∀ d rest v l H', pParts1 (pIn n) ts = some (d, rest) → Ext r H H' → RdT C H' r dx w toks rest dep → Dp K H' v d → tre d = true → H' l = some (.lst [v]) → Q (.ref l) H') ∧
      (pParts1 (pIn n) ts = none → ∀ e H', Ext r H H' → H e = none → H' e = some (.xd [("place", .int 0)]) → E (.ref CB) (some e) H')) ∨
   (many = 2 ∧ (∀ d d2 rest v v2 l H', pParts2 (pIn n) ts = some (d, d2, rest) → Ext r H H' → RdT C H' r dx w toks rest dep → Dp K H' v d → tre d = true → Dp K H' v2 d2 → tre d2 = true → H' l = some (.lst [v, v2]) → Q (.ref l) H') ∧
      (pParts2 (pIn n) ts = none → ∀ e H', Ext r H H' → H e = none → H' e = some (.xd [("place", .int 0)]) → E (.ref CB) (some e) H')))
section
variable {inner : Ps} {ts r1 r2 r3 r4 r5 : List Str} {d d2 : PyData}
theorem p1_a (h : pTok "(" ts = none) : pParts1 inner ts = none := by unfold pParts1; rw [h]
theorem p1_b (h : pTok "(" ts = some r1) (h1 : inner r1 = none) : pParts1 inner ts = none := by unfold pParts1; simp only [h, h1]
theorem p1_c (h : pTok "(" ts = some r1) (h1 : inner r1 = some (d, r2)) (h2 : pTok ")" r2 = none) : pParts1 inner ts = none := by unfold pParts1; simp only [h, h1, h2]
theorem p1_d (h : pTok "(" ts = some r1) (h1 : inner r1 = some (d, r2)) (h2 : pTok ")" r2 = some r3) : pParts1 inner ts = some (d, r3) := by unfold pParts1; simp only [h, h1, h2]
theorem p2_a (h : pTok "(" ts = none) : pParts2 inner ts = none := by unfold pParts2; rw [h]
theorem p2_b (h : pTok "(" ts = some r1) (h1 : inner r1 = none) : pParts2 inner ts = none := by unfold pParts2; simp only [h, h1]
theorem p2_c (h : pTok "(" ts = some r1) (h1 : inner r1 = some (d, r2)) (h2 : pTok "," r2 = none) : pParts2 inner ts = none := by unfold pParts2; simp only [h, h1, h2]
theorem p2_d (h : pTok "(" ts = some r1) (h1 : inner r1 = some (d, r2)) (h2 : pTok "," r2 = some r3) (h3 : inner r3 = none) : pParts2 inner ts = none := by unfold pParts2; simp only [h, h1, h2, h3]
theorem p2_e (h : pTok "(" ts = some r1) (h1 : inner r1 = some (d, r2)) (h2 : pTok "," r2 = some r3) (h3 : inner r3 = some (d2, r4)) (h4 : pTok ")" r4 = none) : pParts2 inner ts = none := by unfold pParts2; simp only [h, h1, h2, h3, h4]
theorem p2_f (h : pTok "(" ts = some r1) (h1 : inner r1 = some (d, r2)) (h2 : pTok "," r2 = some r3) (h3 : inner r3 = some (d2, r4)) (h4 : pTok ")" r4 = some r5) : pParts2 inner ts = some (d, d2, r5) := by unfold pParts2; simp only [h, h1, h2, h3, h4]
end
theorem RdT.mem {C : Addr} {H : Hp} {r dx w : Addr} {toks ts : List Str} {dep : Nat} (h : RdT C H r dx w toks ts dep) : ∀ t ∈ ts, t ∈ toks := fun t ht => by
  rw [← h.suf] at ht
  exact List.mem_of_mem_drop ht
theorem RdT.smh {C : Addr} {H : Hp} {r dx w : Addr} {toks ts : List Str} {dep : Nat} (h : RdT C H r dx w toks ts dep) : sm (.str (ts.headD "")) := by
  cases ts with
  | nil => exact ⟨by decide, .inl (by decide +kernel)⟩
  | cons t tl => exact h.sms t (h.mem t List.mem_cons_self)
section
variable {inner : Ps} {t : Str} {r ts : List Str}
theorem sg_name (h : nameOk t = true) : pSingle inner (t :: r) = some (.str t, r) := by unfold pSingle; exact if_pos h
theorem no_keys : nameOk "keys" = false := by decide +kernel
theorem no_look : nameOk "look" = false := by decide +kernel
theorem no_end : nameOk "" = false := by decide +kernel
theorem sg_keys0 (h : pParts1 inner r = none) : pSingle inner ("keys" :: r) = none := by
  unfold pSingle
  simp only [no_keys, h]
  rfl
theorem sg_keys1 {d : PyData} {q : List Str} (h : pParts1 inner r = some (d, q)) : pSingle inner ("keys" :: r) = some (.tuple [.str "keys", d], q) := by
  unfold pSingle
  simp only [no_keys, h]
  rfl
theorem sg_look0 (h : pParts2 inner r = none) : pSingle inner ("look" :: r) = none := by
  unfold pSingle
  simp only [no_look, h]
  rfl
theorem sg_look1 {d d2 : PyData} {q : List Str} (h : pParts2 inner r = some (d, d2, q)) : pSingle inner ("look" :: r) = some (.tuple [.str "look", d, d2], q) := by
  unfold pSingle
  simp only [no_look, h]
  rfl
theorem sg_par (h : nameOk (ts.headD "") = false) (h1 : ts.headD "" ≠ "keys") (h2 : ts.headD "" ≠ "look") : pSingle inner ts = pParts1 inner ts := by
  cases ts with
  | nil => rfl
  | cons t r =>
    have h : nameOk t = false := h
    have h1 : t ≠ "keys" := h1
    have h2 : t ≠ "look" := h2
    unfold pSingle
    simp only [h, if_neg h1, if_neg h2]
    rfl
end
section
variable {op : Str} {sub s : Ps} {n m : Nat} {l d : PyData} {ts r r2 : List Str}
theorem loop_no (h : pTok op ts = none) : pLoop op sub n l ts = some (l, ts) := by
  cases n with
  | zero => rfl
  | succ n => unfold pLoop; simp only [h]
theorem loop_none (h : pTok op ts = some r) (h1 : sub r = none) : pLoop op sub (n + 1) l ts = none := by unfold pLoop; simp only [h, h1]
theorem loop_go (h : pTok op ts = some r) (h1 : sub r = some (d, r2)) : pLoop op sub (n + 1) l ts = pLoop op sub n (.tuple [.str op, l, d]) r2 := by
  rw [pLoop]
  simp only [h, h1]
theorem lev_none (h : pLev s m ts = none) : pLev s (m + 1) ts = none := by unfold pLev; simp only [h]
theorem lev_go (h : pLev s m ts = some (l, r)) : pLev s (m + 1) ts = pLoop (opAt m) (pLev s m) r.length l r := by
  rw [pLev]
  simp only [h]
end

def Less (p : Ps) : Prop := ∀ ts d r, p ts = some (d, r) → r.length ≤ ts.length
theorem tok_len {x : Str} : ∀ {ts r : List Str}, pTok x ts = some r → r.length < ts.length := by
  intro ts r h
  cases ts with
  | nil => cases h
  | cons t tl =>
    by_cases e : t = x
    · have g : (if t = x then some tl else none) = some r := h
      rw [if_pos e] at g; cases g; exact Nat.lt_succ_self _
    · have g : (if t = x then some tl else none) = some r := h
      rw [if_neg e] at g; cases g
theorem less_p1 {inner : Ps} (hi : Less inner) : Less (pParts1 inner) := by
  intro ts d r h
  unfold pParts1 at h
  split at h
  · cases h
  · rename_i r1 h1
    split at h
    · cases h
    · rename_i d2 r2 h2
      split at h
      · cases h
      · rename_i r3 h3
        cases h
        have a := tok_len h1
        have b := hi _ _ _ h2
        have c := tok_len h3
        omega
theorem less_p2 {inner : Ps} (hi : Less inner) {ts r : List Str} {d d2 : PyData} (h : pParts2 inner ts = some (d, d2, r)) : r.length ≤ ts.length := by
  unfold pParts2 at h
  split at h
  · cases h
  · rename_i r1 h1
    split at h
    · cases h
    · rename_i d3 r2 h2
      split at h
      · cases h
      · rename_i r3 h3
        split at h
        · cases h
        · rename_i d4 r4 h4
          split at h
          · cases h
          · rename_i r5 h5
            cases h
            have a := tok_len h1
            have b := hi _ _ _ h2
            have c := tok_len h3
            have e := hi _ _ _ h4
            have f := tok_len h5
            omega
theorem less_single {inner : Ps} (hi : Less inner) : Less (pSingle inner) := by
  intro ts d r h
  cases ts with
  | nil => cases h
  | cons t tl =>
    unfold pSingle at h
    simp only at h
    split at h
    · cases h; exact Nat.le_succ _
    · split at h
      · split at h
        · cases h
        · rename_i d2 q h2
          cases h
          exact Nat.le_succ_of_le (less_p1 hi _ _ _ h2)
      · split at h
        · split at h
          · cases h
          · rename_i d2 d3 q h2
            cases h
            exact Nat.le_succ_of_le (less_p2 hi h2)
        · exact less_p1 hi _ _ _ h
theorem less_loop {op : Str} {sub : Ps} (hs : Less sub) : ∀ (n : Nat) (l : PyData), Less (pLoop op sub n l)
  | 0, l, ts, d, r, h => by cases h; exact Nat.le_refl _
  | n + 1, l, ts, d, r, h => by
    cases e : pTok op ts with
    | none => rw [loop_no e] at h; cases h; exact Nat.le_refl _
    | some r1 =>
      cases e2 : sub r1 with
      | none => rw [loop_none e e2] at h; cases h
      | some q =>
        obtain ⟨d2, r2⟩ := q
        rw [loop_go e e2] at h
        have a := tok_len e
        have b := hs _ _ _ e2
        have c := less_loop hs n _ _ _ _ h
        omega
theorem less_lev {s : Ps} (hs : Less s) : ∀ m : Nat, Less (pLev s m)
  | 0 => hs
  | m + 1 => fun ts d r h => by
    cases e : pLev s m ts with
    | none => rw [lev_none e] at h; cases h
    | some q =>
      obtain ⟨l, r1⟩ := q
      rw [lev_go e] at h
      have a := less_lev hs m _ _ _ e
      have b := less_loop (less_lev hs m) _ _ _ _ _ h
      omega
theorem less_in : ∀ n : Nat, Less (pIn n)
  | 0 => fun _ _ _ h => by cases h
  | n + 1 => less_lev (less_single (less_in n)) 5

def pE (toks : List Str) : Option PyData := match pIn 9 toks with
  | some (d, []) => some d
  | _ => none
theorem pE_none (h : pIn 9 toks = none) : pE toks = none := by unfold pE; rw [h]
theorem pE_some (h : pIn 9 toks = some (d, [])) : pE toks = some d := by unfold pE; rw [h]
theorem pE_more {t : Str} {tl : List Str} (h : pIn 9 toks = some (d, t :: tl)) : pE toks = none := by unfold pE; rw [h]
def spInitRd (C : Addr) : Sp := fun vs H Q _ => ∃ (x dx a : Addr) (toks : List Str), vs = [.ref x, .ref a] ∧ H x = some (.ins C dx []) ∧ H a = some (.lst (toks.map V.str)) ∧ toks.length < 1000 ∧
  (∀ t ∈ toks, t ≠ "") ∧ (∀ t ∈ toks, sm (.str t)) ∧ ∀ w H', Ext x H H' → RdT C H' x dx w toks toks 0 → Q .non H'
def spWholeR (K : PySem.W.Frag) (C CB : Addr) : Sp := fun vs H Q E => ∃ r dx w toks, vs = [.ref r] ∧ RdT C H r dx w toks toks 0 ∧
  (∀ d v H', pE toks = some d → Ext r H H' → Dp K H' v d → tre d = true → Q v H') ∧
  (pE toks = none → ∀ e H', Ext r H H' → H e = none → H' e = some (.xd [("place", .int 0)]) → E (.ref CB) (some e) H')

def spNever : Sp := fun _ _ _ _ => False
theorem fn_never {P : Program} {w : World} {K : PySem.W.Frag} {mg : Str → Option Value} {base : Heap} {CX : CXT} {k : Nat} {f : Addr} {fd : FuncData} {ps : List Str} : FnOk P w K mg base CX k f fd ps spNever :=
  ⟨fun _ _ _ _ h => h.elim, fun _ _ _ _ _ _ _ _ _ _ _ _ _ h => h.elim⟩
theorem MtX.mono {P : Program} {w : World} {K : PySem.W.Frag} {mg : Str → Option Value} {base : Heap} {C : Addr} {m : Str} {j k : Nat} {ps : List Str} {sp : Sp} (h : j ≤ k) (D : MtX P w K mg base C m j ps sp) : MtX P w K mg base C m k ps sp := by
  obtain ⟨f, fd, a, b, c, F, e⟩ := D
  exact ⟨f, fd, a, b, c, F.mono h, e⟩

theorem reader_tie {K : PySem.W.Frag} {C CB : Addr} {Lv Sg Pt : Nat → Sp → Prop} (mS : ∀ {j k : Nat} {sp : Sp}, j ≤ k → Sg j sp → Sg k sp) (zL : ∀ k, Lv k spNever)
    (aP : ∀ k n spI, (∀ m, n = m + 1 → spI = spLevelR K C CB m 5) → Lv (k + 4) spI → Pt (k + 5) (spPartsR K C CB n))
    (aS : ∀ k n, Pt (k + 4) (spPartsR K C CB n) → Sg (k + 5) (spSingleR K C CB n))
    (aL : ∀ k n m spS spL, (m = 0 → spS = spSingleR K C CB n) → (∀ q, m = q + 1 → spL = spLevelR K C CB n q) → Sg (k + 4) spS → Lv (k + 4) spL → Lv (k + 5) (spLevelR K C CB n m)) :
    ∀ n : Nat, Lv (8 * n + 12) (spLevelR K C CB n 5) := by
  have lev : ∀ n k, Pt (k + 5) (spPartsR K C CB n) → Lv (k + 12) (spLevelR K C CB n 5) := fun n k hP => by
    have s0 : Sg (k + 6) (spSingleR K C CB n) := aS (k + 1) n hP
    have l0 : Lv (k + 7) (spLevelR K C CB n 0) := aL (k + 2) n 0 _ _ (fun _ => rfl) (fun q z => by cases z) s0 (zL _)
    have go : ∀ j m, Lv (k + 7 + j) (spLevelR K C CB n m) → Lv (k + 7 + (j + 1)) (spLevelR K C CB n (m + 1)) := fun j m h =>
      aL (k + 3 + j) n (m + 1) (spSingleR K C CB n) _ (fun z => by cases z) (fun q z => by cases z; rfl) (mS (by omega) s0) (by rw [show k + 3 + j + 4 = k + 7 + j by omega]; exact h) |> fun z => by
        rw [show k + 7 + (j + 1) = k + 3 + j + 5 by omega]; exact z
    exact go 4 4 (go 3 3 (go 2 2 (go 1 1 (go 0 0 l0))))
  intro n
  induction n with
  | zero => exact lev 0 0 (aP 0 0 spNever (fun m z => by cases z) (zL _))
  | succ n ih =>
    have := lev (n + 1) (8 * n + 8) (aP (8 * n + 8) (n + 1) _ (fun m z => by cases z; rfl) ih)
    rw [show 8 * (n + 1) + 12 = 8 * n + 8 + 12 by omega]
    exact this
end My
set_option Elab.async false
set_option linter.all false
set_option maxRecDepth 100000

namespace My
open PySem PySem.Spec PyProof.Rows L2

theorem thnK {α : Type} {t : Sem α} {Q Q' : α → Shared → Prop} {M : Model} {A : Around} {E : Value → Shared → Prop} {s : Shared} {n : Nat} (hn : n ≤ s.toks) (h : wpAny M A t Q E s) (hQ : ∀ a s1, n ≤ s1.toks → Q a s1 → Q' a s1) : wpAny M A t Q' E s :=
  wpAny_mono (PySem.wpAny_toks_of hn h) (fun a s1 q => hQ a s1 q.1 q.2) fun _ _ x => x.2
structure PEn (n : Nat) (X : Cx) (e : Expr) (t : TE) : Prop where
  run : ∀ (pins : List (Addr × Obj)) (s : Shared) (σ : L2.St) (H : Hp) (Q : VK), n ≤ s.toks → Inv X pins σ H s → t σ H Q → wpAny (model X.prog X.w) X.A (eval e X.env) (EP X pins σ Q) X.xe s
structure PTn (n : Nat) (X : Cx) (e : Expr) (t : TT) : Prop where
  run : ∀ (pins : List (Addr × Obj)) (s : Shared) (σ : L2.St) (H : Hp) (Q : Bool → Hp → Prop), n ≤ s.toks → Inv X pins σ H s → t σ H Q → wpAny (model X.prog X.w) X.A (isTrue e X.env (eval e X.env)) (TP X pins σ Q) X.xe s
structure PAn (n : Nat) (X : Cx) (es : List Expr) (t : TA) : Prop where
  run : ∀ (pos : Pos) (pins : List (Addr × Obj)) (s : Shared) (σ : L2.St) (H : Hp) (Q : List V → Hp → Prop), n ≤ s.toks → Inv X pins σ H s → t σ H Q → wpAny (model X.prog X.w) X.A (spliced (backTo pos (starEach es X.env))) (AP X pins σ Q) X.xe s
structure PSn (n : Nat) (X : Cx) (st : Stmt) (t : TS) : Prop where
  run : ∀ (pins : List (Addr × Obj)) (s : Shared) (σ : L2.St) (H : Hp) (D : Ends), n ≤ s.toks → Inv X pins σ H s → t D σ H → wpAny (model X.prog X.w) X.A (exec st X.env) (SP X pins D) X.xe s
structure PSsn (n : Nat) (X : Cx) (st : List Stmt) (t : TS) : Prop where
  run : ∀ (pins : List (Addr × Obj)) (s : Shared) (σ : L2.St) (H : Hp) (D : Ends), n ≤ s.toks → Inv X pins σ H s → t D σ H → wpAny (model X.prog X.w) X.A (execs st X.env) (SP X pins D) X.xe s

structure FnT (n : Nat) (P : Program) (w : World) (K : PySem.W.Frag) (mg : Str → Option Value) (base : Heap) (CX : CXT) (k : Nat) (f : Addr) (fd : FuncData) (ps : List Str) (sp : Sp) : Prop where
  len : ∀ vs H Q E, sp vs H Q E → vs.length = ps.length
  run : ∀ (A : Around) (outer : List Env) (s : Shared) (H : Hp) (args : Args) (us : List Value) (vs : List V) (Q : VK) (E : XK), n ≤ s.toks → Room k A → Env0 P w K mg base A outer s H → BindsTo s fd args (ps.zip us) → Vals vs us → sp vs H Q E →
    codeAny (model P w) A (.call (.ref f) args) (CR CX outer P w H s Q E) s
section
variable {n : Nat} {X : Cx} {e a b : Expr} {es : List Expr} {st : Stmt} {rest : List Stmt} {te ta tb : TE} {tt : TT} {t u : TS} {tl : TA} {pos : Pos}
theorem PEn.of (h : PE X e te) : PEn n X e te := ⟨fun pins s σ H Q _ I q => h.run pins s σ H Q I q⟩
theorem PTn.of (h : PT X e tt) : PTn n X e tt := ⟨fun pins s σ H Q _ I q => h.run pins s σ H Q I q⟩
theorem PAn.of (h : PA X es tl) : PAn n X es tl := ⟨fun pos pins s σ H Q _ I q => h.run pos pins s σ H Q I q⟩
theorem PSn.of (h : PS X st t) : PSn n X st t := ⟨fun pins s σ H D _ I q => h.run pins s σ H D I q⟩
theorem PSsn.of (h : PSs X rest t) : PSsn n X rest t := ⟨fun pins s σ H D _ I q => h.run pins s σ H D I q⟩
theorem FnT.of {P : Program} {w : World} {K : PySem.W.Frag} {mg : Str → Option Value} {base : Heap} {CX : CXT} {k : Nat} {f : Addr} {fd : FuncData} {ps : List Str} {sp : Sp} (F : FnOk P w K mg base CX k f fd ps sp) : FnT n P w K mg base CX k f fd ps sp :=
  ⟨F.len, fun A outer s H args us vs Q E _ => F.run A outer s H args us vs Q E⟩
theorem pan_nil : PAn n X [] tNil := .of pa_nil
theorem pan_cons (ha : PEn n X e te) (hr : PAn n X es tl) (hs : starEach (e :: es) X.env = (false, eval e X.env) :: starEach es X.env := by rfl) : PAn n X (e :: es) (tCons te tl) := by
  refine ⟨fun pos pins s σ H Q hn I h => ?_⟩
  rw [hs]
  show wpAny _ _ (spliced ((false, eval e X.env) :: backTo pos (starEach es X.env))) _ _ s
  refine Calls.spliced_cons (thnK hn (ha.run pins s σ H _ hn I h) fun v s1 hn1 q => ?_)
  obtain ⟨x, H1, I1, r1, q1⟩ := q
  exact thn (hr.run pos pins s1 σ H1 _ hn1 I1 q1) fun us s2 ⟨xs, H2, I2, r2, q2⟩ => ⟨x :: xs, H2, I2, .cons r1 r2, q2⟩
theorem pssn_cons (h1 : PSn n X st t) (h2 : PSsn n X rest u) : PSsn n X (st :: rest) (tSeq t u) := by
  refine ⟨fun pins s σ H D hn I h => ?_⟩
  refine wpAny_execs_cons (thnK hn (h1.run pins s σ H { D with nx := u D } hn I h) fun f s1 hn1 q => ?_)
  cases f with
  | next =>
    obtain ⟨σ', H', I', q⟩ := q
    exact h2.run pins s1 σ' H' D hn1 I' q
  | ret v => exact q
  | brk => exact q
  | cont => exact q
theorem pssn_one (h1 : PSn n X st t) : PSsn n X [st] t := by
  refine ⟨fun pins s σ H D hn I h => ?_⟩
  refine wpAny_execs_cons (thn (h1.run pins s σ H D hn I h) fun f s1 q => ?_)
  cases f with
  | next => exact wpAny_execs_nil q
  | ret v => exact q
  | brk => exact q
  | cont => exact q
theorem psn_expr (he : PEn n X e te) (hs : swapsWith e none pos.line X.env = pure false := by rfl) : PSn n X (.Expr e pos) (tDrop te) :=
  ⟨fun pins s σ H D hn I h => wpAny_Expr_any (thn (he.run pins s σ H _ hn I h) fun v s1 ⟨x, H1, I1, r1, q1⟩ => ⟨σ, H1, I1, q1⟩) I.quiet hs⟩
theorem psn_ret (he : PEn n X e te) : PSn n X (.Return (some e) pos) (tRet te) :=
  ⟨fun pins s σ H D hn I h => wpAny_Return_some (thn (he.run pins s σ H _ hn I h) fun v s1 ⟨x, H1, I1, r1, q1⟩ => ⟨x, σ, H1, I1, r1, q1⟩)⟩
theorem psn_if {c : List Stmt} (hc : PTn n X e tt) (ha : PSsn n X rest t) (hb : PSsn n X c u) : PSn n X (.If e rest c pos) (tIfS tt t u) := by
  refine ⟨fun pins s σ H D hn I h => ?_⟩
  refine wpAny_If (thnK hn (hc.run pins s σ H _ hn I h) fun d s1 hn1 ⟨H1, I1, q1⟩ => ?_)
  cases d with
  | true => exact ha.run pins s1 σ H1 D hn1 I1 q1
  | false => exact hb.run pins s1 σ H1 D hn1 I1 q1
theorem psn_asg {tg : Expr} {g : TG} (he : PEn n X e te) (hg : PG X tg g) (hs : swapsWithSole [tg] e pos.line X.env = pure false := by rfl) (hw : swappedStores [tg] e X.env = pure none := by rfl)
    (h1 : (assignEach [tg] X.env).map (·.2) = [assign tg X.env] := by rfl) : PSn n X (.Assign [tg] e pos) (tAsg te g) := by
  refine ⟨fun pins s σ H D hn I h => ?_⟩
  refine wpAny_Assign_stores (thn (he.run pins s σ H _ hn I h) fun v s1 ⟨x, H1, I1, r1, q1⟩ => ?_) hs hw
  rw [h1]
  exact thn (hg.run pins s1 σ H1 x v _ I1 r1 q1) fun _ s2 q => q
theorem psn_set {i : Nat} {x : Str} {pos' : Pos} (hN : X.N.Nodup) (hi : X.N[i]? = some x) (hx : Loc X.env.scope x) (he : PEn n X e te) (hs : swapsWith e (some (.Name x pos')) pos.line X.env = pure false := by rfl)
    (hf : X.fn x = true ∨ X.env.scope.names.lookup x = some .local := by first | exact .inl rfl | exact .inr rfl | assumption) :
    PSn n X (.Assign [.Name x pos'] e pos) (tAsg te (gName i)) := by
  refine ⟨fun pins s σ H D hn I h => ?_⟩
  refine wpAny_Assign_Name (thn (he.run pins s σ H _ hn I h) fun v s1 ⟨y, H1, I1, r1, q1⟩ => ?_) hs
  exact store_ok I1 hN hi hx r1 (fun s2 I2 => ⟨_, H1, I2, q1⟩) hf

theorem pen_cmp {op : CmpOp} {r : R2} (ho : OpR X (compareOp op) r) (ha : PEn n X a ta) (hb : PEn n X b tb) (hm : behindInMarks op b = false) : PEn n X (.Compare a [op] [b] pos) (tOp r ta tb) := by
  refine ⟨fun pins s σ H Q hn I h => ?_⟩
  exact wpAny_Compare1 (thnK hn (ha.run pins s σ H _ hn I h) fun v s1 hn1 ⟨x, H1, I1, r1, q1⟩ =>
    thn (hb.run pins s1 σ H1 _ hn1 I1 q1) fun w s2 ⟨y, H2, I2, r2, q2⟩ => ho pins s2 σ H2 x y v w Q I2 r1 r2 q2) hm
theorem ptn_cmp {op : CmpOp} {r : R2} (ho : OpR X (compareOp op) r) (ha : PEn n X a ta) (hb : PEn n X b tb) (hm : behindInMarks op b = false) : PTn n X (.Compare a [op] [b] pos) (tTest (tOp r ta tb)) := by
  refine ⟨fun pins s σ H Q hn I h => ?_⟩
  refine wpAny_isTrue_Compare1 (thnK hn (ha.run pins s σ H _ hn I h) fun v s1 hn1 ⟨x, H1, I1, r1, q1⟩ => thn (hb.run pins s1 σ H1 _ hn1 I1 q1) fun w s2 ⟨y, H2, I2, r2, q2⟩ =>
    thn (ho pins s2 σ H2 x y v w _ I2 r1 r2 q2) fun c s3 ⟨z, H3, I3, r3, k, e, q3⟩ => ?_) hm
  subst e
  cases r3
  exact wpAny_truthy_bool ⟨H3, I3, q3⟩
theorem pen_one {op} (h : PEn n X a ta) : PEn n X (.BoolOp op [a] pos) ta := ⟨fun pins s σ H Q hn I hw => BoolOp_one (h.run pins s σ H Q hn I hw)⟩
theorem pen_and {rest : List Expr} (ha : PEn n X a ta) (hb : PEn n X (.BoolOp .And (b :: rest) pos) tb) : PEn n X (.BoolOp .And (a :: b :: rest) pos) (tAndV ta tb) := by
  refine ⟨fun pins s σ H Q hn I h => ?_⟩
  refine BoolOp_and (thnK hn (ha.run pins s σ H _ hn I h) fun v s1 hn1 ⟨x, H1, I1, r1, q1⟩ => ?_)
  obtain ⟨c, rfl, q1⟩ := q1
  cases r1
  refine wpAny_truthy_bool ?_
  cases c with
  | true => exact hb.run pins s1 σ H1 Q hn1 I1 q1
  | false => exact ⟨.bl false, H1, I1, rfl, q1⟩
theorem pen_or {rest : List Expr} (ha : PEn n X a ta) (hb : PEn n X (.BoolOp .Or (b :: rest) pos) tb) : PEn n X (.BoolOp .Or (a :: b :: rest) pos) (tOrV ta tb) := by
  refine ⟨fun pins s σ H Q hn I h => ?_⟩
  refine BoolOp_or (thnK hn (ha.run pins s σ H _ hn I h) fun v s1 hn1 ⟨x, H1, I1, r1, q1⟩ => ?_)
  obtain ⟨c, rfl, q1⟩ := q1
  cases r1
  refine wpAny_truthy_bool ?_
  cases c with
  | false => exact hb.run pins s1 σ H1 Q hn1 I1 q1
  | true => exact ⟨.bl true, H1, I1, rfl, q1⟩
theorem pen_not (ha : PEn n X a ta) : PEn n X (.UnaryOp .Not a pos) (tNotV ta) := by
  refine ⟨fun pins s σ H Q hn I h => ?_⟩
  refine UnaryOp_ (thn (ha.run pins s σ H _ hn I h) fun v s1 ⟨x, H1, I1, r1, q1⟩ => ?_)
  obtain ⟨c, rfl, q1⟩ := q1
  cases r1
  exact not_of (wpAny_truthy_bool ⟨.bl (!c), H1, I1, rfl, q1⟩)
theorem pen_tup {x1} (h : PAn n X es tl) : PEn n X (.Tuple es x1 pos) (tTup tl) := by
  refine ⟨fun pins s σ H Q hn I hq => ?_⟩
  refine wpAny_Tuple_spliced (thn (h.run pos pins s σ H _ hn I hq) fun us s1 hh => ?_)
  obtain ⟨xs, H1, I1, r, z, q⟩ := hh
  refine ⟨by rw [← r.length]; exact z, .ref s1.heap.objs.size, upd H1 s1.heap.objs.size (.tup xs), I1.laid (t' := s1.toks) (fun b u e => Heap.get?_push_of_some _ e) (Nat.le_refl _) ?_, rfl, q _ (I1.hok.fresh (Nat.le_refl _))⟩
  exact ⟨z, us, r, ⟨_, Heap.get?_push_size _ rfl, rfl, _, rfl⟩⟩
end

section
variable {n : Nat} {X : Cx} {CX : CXT} {k : Nat} {f C : Addr} {fd : FuncData} {ps : List Str} {sp : Sp} {dvs : List V} {ds : List Value} {E : XK} {x m : Str} {p pos apos : Pos} {e o : Expr} {es : List Expr} {ta : TE} {t : TA}
theorem run_fnT {pins : List (Addr × Obj)} {σ : L2.St} {H : Hp} {s : Shared} {Q : VK} {us : List Value} {vs : List V} (F : FnT n X.prog X.w X.K X.mg X.base CX k f fd ps sp) (hn : n ≤ s.toks) (hr : Room k X.A) (hb : Binds X.K fd ps ds) (hd : Vals dvs ds) (hx : Passes CX X E)
    (I : Inv X pins σ H s) (r : Vals vs us) (h : sp (vs ++ dvs) H Q E) : wpAny (model X.prog X.w) X.A (call (.ref f) us) (EP X pins σ Q) X.xe s := by
  have r2 : Vals (vs ++ dvs) (us ++ ds) := r.append hd
  have hl : (us ++ ds).length = ps.length := by rw [← r2.length]; exact F.len _ _ _ _ h
  refine wpAny_call (codeAny_mono (F.run X.A X.stack s H ⟨us, []⟩ (us ++ ds) (vs ++ dvs) Q E hn hr I.env0 (hb s us I.kIn hl) r2 h) fun r s' hq => ?_)
  cases r with
  | error e => exact hx pins σ H s e s' I hq
  | ok fl =>
    cases fl with
    | ret u => exact I.after hq
    | next => exact False.elim hq
    | brk => exact False.elim hq
    | cont => exact False.elim hq
theorem pen_call (F : FnT n X.prog X.w X.K X.mg X.base CX k f fd ps sp) (hr : Room k X.A) (hg : Gl X x) (hm : X.mg x = some (.ref f)) (hk : PySem.W.keepIn X.K (.ref f) = true) (hb : Binds X.K fd ps ds) (hd : Vals dvs ds) (hx : Passes CX X E)
    (ha : PAn n X (e :: es) t) (hdb : (x == ("__debug__" : Str)) = false := by decide) (he : starEach (e :: es) X.env = (false, eval e X.env) :: starEach es X.env := by rfl) (hpl : (backTo pos (starEach es X.env)).any (·.1) = false := by rfl) :
    PEn n X (.Call (.Name x p) (e :: es) [] pos) (tCall sp dvs E t) := by
  refine ⟨fun pins s σ H Q hn I h => ?_⟩
  refine wpAny_Call_Name_kw (ld_glob I hg hm ?_ hdb)
  refine PySem.W.callWith_K (h₀ := X.base) I.ok.mod.kin hk (thnK hn (ha.run pos pins s σ H _ hn I h) fun us s1 hn1 ⟨vs, H1, I1, r, q⟩ => ⟨I1.kIn, ?_⟩) he hpl
  exact run_fnT F hn1 hr hb hd hx I1 r q

theorem pen_meth0 {pl : Sem Bool} (he : PEn n X o ta) (c : Cls X.K C) (hm : Meth X.K C m f) (F : FnOk X.prog X.w X.K X.mg X.base CX k f fd ps sp) (hr : Room k X.A) (hb : Binds X.K fd ps ds) (hd : Vals dvs ds) (hx : Passes CX X E)
    (ht : eval (.Call (.Attribute o m apos) [] [] pos) X.env = (do
      let ov ← eval o X.env
      standAt apos.atName
      let (f, first) ← holding [ov] (getMethod ov m pl)
      callWith pos f first (backTo pos (starEach [] X.env)) (backToKw pos (keywordEach [] X.env))) := by rfl) :
    PEn n X (.Call (.Attribute o m apos) [] [] pos) (tMeth C m sp dvs E ta tNil) := by
  refine ⟨fun pins s σ H Q hn I h => ?_⟩
  refine PySem.W.methodCall_KW (pl := pl) (thn (he.run pins s σ H _ hn I h) fun u s1 ⟨x, H1, I1, rx, a, dx, fs, ex, ea, l, q⟩ => ?_) ht
  subst ex
  obtain rfl : u = Value.ref a := rx
  refine getmeth_ok I1 ea c hm l ?_
  exact PySem.W.callWith_K0 (first := [.ref a]) I1.kIn hm.kp (run_fn (us := [.ref a]) (vs := [.ref a]) F hr hb hd hx I1 (.cons rfl .nil) q)
theorem pen_make (M : Mk X.K C f) (F : FnOk X.prog X.w X.K X.mg X.base CX k f fd ps sp) (hr : Room (k + 1) X.A) (hg : Gl X x) (hm : X.mg x = some (.ref C)) (hb : Binds X.K fd ps ds) (hd : Vals dvs ds) (hx : Passes CX X E)
    (ha : PAn n X (e :: es) t) (hdb : (x == ("__debug__" : Str)) = false := by decide) (he : starEach (e :: es) X.env = (false, eval e X.env) :: starEach es X.env := by rfl) (hpl : (backTo pos (starEach es X.env)).any (·.1) = false := by rfl) :
    PEn n X (.Call (.Name x p) (e :: es) [] pos) (tMake C sp dvs E t) := by
  refine ⟨fun pins s σ H Q hn I h => ?_⟩
  refine wpAny_Call_Name_kw (ld_glob I hg hm ?_ hdb)
  refine PySem.W.callWith_K (h₀ := X.base) I.ok.mod.kin M.kp (thn (ha.run pos pins s σ H _ hn I h) fun us s1 ⟨vs, H1, I1, r, q⟩ => ⟨I1.kIn, ?_⟩) he hpl
  exact run_make M F hr hb hd hx I1 r q
end
end My
set_option Elab.async false
set_option linter.all false
set_option maxRecDepth 100000

namespace My
open PySem PySem.Spec PyProof.Rows L2
section
variable {n : Nat} {P : Program} {w : World} {K : PySem.W.Frag} {mg : Str → Option Value} {base : Heap}
theorem fnT_of {CX : CXT} {x qual : Str} {st : Stmt} {f : Addr} {fd : FuncData} {N ps : List Str} {k : Nat} {sp : Sp} (F : Fun K x qual st f fd) (S : FnScope N ps (defScope st)) (len : ∀ vs H Q E, sp vs H Q E → vs.length = ps.length)
    (hbody : ∀ (cdv : Value) (A : Around) (outer : List Env) (s : Shared) (H : Hp) (vs : List V) (Q : VK) (E : XK), Room k (A.deeper (envOfC qual (defScope st) s.heap.objs.size f cdv)) → sp vs H Q E →
      ∃ t, PSsn n (cxOf CX P w K mg base N qual (defScope st) f cdv A outer s H E) (defBody st) t ∧ t { nx := fun _ H' => Q .non H', rt := Q } (start N vs) H) : FnT n P w K mg base CX (k + 1) f fd ps sp := by
  obtain ⟨oc, od, kV, doc, pm, an, cdv, ct, osl, rfl, lk, hcd⟩ := F.ex
  refine ⟨len, fun A outer s H args us vs Q E hn hr e0 hb r hsp => ?_⟩
  have KX : K.In s.heap := e0.mod.kin.keeps fun b o e => (e0.bs b o e).1
  have lim : s.heap.NoLimit := e0.mod.nolimit.keeps fun b o e => (e0.bs b o e).1
  have hkind : ∀ y ∈ ps.zip us, (defScope st).names.lookup y.1 = some .local ∨ ((defScope st).names.lookup y.1 = some .cell ∧ ((cellsFrom (s.heap.objs.size + 1) (defScope st).names []).lookup y.1).isSome = true) := by
    rintro ⟨m, v⟩ hy
    rcases S.par m (List.of_mem_zip hy).1 with q | q
    · exact .inl q
    · exact .inr ⟨q, PySem.W.cellsFrom_some _ _ _ (.inl q)⟩
  refine codeAny_call_function hr.depth (KX _ _ lk) rfl S.co S.gen rfl (PySem.W.codeRec_of KX hcd) (hb _ _ _ _ ?_)
  refine PySem.wpAny_with_toks hn (wpAny_newFunctionEnv_cells S.kind hkind fun env he s1 x hn1 => ?_)
  subst he
  refine ⟨lim.keeps x.toInCall.keep, codeAny_func ?_⟩
  obtain ⟨t, ht, hq⟩ := hbody cdv A outer s H vs Q E (hr.deeper _) hsp
  have I := inv_start (CX := CX) (E := E) S hr.hd e0 (len _ _ _ _ hsp) r x
  refine wpAny_mono (ht.run [] s1 (start N vs) H _ hn1 I hq) (fun fl s' hs => ?_) fun e s' hs => hs
  match fl, hs with
  | .ret u, ⟨v, σ', H', J, rv, q⟩ => exact ⟨v, H', J.os, J.bare, J.base, J.hok, rv, q⟩
  | .next, ⟨σ', H', J, q⟩ => exact ⟨.non, H', J.os, J.bare, J.base, J.hok, rfl, q⟩
  | .brk, ⟨_, _, _, q⟩ => exact q.elim
  | .cont, ⟨_, _, _, q⟩ => exact q.elim

theorem PSsn.nox {X : Cx} {body : List Stmt} {t : TS} (h : PSsn n X.nox body t) : PSsn n X body t :=
  ⟨fun pins s σ H D hn I q => wpAny_mono (h.run pins s σ H D hn (I.wish _) q) (fun _ _ z => z.unwish) fun _ _ z => False.elim z⟩
theorem PEn.nox {X : Cx} {e : Expr} {t : TE} (h : PEn n X.nox e t) : PEn n X e t :=
  ⟨fun pins s σ H Q hn I q => wpAny_mono (h.run pins s σ H Q hn (I.wish _) q) (fun _ _ ⟨v, H', I', r, z⟩ => ⟨v, H', I'.unwish, r, z⟩) fun _ _ z => False.elim z⟩
end
section
variable {P : Program} {w : World} {K : PySem.W.Frag}
theorem callT {n : Nat} {mg mb : Str → Option Value} {CX : CXT} {k : Nat} {fa a : Addr} {fd : FuncData} {x : Str} {sp : Sp}
    {s : Shared} {vs : List Value} {ns : List Int}
    (hn : n ≤ s.toks) (KX : K.In s.heap) (h1 : s.heap.Ns mainGlobals mg) (h2 : s.heap.Ns builtinsNs mb)
    (h3 : ∀ x : Str, x ≠ "__name__" → mb x = bootBuiltins x) (h4 : s.heap.NoLimit) (h5 : s.gens = #[])
    (ha : s.heap.get? a = some { cls := .type "list", data := .seq vs.toArray }) (hi : IntsAre vs ns)
    (hl : ns.length ≤ sizeLine) (hr : Room k callerA)
    (F : ∀ base : Heap, K.In base → base.Ns mainGlobals mg → FnT n P w K mg base CX k fa fd [x] sp)
    (hb : ∀ (s : Shared) (u : Value), BindsTo s fd ⟨[u], []⟩ [(x, u)])
    (hsp : ∀ H : Hp, Only H → SqL K H a (ns.map V.int) → sp [.ref a] H (fun v _ => v = .bl true) fun _ _ _ => False)
    (hCX : ∀ H e s', CX [] H s (fun _ _ _ => False) e s' → False) :
    codeAny (model P w) callerA (.call (.ref fa) ⟨[.ref a], []⟩)
      (fun r s' => r = .ok (.ret (.bool true)) ∧ OldK s.heap s'.heap ∧ s'.os = s.os ∧ AllBare s'.gens) s := by
  have rv := vals_ints hi
  have main : ∀ H : Hp, Only H → SqL K H a (ns.map V.int) → HOk P w H s.heap →
      (∀ b u, H b = some u → b = a ∧ K.lookup a = none) →
      codeAny (model P w) callerA (.call (.ref fa) ⟨[.ref a], []⟩)
        (fun r s' => r = .ok (.ret (.bool true)) ∧ OldK s.heap s'.heap ∧ s'.os = s.os ∧ AllBare s'.gens) s := by
    intro H hO hS hok hA
    have isL : ∀ {b : Addr} {o : Obj} {u : HO}, s.heap.get? b = some o → H b = some u →
        o = { cls := .type "list", data := .seq vs.toArray } := by
      intro b o u e q
      obtain rfl := (hA b u q).1
      exact Option.some.inj (e.symm.trans ha)
    have up : ∀ {b : Addr} {o : Obj} {es : Array DictEntry} {n : Nat}, s.heap.get? b = some o →
        o.data = .dict es n → (hidT s.heap H).get? b = some o := by
      intro b o es n e d
      refine hidT_get e ?_
      cases q : H b with
      | none => rfl
      | some u => rw [isL e q] at d; cases d
    have upN : ∀ {b : Addr} {m : Str → Option Value}, s.heap.Ns b m → (hidT s.heap H).Ns b m := by
      rintro b m ⟨o, es, n, e, d, r⟩
      exact ⟨o, es, n, up e d, d, r⟩
    have KH : K.In (hidT s.heap H) := by
      intro b o e
      refine hidT_get (KX b o e) ?_
      cases q : H b with
      | none => rfl
      | some u =>
        obtain ⟨rfl, z⟩ := hA b u q
        rw [z] at e; cases e
    have M : Mod K mg (hidT s.heap H) := by
      refine ⟨KH, upN h1, ⟨mb, upN h2, h3⟩, ?_⟩
      obtain ⟨mc, l1, l2⟩ := h4
      exact ⟨mc, upN l1, l2⟩
    have e0 : Env0 P w K mg (hidT s.heap H) callerA [] s H :=
      { frames := rfl, mod := M, bs := fun b o e => of_hidT e, bsz := Nat.le_of_eq (hidT_size _ _)
        funs := trivial, frf := fun b z => absurd z (List.not_mem_nil), hok := hok, bare := .of_eq h5 }
    have run := (F _ KH (upN h1)).run callerA [] s H ⟨[.ref a], []⟩ [.ref a] [.ref a] _ _
      hn hr e0 (hb s (.ref a)) (.cons rfl .nil) (hsp H hO hS)
    refine codeAny_mono run ?_
    intro r s' h
    match r, h with
    | .error e, h => exact (hCX H e s' h).elim
    | .ok .next, h => exact h.elim
    | .ok .brk, h => exact h.elim
    | .ok .cont, h => exact h.elim
    | .ok (.ret u), h =>
      obtain ⟨v, H', os, bare, un, hok', r', q⟩ := h
      obtain rfl : v = .bl true := q
      obtain rfl : u = Value.bool true := r'
      refine ⟨rfl, OldK.of_keep ?_, os, bare⟩
      intro b o e
      cases q : H b with
      | none => exact un.keep b o e q (fun z => absurd z (List.not_mem_nil)) (List.not_mem_nil)
      | some u =>
        rcases hO b with z | ⟨ob, xs, z⟩
        · rw [q] at z; cases z
        · obtain ⟨g1, _⟩ := hok b _ z
          obtain ⟨g2, _⟩ := hok' b _ (un.frzs b ob _ z)
          rw [e] at g1; cases g1
          exact g2
  cases hk : K.lookup a with
  | some o =>
    obtain rfl := Option.some.inj ((KX a o hk).symm.trans ha)
    refine main (fun _ => none) (fun _ => Or.inl rfl) (Or.inr ?_) (fun b u z => ?_) fun b u z => ?_
    · exact ⟨_, vs.toArray, _, hk, rfl, rfl, rfl, by rw [List.size_toArray, hi.length]; exact hl, by simpa using rv⟩
    · cases (show (none : Option HO) = some u from z)
    · cases (show (none : Option HO) = some u from z)
  | none =>
    refine main (only1 a { cls := .type "list", data := .seq vs.toArray } (.lst (ns.map V.int))) (fun b => ?_)
      (Or.inl (Or.inr ⟨_, only1_at⟩)) (fun b u z => ?_) fun b u z => ?_
    · by_cases e : b = a
      · subst e; exact Or.inr ⟨_, _, only1_at⟩
      · exact Or.inl (only1_ne e)
    · by_cases e : b = a
      · subst e
        obtain rfl := Option.some.inj (only1_at.symm.trans z)
        exact ⟨ha, by rw [List.length_map]; exact hl, vs, _, rv, ha⟩
      · rw [only1_ne e] at z; cases z
    · by_cases e : b = a
      · exact ⟨e, hk⟩
      · rw [only1_ne e] at z; cases z
end
theorem ofPys_ints : ∀ ns : List Int, PySem.W.ofPys (ns.map PyData.int) = ns.map PySem.W.WData.int
  | [] => by simp [PySem.W.ofPys]
  | n :: ns => by
    rw [List.map_cons, List.map_cons]
    unfold PySem.W.ofPys
    rw [ofPys_ints ns]
    rfl
theorem ofPy_ints (ns : List Int) : PySem.W.ofPy (PyData.list (ns.map PyData.int)) = PySem.W.WData.list (ns.map PySem.W.WData.int) := by
  unfold PySem.W.ofPy
  rw [ofPys_ints]

theorem walkT {l : PySem.W.OpenLaw} {n k N t : Nat} {q : Program} {loose : List Str} {XP : (Str → Option Value) → Heap → Prop} {as : List Addr} {K : Params → PySem.W.Frag} {d : DefRec} {sp : World → Sp} {x : Str}
    (he : ∀ P, as = (K P).map (·.1)) (hn : l.most = some n) (hn2 : n ≤ sizeLine) (hdf : d.params.defaults = []) (hr : Room k callerA)
    (F : ∀ (w : World) (mg : Str → Option Value) (fa : Addr) (h : Heap), (K w.params).In h → h.Ns mainGlobals mg → mg d.name = some (.ref fa) → ∃ fd : FuncData, (∀ (s : Shared) (u : Value), BindsTo s fd ⟨[u], []⟩ [(x, u)]) ∧
      ∀ base : Heap, (K w.params).In base → base.Ns mainGlobals mg → FnT t l.prog w (K w.params) mg base CX0 k fa fd [x] (sp w))
    (hsp : ∀ (w : World) (H : Hp) (a : Addr) (ns : List Int), ns.length ≤ n → Only H → SqL (K w.params) H a (ns.map V.int) → sp w [.ref a] H (fun v _ => v = .bl true) fun _ _ _ => False) :
    PySem.W.WalkX q loose XP (PySem.W.X.obsZ as) (PySem.W.X.valZ K N t) l.row.toRowW d [] (fun f vs => PySem.call f vs) := by
  intro w s₀ s₁ mg mb G Y fa o pm cd doc dV kV ho hd hcd hD hmg hg args vals as' hL hpre hlay hrd hwl hlo
  obtain ⟨Z1, ZI, ZN, ZT⟩ := PySem.W.X.z_facts he Y
  obtain rfl : dV = .none := PySem.W.Dflts.none hD hdf
  obtain rfl : kV = .none := PySem.W.Dflts.noKw hD
  obtain ⟨a, vs, ns, rfl, rfl, hobj, hints, hlen⟩ := Att.script_of hn hpre hwl
  have ht : t ≤ s₁.toks := PySem.W.X.script_toks (by rw [ofPy_ints]; exact hL) ZT
  have KX : (K w.params).In s₁.heap := PySem.W.InK.keeps w s₀.heap s₁.heap ZI hL.keeps
  obtain ⟨fd, hb, hF⟩ := F w mg fa _ KX G.T.g hmg
  refine PySem.W.enter_call (codeAny_mono (callT ht KX G.T.g G.T.b G.T.builtins G.T.nolimit hg hobj hints (Nat.le_trans hlen hn2) hr hF hb (fun H hO hS => hsp w H a ns hlen hO hS) fun H e s' z => z) fun r s' hq => ?_)
  obtain ⟨rfl, h2, h3, h4⟩ := hq
  exact ⟨.inl ⟨.bool true, .bool true, [], rfl, fun _ => rfl, .bool true, Att.post_true l _, fun _ => ⟨List.Pairwise.nil, fun _ hm => (nomatch hm)⟩⟩, h2, h3, h4⟩
end My
set_option Elab.async false
set_option linter.all false
set_option maxRecDepth 100000

namespace My
open PySem PySem.Spec PyProof.Rows L2
section
variable {n : Nat} {X : Cx} {tg iter : Expr} {body : List Stmt} {wi : TI} {g : TG} {tb : TS} {pos : Pos}
theorem psn_for (hp : PassesOwn (model X.prog X.w) X.A X.env X.xe) (hc : X.calm = true) (hi : PI X tg iter wi) (hg : PG X tg g) (hb : PSsn n X body tb)
    (hs : ∀ x, foldedSetIterable iter X.env x = pure x := by intro _; rfl) : PSn n X (.For tg iter body [] pos) (tFor wi g tb) := by
  refine ⟨fun pins s σ H D hn I h => ?_⟩
  refine wpAny_For (thnK hn (hi.run pins s σ H _ I h) fun v s1 hn1 h1 => thnK hn1 h1 fun itv s2 hn2 h2 => ?_) hs
  obtain ⟨it, fp, tn, J, H2, e, I2, T, st2, f2, W, ⟨m0, w0⟩, turn⟩ := h2
  subst e
  have stat : ∀ {H' : Hp}, (∀ b ∈ fp, H' b = none) → ∀ b ∈ fp, FpOk X pins H' b := fun hz b hb => ⟨hz b hb, (f2 b hb).2⟩
  refine codeAny_forLoop_any (fun k s' => n ≤ s'.toks ∧ ∃ i σ' H', Inv X pins σ' H' s' ∧ tn i s'.heap ∧ (∀ b ∈ fp, H' b = none) ∧ W i k σ' H') ?_ m0 ⟨hn2, 0, σ, H2, I2, st2, fun b hb => (f2 b hb).1, w0⟩
  rintro k s3 ⟨hn3, i, σ3, H3, I3, st3, fr3, w3⟩
  rcases turn i k σ3 H3 w3 with ⟨stop, qn⟩ | ⟨go, N, hN, step⟩
  · refine wpAny_passesOwn hp (thn (T.done X rfl rfl rfl hc i pins s3 σ3 H3 X.xe I3 (stat fr3) st3 stop) fun r s4 ⟨hr, I4⟩ => ?_)
    subst hr
    exact wpAny_execs_nil ⟨σ3, H3, I4, qn⟩
  · refine wpAny_passesOwn hp (thnK hn3 (T.item X rfl rfl rfl hc i pins s3 σ3 H3 X.xe I3 (stat fr3) st3 go) fun r s4 hn4 ⟨u, hr, h4⟩ => ?_)
    subst hr
    refine wpAny_passesOwn hp (thnK hn4 h4 fun _ s5 hn5 ⟨x, H5, I5, r5, y5, st5, fr5⟩ => ?_)
    have I5' := I5.pinned (stat fr5) (T.obj _ _ st5)
    refine wpAny_passesOwn hp (thnK hn5 (hg.run _ s5 σ3 H5 x u _ I5' r5 (step x H5 y5)) fun _ s6 hn6 ⟨σ6, H6, I6, q6⟩ => ?_)
    refine wpAny_passesOwn hp (thnK hn6 (hb.run _ s6 σ6 H6 _ hn6 I6 q6) fun f s7 hn7 q7 => ?_)
    have again : ∀ {σ7 : L2.St} {H7 : Hp}, Inv X (pins ++ pinsAt fp s5.heap) σ7 H7 s7 → N σ7 H7 → ∃ m, m < k ∧ (n ≤ s7.toks ∧ ∃ i σ' H', Inv X pins σ' H' s7 ∧ tn i s7.heap ∧ (∀ b ∈ fp, H' b = none) ∧ W i m σ' H') := fun {σ7 H7} I7 n7 => by
      obtain ⟨m', hm, w7⟩ := hN σ7 H7 n7
      refine ⟨m', hm, hn7, i + 1, σ7, H7, I7.unpinned, T.keep _ _ _ st5 fun b hb o e => (I7.pin (b, o) (List.mem_append_right _ (List.mem_append_right _ (mem_pinsAt hb e)))).1, fun b hb => ?_, w7⟩
      obtain ⟨o, e, d⟩ := T.obj _ _ st5 b hb
      exact (I7.pin (b, o) (List.mem_append_right _ (List.mem_append_right _ (mem_pinsAt hb e)))).2.1
    match f, q7 with
    | .next, ⟨σ7, H7, I7, n7⟩ => exact again I7 n7
    | .cont, ⟨σ7, H7, I7, n7⟩ => exact again I7 n7
    | .brk, ⟨σ7, H7, I7, q7⟩ => exact ⟨σ7, H7, I7.unpinned, q7⟩
    | .ret v, ⟨x7, σ7, H7, I7, r7, q7⟩ => exact ⟨x7, σ7, H7, I7.unpinned, r7, q7⟩
end

def RawAt (X : Cx) (x : Str) (u : Value) (s : Shared) : Prop := ∃ m, s.heap.Ns X.env.locals m ∧ m x = some u
section
variable {n : Nat} {X : Cx} {pins : List (Addr × Obj)} {σ : L2.St} {H : Hp} {s : Shared}
theorem raw_at {x : Str} {u : Value} {pos : Pos} {Q E : Value → Shared → Prop} (I : Inv X pins σ H s) (hk : X.env.scope.names.lookup x = some .local) (r : RawAt X x u s) (fin : Q u s) (hd : (x == ("__debug__" : Str)) = false := by decide) :
    wpAny (model X.prog X.w) X.A (eval (.Name x pos) X.env) Q E s := by
  obtain ⟨m, hn, hm⟩ := r
  exact wpAny_Name (wpAny_loadName_local I.ok.kind hk hn hm fin) hd

theorem store_raw {M : Model} {A : Around} {E : Value → Shared → Prop} {i : Nat} {x : Str} {v : V} {u : Value} {Q : Unit → Shared → Prop} (I : Inv X pins σ H s) (hN : X.N.Nodup) (hi : X.N[i]? = some x) (hk : X.env.scope.names.lookup x = some .local) (r : RelV v u)
    (h : ∀ s', Inv X pins (σ.set i (some v)) H s' → RawAt X x u s' → Q () s') : wpAny M A (storeName X.env x u) Q E s := by
  obtain ⟨m, hn, hl⟩ := id I.loc
  have cne := I.cne
  have old : ∀ {b : Addr} {o : Obj}, X.s_0.heap.get? b = some o → b ≠ X.env.locals := fun e => Nat.ne_of_lt (Nat.lt_of_lt_of_le (Heap.lt_size e) I.ok.above)
  refine wpAny_storeName_local hk hn (fun h' hn' hs => ?_) (by rw [I.ok.kind]; rfl)
  refine h _ { ok := I.ok, os := I.os, bare := I.bare, base := ?_, loc := ⟨_, hn', ?_⟩, cell := ?_, free := I.free, freeC := I.freeC, pin := ?_, hok := ?_, len := by simpa using I.len } ⟨_, hn', by simp⟩
  · refine ⟨fun b o e z hb hx => (hs.2 b (old e)).trans (I.base.keep b o e z hb hx), fun b o e z hb hx => ?_, I.base.free, fun b o e hx => ?_, I.base.tups, I.base.frzs, I.base.tbls⟩
    · obtain ⟨sl, e1⟩ := I.base.slot b o e z hb hx
      exact ⟨sl, (hs.2 b (old e)).trans e1⟩
    · obtain ⟨o', e1⟩ := I.base.there b o e hx
      exact ⟨o', (hs.2 b (old e)).trans e1⟩
  · intro j y v' e1 e2 e3
    by_cases hj : j = i
    · subst hj
      rw [hi] at e1; cases e1
      rw [List.getElem?_set_self (by rw [I.len]; exact (List.getElem?_eq_some_iff.mp hi).1)] at e2
      cases e2
      exact ⟨u, r, .inl ⟨hk, by simp⟩⟩
    · rw [List.getElem?_set_ne (Ne.symm hj)] at e2
      obtain ⟨u', r', q⟩ := hl j y v' e1 e2 e3
      refine ⟨u', r', q.elim (fun z => .inl ⟨z.1, ?_⟩) fun z => .inr ?_⟩
      · have : y ≠ x := fun e => hj (nodup_ix hN e1 (e ▸ hi))
        simp [this, z.2]
      · obtain ⟨k, c, e, z⟩ := z
        exact ⟨k, c, e, z.sameBut hs (cne y c e)⟩
  · intro y c e
    obtain ⟨w', z⟩ := I.cell y c e
    exact ⟨w', z.sameBut hs (cne y c e)⟩
  · intro p hp
    obtain ⟨e, z, ne, nf, d⟩ := I.pin p hp
    exact ⟨(hs.2 p.1 ne).trans e, z, ne, nf, d⟩
  · intro b ob e
    refine (I.hok b ob e).stay (fun c w' hc q => (hs.2 c ?_).trans q) (fun _ q => q) fun _ _ q => q
    rintro rfl
    rcases hc with rfl | hc
    · rw [I.free] at e; cases e
    · rw [I.free] at hc; cases hc
end


def tForK (i : Nat) (vs : List V) (tb : V → TS) : TS := fun D σ H => ∃ W : Nat → L2.St → Hp → Prop, W 0 σ H ∧
  (∀ j v σ' H', vs[j]? = some v → W j σ' H' → tb v { D with nx := W (j + 1), ct := W (j + 1), bk := D.nx } (σ'.set i (some v)) H') ∧ ∀ σ' H', W vs.length σ' H' → D.nx σ' H'
theorem psn_forK {n : Nat} {X : Cx} {x : Str} {iter : Expr} {body : List Stmt} {tb : V → TS} {p pos : Pos} {i m : Nat} {r : Addr} {d : Option Addr} {its : Array Value} {sl : Array (Option Value)} {vs : List V}
    (hp : PassesOwn (model X.prog X.w) X.A X.env X.xe) (hc : X.calm = true) (hN : X.N.Nodup) (hi : X.N[i]? = some x) (hk : X.env.scope.names.lookup x = some .local)
    (hit : PE X iter (tC (.ref r))) (hr : X.K.lookup r = some ⟨.type "tuple", d, .seq its m, sl⟩) (hv : Vals vs its.toList)
    (hb : ∀ (j : Nat) (v : V) (u : Value), vs[j]? = some v → its[j]? = some u → ∀ (pins : List (Addr × Obj)) (s : Shared) (σ : L2.St) (H : Hp) (D : Ends), n ≤ s.toks → Inv X pins σ H s → RawAt X x u s → tb v D σ H → wpAny (model X.prog X.w) X.A (execs body X.env) (SP X pins D) X.xe s)
    (hs : ∀ z, foldedSetIterable iter X.env z = pure z := by intro _; rfl) : PSn n X (.For (.Name x p) iter body [] pos) (tForK i vs tb) := by
  refine ⟨fun pins s σ H D hn I h => ?_⟩
  obtain ⟨W, w0, step, fin⟩ := h
  refine wpAny_For (thnK hn (hit.run pins s σ H (fun y H1 => y = .ref r ∧ H1 = H) I ⟨rfl, rfl⟩) fun v s1 hn1 h1 => ?_) hs
  obtain ⟨y, H1, I1, r1, rfl, rfl⟩ := h1
  cases r1
  have isT : s1.heap.IsTuple r its := ⟨_, I1.kIn r _ hr, rfl, _, rfl⟩
  have f2 := I1.fpOk (H' := H1) (Nat.le_refl _) (I1.hok.fresh (Nat.le_refl _))
  have I2 : Inv X pins σ H1 { s1 with heap := s1.heap.push ({ cls := .type "tuple_iterator", data := .fields #[.ref r, .int 0 0] } : Obj), toks := s1.toks } := I1.kept (t' := s1.toks) fun b o e => Heap.get?_push_of_some _ e
  refine wpAny_pyIter_tuple isT ?_
  have len : vs.length = its.size := by rw [hv.length, Array.length_toList]
  generalize eit : s1.heap.objs.size = it at f2
  have stat : ∀ {H' : Hp}, H' it = none → FpOk X pins H' it := fun z => ⟨z, f2.2⟩
  refine codeAny_forLoop_any (fun k s' => n ≤ s'.toks ∧ ∃ j σ' H', k + j = vs.length ∧ Inv X pins σ' H' s' ∧ s'.heap.IsTupleIter it r j ∧ H' it = none ∧ W j σ' H') ?_ vs.length
    ⟨hn1, 0, σ, H1, rfl, I2, ⟨_, by rw [← eit]; exact Heap.get?_push_size _ rfl, rfl, rfl⟩, f2.1, w0⟩
  rintro k s3 ⟨hn3, j, σ3, H3, hkj, I3, st3, fr3, w3⟩
  have isT3 : s3.heap.IsTuple r its := ⟨_, I3.kIn r _ hr, rfl, _, rfl⟩
  obtain ⟨f0, f1, fz, f3, f4, f5⟩ := stat fr3
  cases k with
  | zero =>
    have hj : j = vs.length := by omega
    refine wpAny_passesOwn hp (wpAny_pyNext_tuple_end (I3.ok.hd hc) st3 isT3 (by rw [hj, len]; simp) fun h' eb => ?_)
    have I4 : Inv X pins σ3 H3 { s3 with heap := h' } := I3.turned (t' := s3.toks) (fun b o hb e => eb b o hb e) f0 f1 f3 f4 f5
    exact wpAny_execs_nil ⟨σ3, H3, I4, fin σ3 H3 (hj ▸ w3)⟩
  | succ k =>
    obtain ⟨v, ev⟩ : ∃ v, vs[j]? = some v := ⟨vs[j]'(by omega), List.getElem?_eq_getElem _⟩
    obtain ⟨u, eu, ru⟩ := hv.get ev
    have eu : its[j]? = some u := by simpa using eu
    refine wpAny_passesOwn hp (wpAny_pyNext_tuple_item st3 isT3 eu fun h' st' sb => ?_)
    have I4 : Inv X pins σ3 H3 { s3 with heap := h' } := I3.turned (t' := s3.toks) (fun b o hb e => (sb.2 b hb).trans e) f0 f1 f3 f4 f5
    obtain ⟨oi, ei, ci, di⟩ := id st'
    refine wpAny_passesOwn hp (go_of (s := { s3 with heap := h' }) ei ci di (by decide) ?_)
    have I5 := I4.pinned (fp := [it]) (fun b hb => by obtain rfl := List.mem_singleton.mp hb; exact stat fr3) (fun b hb => by obtain rfl := List.mem_singleton.mp hb; exact ⟨oi, ei, fun v z => by rw [di] at z; cases z⟩)
    refine wpAny_passesOwn hp (wpAny_assign_Name (PySem.wpAny_with_toks (n := n) hn3 (store_raw I5 hN hi hk ru fun s6 I6 ra hn6 => ?_)))
    refine wpAny_passesOwn hp (thnK hn6 (hb j v u ev eu _ s6 _ H3 _ hn6 I6 ra (step j v σ3 H3 ev w3)) fun f s7 hn7 q7 => ?_)
    have again : ∀ {σ7 : L2.St} {H7 : Hp}, Inv X (pins ++ pinsAt [it] h') σ7 H7 s7 → W (j + 1) σ7 H7 → ∃ m, m < k + 1 ∧ (n ≤ s7.toks ∧ ∃ j σ' H', m + j = vs.length ∧ Inv X pins σ' H' s7 ∧ s7.heap.IsTupleIter it r j ∧ H' it = none ∧ W j σ' H') := fun {σ7 H7} I7 w7 => by
      have pin := I7.pin (it, oi) (List.mem_append_right _ (List.mem_append_right _ (mem_pinsAt (List.mem_singleton.mpr rfl) ei)))
      exact ⟨k, Nat.lt_succ_self k, hn7, j + 1, σ7, H7, by omega, I7.unpinned, ⟨oi, pin.1, ci, di⟩, pin.2.1, w7⟩
    match f, q7 with
    | .next, ⟨σ7, H7, I7, n7⟩ => exact again I7 n7
    | .cont, ⟨σ7, H7, I7, n7⟩ => exact again I7 n7
    | .brk, ⟨σ7, H7, I7, q7⟩ => exact ⟨σ7, H7, I7.unpinned, q7⟩
    | .ret v, ⟨x7, σ7, H7, I7, r7, q7⟩ => exact ⟨x7, σ7, H7, I7.unpinned, r7, q7⟩

section
variable {n : Nat} {X : Cx} {o : Expr} {to : TE}

def tRepL (y z : Str) (to : TE) : TE := fun σ H Q => to σ H fun v H1 => ∃ x, v = .str x ∧ x.length + (x.length + 1) * z.length ≤ 16777216 ∧ Q (.str (Txt.replace x y z)) H1
theorem pen_replL {y z : Str} {j0 j1 : Nat} {c0 c1 apos pos : Pos} (he : PE X o to) (hyz : (y == z) = false := by decide)
    (hst : starEach [.Constant (.str y) j0 c0, .Constant (.str z) j1 c1] X.env = [(false, eval (.Constant (.str y) j0 c0) X.env), (false, eval (.Constant (.str z) j1 c1) X.env)] := by rfl)
    (hbase : attributeBase o "replace" X.env (eval o X.env) = eval o X.env := by rfl) (hline : (apos.endLine == pos.line) = true := by rfl) :
    PEn 1 X (.Call (.Attribute o "replace" apos) [.Constant (.str y) j0 c0, .Constant (.str z) j1 c1] [] pos) (tRepL y z to) := by
  refine ⟨fun pins s σ H Q hn I h => ?_⟩
  refine PySem.Call_method2 hbase hst hline (thnK hn (he.run pins s σ H _ I h) fun v s1 hn1 h1 => ?_)
  obtain ⟨vx, H1, I1, r1, x, rfl, hb, q⟩ := h1
  obtain ⟨tx, rfl⟩ := r1
  refine ⟨"str", _, F.plainAttrs_str, F.slot_str_replace, F.type_str_replace, typeIs_str _ _ _, (fun _ e => nomatch e), Calls.callWith_builtin rfl (Calls.evalArgs_plain (Calls.spliced_cons (Calls.Constant_str (Calls.spliced_cons (Calls.Constant_str (Calls.spliced_nil ?_))))))⟩
  exact PySem.SC.replace (show s1.toks ≠ 0 by omega) (show s1.toks + 1 ≠ 0 by omega) (show s1.toks ≠ s1.toks + 1 by omega) hyz hb fun t' k => ⟨.str (Txt.replace x y z), H1, I1.tok k, ⟨t', rfl⟩, q⟩

theorem joined_raw {v1 v2 : Expr} {rest : List Expr} {ts : List TE} {pos : Pos} (h : PJ X (v1 :: v2 :: rest) ts) {pins : List (Addr × Obj)} {s : Shared} {σ : L2.St} {H : Hp} {Q : Str → Hp → Prop} (hn : n ≤ s.toks) (I : Inv X pins σ H s) (q : tJs ts Str.empty σ H Q) :
    wpAny (model X.prog X.w) X.A (eval (.JoinedStr (v1 :: v2 :: rest) pos) X.env) (fun v s' => ∃ z t H1, v = .str z t ∧ n ≤ t + 1 ∧ Inv X pins σ H1 s' ∧ Q z H1) X.xe s := by
  have w : wpAny (model X.prog X.w) X.A (eval (.JoinedStr (v1 :: v2 :: rest) pos) X.env) (fun v s' => ∃ z t H1, v = .str z t ∧ s'.toks = t + 1 ∧ Inv X pins σ H1 s' ∧ Q z H1) X.xe s :=
    wpAny_JoinedStr (pj_run h Str.empty s H Q _ (Nat.zero_le _) I q fun out s1 H1 hz I1 q1 => ⟨hz, out, s1.toks, H1, rfl, rfl, I1.tok _, q1⟩)
  exact thnK hn w fun v s' hk ⟨z, t, H1, e, et, I1, q1⟩ => ⟨z, t, H1, e, by omega, I1, q1⟩

def tRepS (i : Nat) (y : Str) (ts : List TE) : TE := fun σ H Q => ∃ x, σ[i]? = some (some (.str x)) ∧ tJs ts Str.empty σ H fun z H1 => (y == z) = false ∧ x.length + (x.length + 1) * z.length ≤ 16777216 ∧ Q (.str (Txt.replace x y z)) H1
theorem replS {i : Nat} {kx kt : Str} {y : Str} {t : Tok} {v1 v2 : Expr} {rest : List Expr} {ts : List TE} {p1 p2 fpos apos pos : Pos} {pins : List (Addr × Obj)} {s : Shared} {σ : L2.St} {H : Hp} {Q : VK}
    (hNt : X.N[i]? = some kt) (hvt : Vis X.env.scope kt) (hk : X.env.scope.names.lookup kx = some .local) (hj : PJ X (v1 :: v2 :: rest) ts) (hn : n ≤ s.toks) (I : Inv X pins σ H s) (ra : RawAt X kx (.str y t) s) (ht : t ≠ 0) (htn : t + 1 < n) (h : tRepS i y ts σ H Q)
    (hd : (kx == ("__debug__" : Str)) = false := by decide) (hdt : (kt == ("__debug__" : Str)) = false := by decide) (hct : (kt == ("__classdict__" : Str)) = false := by decide)
    (hst : starEach [.Name kx p2, .JoinedStr (v1 :: v2 :: rest) fpos] X.env = [(false, eval (.Name kx p2) X.env), (false, eval (.JoinedStr (v1 :: v2 :: rest) fpos) X.env)] := by rfl)
    (hbase : attributeBase (.Name kt p1) "replace" X.env (eval (.Name kt p1) X.env) = eval (.Name kt p1) X.env := by rfl) (hline : (apos.endLine == pos.line) = true := by rfl) :
    wpAny (model X.prog X.w) X.A (eval (.Call (.Attribute (.Name kt p1) "replace" apos) [.Name kx p2, .JoinedStr (v1 :: v2 :: rest) fpos] [] pos) X.env) (EP X pins σ Q) X.xe s := by
  obtain ⟨x, hx, q⟩ := h
  refine PySem.Call_method2 hbase hst hline (raw_name hNt hvt I hx (fun v r => ?_) hdt hct)
  obtain ⟨tx, rfl⟩ := r
  refine ⟨"str", _, F.plainAttrs_str, F.slot_str_replace, F.type_str_replace, typeIs_str _ _ _, (fun _ e => nomatch e), Calls.callWith_builtin rfl (Calls.evalArgs_plain (Calls.spliced_cons (raw_at I hk ra ?_ hd)))⟩
  refine Calls.spliced_cons (thn (joined_raw (pos := fpos) hj hn I q) fun v s2 hh => ?_)
  obtain ⟨z, t', H1, rfl, hk', I1, hyz, hb, q1⟩ := hh
  refine Calls.spliced_nil (PySem.SC.replace ht (fun e => Nat.not_lt_zero t (Nat.lt_of_succ_lt_succ (Nat.lt_of_lt_of_le htn (show n ≤ 0 + 1 from e ▸ hk')))) (fun e => Nat.lt_irrefl _ (Nat.lt_of_lt_of_le htn (show n ≤ t + 1 by rw [e]; exact hk'))) hyz hb fun t2 k => ⟨.str (Txt.replace x y z), H1, I1.tok k, ⟨t2, rfl⟩, q1⟩)
end
end My
set_option Elab.async false
set_option linter.all false
set_option maxRecDepth 100000

namespace My
open PySem PySem.Spec PyProof.Rows L2

theorem replace_len3 (x y z : Str) (hy1 : y.length = 1) (hz : z.length = 3) : (Txt.replace x y z).length ≤ 3 * x.length := by
  unfold Txt.replace
  split
  · omega
  · have hy : (Builtin.Str.glued y (Builtin.Str.partsBetween x (Builtin.Str.occurrences x y 0 x.length (x.length + 1)) y.length)).length = x.length := by rw [StrLaws.glued_between_self]
    rw [size_glued, length_partsBetween, Nat.add_sub_cancel] at hy
    rw [size_glued, length_partsBetween, Nat.add_sub_cancel, hz]
    rw [hy1] at hy ⊢
    omega

def spacedBy (signs : List Str) (x : Str) : Str := signs.foldl (fun x y => Txt.replace x y (Str.empty ++ " " ++ y ++ " ")) x
def signsOf : List Str := ["|", "^", "&", "-", "@", "(", ")", ","]
theorem spaced_len : ∀ (signs : List Str) (x : Str), (∀ y ∈ signs, y.length = 1) → (spacedBy signs x).length ≤ 3 ^ signs.length * x.length
  | [], x, _ => by show x.length ≤ 1 * x.length; omega
  | y :: signs, x, h => by
    have a := spaced_len signs (Txt.replace x y (Str.empty ++ " " ++ y ++ " ")) fun z hz => h z (List.mem_cons_of_mem _ hz)
    have hy := h y List.mem_cons_self
    have b := replace_len3 x y (Str.empty ++ " " ++ y ++ " ") hy (by rw [Str.length_append, Str.length_append, Str.length_append, hy]; rfl)
    show (spacedBy signs (Txt.replace x y (Str.empty ++ " " ++ y ++ " "))).length ≤ 3 ^ (signs.length + 1) * x.length
    rw [Nat.pow_succ, Nat.mul_assoc]
    exact Nat.le_trans a (Nat.mul_le_mul_left _ b)
theorem spaced_snoc (signs : List Str) (y x : Str) : spacedBy (signs ++ [y]) x = Txt.replace (spacedBy signs x) y (Str.empty ++ " " ++ y ++ " ") := by
  unfold spacedBy
  rw [List.foldl_append]
  rfl
def tokensOf (x : Str) : List Str := (Txt.split (spacedBy signsOf x) " ").filter fun t => ((t.length : Int) != 0)
def spSplit : Sp := fun vs H Q _ => ∃ x : Str, vs = [.str x] ∧ x.length ≤ 1900 ∧ ∀ p H', Same H H' → H p = none → H' p = some (.lst ((tokensOf x).map V.str)) → Q (.ref p) H'
section
variable {n : Nat} {X : Cx}

theorem replS_asg {i : Nat} {kx kt : Str} {y : Str} {t : Tok} {v1 v2 : Expr} {rest : List Expr} {ts : List TE} {p1 p2 p0 fpos apos pos pos' : Pos} {pins : List (Addr × Obj)} {s : Shared} {σ : L2.St} {H : Hp} {D : Ends}
    (hN : X.N.Nodup) (hNt : X.N[i]? = some kt) (hvt : Loc X.env.scope kt) (hk : X.env.scope.names.lookup kx = some .local) (hj : PJ X (v1 :: v2 :: rest) ts) (hn : n ≤ s.toks) (I : Inv X pins σ H s) (ra : RawAt X kx (.str y t) s) (ht : t ≠ 0) (htn : t + 1 < n)
    (h : tRepS i y ts σ H fun z H1 => D.nx (σ.set i (some z)) H1)
    (hd : (kx == ("__debug__" : Str)) = false := by decide) (hdt : (kt == ("__debug__" : Str)) = false := by decide) (hct : (kt == ("__classdict__" : Str)) = false := by decide)
    (hst : starEach [.Name kx p2, .JoinedStr (v1 :: v2 :: rest) fpos] X.env = [(false, eval (.Name kx p2) X.env), (false, eval (.JoinedStr (v1 :: v2 :: rest) fpos) X.env)] := by rfl)
    (hbase : attributeBase (.Name kt p1) "replace" X.env (eval (.Name kt p1) X.env) = eval (.Name kt p1) X.env := by rfl) (hline : (apos.endLine == pos.line) = true := by rfl)
    (hs : swapsWith (.Call (.Attribute (.Name kt p1) "replace" apos) [.Name kx p2, .JoinedStr (v1 :: v2 :: rest) fpos] [] pos) (some (.Name kt p0)) pos'.line X.env = pure false := by rfl)
    (hf : X.fn kt = true ∨ X.env.scope.names.lookup kt = some .local := by first | exact .inl rfl | exact .inr rfl | assumption) :
    wpAny (model X.prog X.w) X.A (execs [.Assign [.Name kt p0] (.Call (.Attribute (.Name kt p1) "replace" apos) [.Name kx p2, .JoinedStr (v1 :: v2 :: rest) fpos] [] pos) pos'] X.env) (SP X pins D) X.xe s := by
  refine wpAny_execs_cons (wpAny_Assign_Name (thn (replS hNt (hvt.elim .inl fun z => .inr (.inl z)) hk hj hn I ra ht htn h hd hdt hct hst hbase hline) fun v s1 hh => ?_) hs)
  obtain ⟨z, H1, I1, r1, q1⟩ := hh
  exact store_ok I1 hN hNt hvt r1 (fun s2 I2 => wpAny_execs_nil ⟨_, H1, I2, q1⟩) hf
end
theorem tokens_ne {x t : Str} (h : t ∈ tokensOf x) : t ≠ "" := fun e => by
  subst e
  have := (List.mem_filter.mp h).2
  revert this
  decide

def tWord (i : Nat) : TT := fun σ H Q => ∃ y : Str, σ[i]? = some (some (.str y)) ∧ y.length ≤ sizeLine ∧ Q ((y.length : Int) != 0) H
theorem pts_word {X : Cx} {i : Nat} {x : Str} {p : Pos} (hN : X.N[i]? = some x) (hv : Vis X.env.scope x) (hd : (x == ("__debug__" : Str)) = false := by decide) (hcd : (x == ("__classdict__" : Str)) = false := by decide) : PTs X [.Name x p] (tWord i) := by
  refine pts_one ⟨fun pins s σ H Q I h => ?_⟩
  obtain ⟨y, hy, hz, q⟩ := h
  exact (pt_truth (pe_var (pos := p) hN hv hd hcd) (fun _ => rfl)).run pins s σ H Q I ⟨.str y, hy, _, ⟨hz, rfl⟩, q⟩

theorem lc_big {α : Type} {J : It} {n : Nat} {G : Hp → Prop} {Y : Nat → Hp → V → Hp → Prop} (w : Walk J n G Y) {g : TG} {tt : TT} {te : TE} {vs : List Nat} {σ : L2.St} {H1 : Hp} {D : Addr} {Qd : Hp → Prop}
    (as : List α) (F : α → Option V) (hn : as.length = n) (hsz : n < sizeLine) (hD : H1 D = none) (hG : ∀ H2, Same H1 H2 → G H2)
    (hs : ∀ (i : Nat) (a : α) (x : V) (H H' : Hp) (R : Option V → Hp → Prop), as[i]? = some a → Same H1 H → Y i H x H' → (∀ H2, Same H H2 → R (F a) H2) →
      g x (wipe σ vs) H' fun σ2 H2 => wipe σ2 vs = wipe σ vs ∧ tt σ2 H2 fun b H3 => if b = true then te σ2 H3 fun y H4 => R (some y) H4 else R none H3)
    (hd : ∀ H2, Same H1 H2 → H2 D = some (.lst (as.filterMap F)) → Qd H2) :
    ∃ W : Nat → Nat → Hp → Prop, (∃ m, W 0 m (upd H1 D (.lst []))) ∧ ∀ i m H, W i m H →
      (J.stop i H ∧ Qd H) ∨ (J.go i H ∧ ∃ Nx : Hp → Prop, (∀ H', Nx H' → ∃ m', m' < m ∧ W (i + 1) m' H') ∧ ∀ x H', J.yld i H x H' → g x (wipe σ vs) H' fun σ2 H2 => wipe σ2 vs = wipe σ vs ∧ tt σ2 H2 fun b H3 =>
        if b = true then te σ2 H3 fun y H4 => ∃ acc, H4 D = some (.lst acc) ∧ acc.length < sizeLine ∧ Nx (upd H4 D (.lst (acc ++ [y]))) else Nx H3) := by
  refine lc_it w (fun i H => Same H1 H ∧ H D = some (.lst ((as.take i).filterMap F))) ⟨same_new hD, upd_same⟩ (fun i H _ p => hG H p.1) ?_
    (fun H p => hd H p.1 (by rw [p.2, ← hn, List.take_length]))
  intro i x H H' hi p y
  obtain ⟨s, hd'⟩ := p
  have hlt : i < as.length := by omega
  have ha : as[i]? = some as[i] := List.getElem?_eq_getElem hlt
  have et : (as.take (i + 1)).filterMap F = (as.take i).filterMap F ++ (F as[i]).toList := by
    rw [List.take_add_one, ha, List.filterMap_append]
    cases q : F as[i] with
    | none => simp [q]
    | some z => simp [q]
  refine hs i as[i] x H H' (fun o H4 => match o with
    | some y => ∃ acc, H4 D = some (.lst acc) ∧ acc.length < sizeLine ∧ (Same H1 (upd H4 D (.lst (acc ++ [y]))) ∧ upd H4 D (.lst (acc ++ [y])) D = some (.lst ((as.take (i + 1)).filterMap F)))
    | none => Same H1 H4 ∧ H4 D = some (.lst ((as.take (i + 1)).filterMap F))) ha s y ?_
  intro H2 s2
  cases q : F as[i] with
  | none =>
    refine ⟨s.trans s2, ?_⟩
    rw [et, q]
    simpa using s2 _ _ hd'
  | some z =>
    refine ⟨_, s2 _ _ hd', ?_, fun b o e => (upd_ne (ne_of_none e hD)).trans ((s.trans s2) b o e), ?_⟩
    · refine Nat.lt_of_le_of_lt (Nat.le_trans (List.length_filterMap_le _ _) ?_) hsz
      rw [List.length_take]
      omega
    · rw [upd_same, et, q]
      rfl
theorem spaced_fit {x : Str} (hx : x.length ≤ 1900) (j : Nat) (hj : j ≤ 8) : (spacedBy (signsOf.take j) x).length ≤ 3 ^ j * 1900 := by
  have a := spaced_len (signsOf.take j) x fun y hy => by
    have : ∀ y ∈ signsOf, y.length = 1 := by decide
    exact this y (List.mem_of_mem_take hy)
  have e : (signsOf.take j).length = j := by rw [List.length_take]; exact Nat.min_eq_left hj
  rw [e] at a
  exact Nat.le_trans a (Nat.mul_le_mul_left _ hx)
theorem spaced_step {x y : Str} {j : Nat} (e : signsOf[j]? = some y) : spacedBy (signsOf.take (j + 1)) x = Txt.replace (spacedBy (signsOf.take j) x) y (Str.empty ++ " " ++ y ++ " ") := by
  rw [List.take_add_one, e]
  exact spaced_snoc _ _ _
theorem pow3 {j : Nat} (h : j ≤ 7) : 3 ^ j ≤ 2187 := Nat.pow_le_pow_right (by decide : 0 < 3) h
theorem tokens_fm (x : Str) : (Txt.split (spacedBy signsOf x) " ").filterMap (fun t => if ((t.length : Int) != 0) = true then some (V.str t) else none) = (tokensOf x).map V.str := by
  unfold tokensOf
  generalize Txt.split (spacedBy signsOf x) " " = l
  induction l with
  | nil => rfl
  | cons t l ih =>
    rw [List.filterMap_cons, List.filter_cons, ih]
    by_cases e : ((t.length : Int) != 0) = true
    · rw [if_pos e, if_pos e]; rfl
    · rw [if_neg e, if_neg e]
end My
set_option Elab.async false
set_option linter.all false
set_option maxRecDepth 100000

namespace My
open PySem PySem.Spec PyProof.Rows L2
structure PWn (n : Nat) (X : Cx) (e : Expr) (t : TT) : Prop where
  run : ∀ (whole : Sem Value) (pins : List (Addr × Obj)) (s : Shared) (σ : L2.St) (H : Hp) (Q : Bool → Hp → Prop), n ≤ s.toks → Inv X pins σ H s → t σ H Q → wpAny (model X.prog X.w) X.A (isTrue e X.env whole) (TP X pins σ Q) X.xe s
section
variable {n m : Nat} {X : Cx} {a b e : Expr} {rest es : List Expr} {tA tB' : TT} {te : TE} {ta : TA} {pos p : Pos}
theorem PWn.pt (h : PWn n X e tA) : PTn n X e tA := ⟨h.run _⟩
theorem PEn.le (h : PEn n X e te) (l : n ≤ m) : PEn m X e te := ⟨fun pins s σ H Q hm => h.run pins s σ H Q (Nat.le_trans l hm)⟩
theorem FnT.le {P : Program} {w : World} {K : PySem.W.Frag} {mg : Str → Option Value} {base : Heap} {CX : CXT} {k : Nat} {f : Addr} {fd : FuncData} {ps : List Str} {sp : Sp} (F : FnT n P w K mg base CX k f fd ps sp) (l : n ≤ m) : FnT m P w K mg base CX k f fd ps sp :=
  ⟨F.len, fun A outer s H args us vs Q E hm => F.run A outer s H args us vs Q E (Nat.le_trans l hm)⟩
theorem FnT.mono {P : Program} {w : World} {K : PySem.W.Frag} {mg : Str → Option Value} {base : Heap} {CX : CXT} {j k : Nat} {f : Addr} {fd : FuncData} {ps : List Str} {sp : Sp} (F : FnT n P w K mg base CX j f fd ps sp) (h : j ≤ k) : FnT n P w K mg base CX k f fd ps sp :=
  ⟨F.len, fun A outer s H args us vs Q E hn hr => F.run A outer s H args us vs Q E hn (hr.mono h)⟩
theorem pwn_and1 (ha : PTn n X a tA) : PWn n X (.BoolOp .And [a] pos) tA := by
  refine ⟨fun wh pins s σ H Q hn I h => isTrue_and (thn (ha.run pins s σ H Q hn I h) fun c s1 e => ?_)⟩
  cases c with
  | true => exact isTrue_and_nil e
  | false => exact e
theorem pwn_or1 (ha : PTn n X a tA) : PWn n X (.BoolOp .Or [a] pos) tA := by
  refine ⟨fun wh pins s σ H Q hn I h => isTrue_or (thn (ha.run pins s σ H Q hn I h) fun c s1 e => ?_)⟩
  cases c with
  | false => exact isTrue_or_nil e
  | true => exact e
theorem pwn_and (ha : PTn n X a tA) (hb : PWn n X (.BoolOp .And (b :: rest) pos) tB') : PWn n X (.BoolOp .And (a :: b :: rest) pos) (tAnd tA tB') := by
  refine ⟨fun wh pins s σ H Q hn I h => isTrue_and (thnK hn (ha.run pins s σ H _ hn I h) fun c s1 hn1 hh => ?_)⟩
  obtain ⟨H1, I1, q1⟩ := hh
  cases c with
  | true => exact hb.run wh pins s1 σ H1 Q hn1 I1 q1
  | false => exact ⟨H1, I1, q1⟩
theorem pwn_or (ha : PTn n X a tA) (hb : PWn n X (.BoolOp .Or (b :: rest) pos) tB') : PWn n X (.BoolOp .Or (a :: b :: rest) pos) (tOr tA tB') := by
  refine ⟨fun wh pins s σ H Q hn I h => isTrue_or (thnK hn (ha.run pins s σ H _ hn I h) fun c s1 hn1 hh => ?_)⟩
  obtain ⟨H1, I1, q1⟩ := hh
  cases c with
  | true => exact ⟨H1, I1, q1⟩
  | false => exact hb.run wh pins s1 σ H1 Q hn1 I1 q1
theorem ptn_not (ha : PTn n X a tA) : PTn n X (.UnaryOp .Not a pos) (tNot tA) :=
  ⟨fun pins s σ H Q hn I h => isTrue_not (ha.run pins s σ H (fun c H1 => Q (!c) H1) hn I h)⟩
theorem ptn_val (h : PEn n X e te) (he : ∀ whole, isTrue e X.env whole = (do let v ← whole; standAt e.pos; holding [v] (truthy v)) := by intro _; rfl) : PTn n X e (tB te) := by
  refine ⟨fun pins s σ H Q hn I hw => isTrue_plain (thn (h.run pins s σ H _ hn I hw) fun v s1 hh => ?_) (he _)⟩
  obtain ⟨x, H1, I1, r1, d, rfl, q⟩ := hh
  cases r1
  exact wpAny_truthy_bool ⟨H1, I1, q⟩
theorem pen_callB {id : String} {x : Str} {r : List V → Hp → VK → Prop} (hc : CallR X (.builtin id) r) (hg : Gl X x) (hm : X.mg x = none) (hv : bootBuiltins x = some (.builtin id)) (ha : PAn n X (e :: es) ta) (hx : x ≠ "__name__" := by decide) (hdb : (x == ("__debug__" : Str)) = false := by decide)
    (he : starEach (e :: es) X.env = (false, eval e X.env) :: starEach es X.env := by rfl) (hpl : (backTo pos (starEach es X.env)).any (·.1) = false := by rfl) : PEn n X (.Call (.Name x p) (e :: es) [] pos) (tCB r ta) := by
  refine ⟨fun pins s σ H Q hn I h => wpAny_Call_Name_kw (ld_blt I hg hm hv ?_ hx hdb)⟩
  refine PyProof.Rows.callWith_builtin1 (thn (ha.run pos pins s σ H _ hn I h) fun us s1 hh => ?_) he hpl
  obtain ⟨vs, H1, I1, r1, q1⟩ := hh
  exact hc pins s1 σ H1 vs us Q I1 r1 q1
end

def FnTb (n : Nat) (P : Program) (w : World) (K : PySem.W.Frag) (mg : Str → Option Value) (base : Heap) (CX : CXT) (k : Nat) (x : Str) (ps : List Str) (sp : Sp) : Prop :=
  ∃ f fd, mg x = some (.ref f) ∧ FnT n P w K mg base CX k f fd ps sp ∧ PySem.W.keepIn K (.ref f) = true ∧ Binds K fd ps []

def Mk1 (P : Program) (w : World) (K : PySem.W.Frag) (mg : Str → Option Value) (base : Heap) (C : Addr) (k : Nat) (ps : List Str) (sp : Sp) : Prop :=
  ∃ f fd, Mk K C f ∧ FnOk P w K mg base CX0 k f fd ps sp ∧ Binds K fd ps []
section
variable {n : Nat} {X : Cx} {CX : CXT} {k : Nat} {C : Addr} {ps : List Str} {sp : Sp} {E : XK} {x m : Str} {p pos apos : Pos} {e o : Expr} {es : List Expr} {ta : TE} {t : TA}
theorem pen_fn (D : FnTb n X.prog X.w X.K X.mg X.base CX k x ps sp) (hr : Room k X.A) (hg : Gl X x) (hx : Passes CX X E) (ha : PAn n X (e :: es) t)
    (hdb : (x == ("__debug__" : Str)) = false := by decide) (he : starEach (e :: es) X.env = (false, eval e X.env) :: starEach es X.env := by rfl) (hpl : (backTo pos (starEach es X.env)).any (·.1) = false := by rfl) :
    PEn n X (.Call (.Name x p) (e :: es) [] pos) (tCall sp [] E t) := by
  obtain ⟨f, fd, hm, F, kp, b⟩ := D
  exact pen_call F hr hg hm kp b .nil hx ha hdb he hpl
theorem pen_mk1 (D : Mk1 X.prog X.w X.K X.mg X.base C k ps sp) (hr : Room (k + 1) X.A) (hg : Gl X x) (hm : X.mg x = some (.ref C)) (ha : PAn n X (e :: es) t)
    (hdb : (x == ("__debug__" : Str)) = false := by decide) (he : starEach (e :: es) X.env = (false, eval e X.env) :: starEach es X.env := by rfl) (hpl : (backTo pos (starEach es X.env)).any (·.1) = false := by rfl) :
    PEn n X (.Call (.Name x p) (e :: es) [] pos) (tMake C sp [] E0 t) := by
  obtain ⟨f, fd, M, F, b⟩ := D
  exact pen_make (ds := []) M F hr hg hm b .nil pass0 ha hdb he hpl
theorem pen_mtX0 {pl : Sem Bool} (D : MtX X.prog X.w X.K X.mg X.base C m k ps sp) (hr : Room k X.A) (c : Cls X.K C) (hx : Passes (L2.CX X.prog X.w) X E) (he : PEn n X o ta)
    (ht : eval (.Call (.Attribute o m apos) [] [] pos) X.env = (do
      let ov ← eval o X.env
      standAt apos.atName
      let (f, first) ← holding [ov] (getMethod ov m pl)
      callWith pos f first (backTo pos (starEach [] X.env)) (backToKw pos (keywordEach [] X.env))) := by rfl) :
    PEn n X (.Call (.Attribute o m apos) [] [] pos) (tMeth C m sp [] E ta tNil) := by
  obtain ⟨f, fd, h1, h2, h3, F, b⟩ := D
  exact pen_meth0 (ds := []) he c ⟨h1, h2, h3⟩ F hr b .nil hx ht
end


def noSpace (x : Str) : Str := Txt.replace x " " ""
def xd0 : HO := .xd [("place", .int 0)]
def spCheck (CB : Addr) : Sp := fun vs H Q E => ∃ x : Str, vs = [.str x] ∧ x.length ≤ 1900 ∧ ((noSpace x).length ≤ 200 → ∀ H', Same H H' → Q .non H') ∧
  (200 < (noSpace x).length → ∀ e H', Same H H' → H e = none → H' e = some (.xd [("place", .int 0)]) → E (.ref CB) (some e) H')

def legal (x : Str) : Prop := ∀ c ∈ x.cps.toList, c < 0x110000

def Fits (x : Str) : Prop := (tokensOf x).length < 1000 ∧ ∀ t ∈ tokensOf x, sm (.str t)

def readE (x : Str) : Option PyData := if (noSpace x).length ≤ 200 then pE (tokensOf x) else none
def spReadE (K : PySem.W.Frag) (CB : Addr) : Sp := fun vs H Q E => ∃ x : Str, vs = [.str x] ∧ x.length ≤ 1900 ∧ legal x ∧ (∀ d v H', readE x = some d → Same H H' → Dp K H' v d → tre d = true → Q v H') ∧
  (readE x = none → ∀ e H', Same H H' → H e = none → H' e = some (.xd [("place", .int 0)]) → E (.ref CB) (some e) H')
end My
set_option Elab.async false
set_option linter.all false
set_option maxRecDepth 100000

namespace My
open PySem PySem.Spec PyProof.Rows L2

def sp3 (c : Nat) (l : List Nat) : List Nat := l.flatMap fun k => if k = c then [32, c, 32] else [k]
theorem sp3_free (c : Nat) (l : List Nat) (h : c ∉ l) : sp3 c l = l := by
  induction l with
  | nil => rfl
  | cons k r ih =>
    have h1 : ¬ k = c := fun e => h (e ▸ List.mem_cons_self ..)
    have h2 : c ∉ r := fun m => h (List.mem_cons_of_mem _ m)
    unfold sp3 at ih ⊢
    rw [List.flatMap_cons, if_neg h1, ih h2]
    rfl
theorem sp3_append (c : Nat) (a b : List Nat) : sp3 c (a ++ b) = sp3 c a ++ sp3 c b := by
  unfold sp3
  rw [List.flatMap_append]
theorem sp3_join (c : Nat) : ∀ parts : List Str, (∀ p ∈ parts, c ∉ p.cps.toList) → sp3 c (Str.join ⟨#[c]⟩ parts).cps.toList = (Str.join ⟨#[32, c, 32]⟩ parts).cps.toList
  | [], _ => rfl
  | [p], h => sp3_free c _ (h p (List.mem_singleton.mpr rfl))
  | p :: q :: r, h => by
    have ih := sp3_join c (q :: r) fun a ha => h a (List.mem_cons_of_mem _ ha)
    show sp3 c (p ++ ⟨#[c]⟩ ++ Str.join ⟨#[c]⟩ (q :: r)).cps.toList = (p ++ ⟨#[32, c, 32]⟩ ++ Str.join ⟨#[32, c, 32]⟩ (q :: r)).cps.toList
    simp only [Str.cps_append, Array.toList_append]
    rw [sp3_append, sp3_append, ih, sp3_free c _ (h p (List.mem_cons_self ..))]
    show p.cps.toList ++ sp3 c [c] ++ _ = _
    have e : sp3 c [c] = [32, c, 32] := by simp [sp3]
    rw [e]
theorem replace_sp3 (x : Str) (c : Nat) : (Txt.replace x ⟨#[c]⟩ ⟨#[32, c, 32]⟩).cps.toList = sp3 c x.cps.toList := by
  rw [StrLaws.replace_one, ← sp3_join c _ (StrLaws.split_free x c), StrLaws.join_split]
theorem join0 : ∀ parts : List Str, (Str.join ⟨#[]⟩ parts).cps.toList = parts.flatMap fun p => p.cps.toList
  | [] => rfl
  | [p] => by simp [List.flatMap_cons]; rfl
  | p :: q :: r => by
    have ih := join0 (q :: r)
    show (p ++ ⟨#[]⟩ ++ Str.join ⟨#[]⟩ (q :: r)).cps.toList = _
    rw [List.flatMap_cons, ← ih]
    simp only [Str.cps_append, Array.toList_append]
    simp

def signL : List Nat := [124, 94, 38, 45, 64, 40, 41, 44]
theorem signs_eq : signsOf = signL.map fun c => (⟨#[c]⟩ : Str) := by decide +kernel
theorem sign3 (c : Nat) : (Str.empty ++ " " ++ (⟨#[c]⟩ : Str) ++ " " : Str) = ⟨#[32, c, 32]⟩ := by
  show (⟨#[] ++ #[32] ++ #[c] ++ #[32]⟩ : Str) = _
  rfl
theorem spaced_cps : ∀ (cs : List Nat) (x : Str), (spacedBy (cs.map fun c => (⟨#[c]⟩ : Str)) x).cps.toList = cs.foldl (fun l c => sp3 c l) x.cps.toList
  | [], _ => rfl
  | c :: cs, x => by
    rw [List.map_cons, List.foldl_cons]
    show (spacedBy (cs.map fun c => (⟨#[c]⟩ : Str)) (Txt.replace x ⟨#[c]⟩ (Str.empty ++ " " ++ (⟨#[c]⟩ : Str) ++ " "))).cps.toList = _
    rw [spaced_cps cs, sign3, replace_sp3]
theorem sp3_strike (c : Nat) (hc : c ≠ 32) (l : List Nat) : (sp3 c l).filter (· != 32) = l.filter (· != 32) := by
  induction l with
  | nil => rfl
  | cons k r ih =>
    have e : sp3 c (k :: r) = (if k = c then [32, c, 32] else [k]) ++ sp3 c r := rfl
    rw [e, List.filter_append, ih]
    by_cases h : k = c
    · subst h
      rw [if_pos rfl]
      have h2 : (k != 32) = true := by simpa using hc
      simp [List.filter_cons, h2]
    · rw [if_neg h]
      simp only [List.filter_cons, List.filter_nil]
      split <;> rfl
theorem fold_strike : ∀ (cs : List Nat) (l : List Nat), (∀ c ∈ cs, c ≠ 32) → (cs.foldl (fun l c => sp3 c l) l).filter (· != 32) = l.filter (· != 32)
  | [], _, _ => rfl
  | c :: cs, l, h => by
    rw [List.foldl_cons, fold_strike cs _ (fun d hd => h d (List.mem_cons_of_mem _ hd)), sp3_strike c (h c List.mem_cons_self)]

theorem parts_cps (x : Str) : (Txt.split (spacedBy signsOf x) " ").flatMap (fun p => p.cps.toList) = x.cps.toList.filter (· != 32) := by
  have e : (" " : Str) = ⟨#[32]⟩ := rfl
  rw [e, ← join0, ← rem_join 32 _ (StrLaws.split_free _ 32), StrLaws.join_split, signs_eq, spaced_cps, fold_strike _ _ (by decide)]
theorem noSpace_cps (x : Str) : (noSpace x).cps.toList = x.cps.toList.filter (· != 32) := replace_strikes x 32
theorem count_le : ∀ l : List Str, (l.filter fun t => ((t.length : Int) != 0)).length ≤ (l.flatMap fun p => p.cps.toList).length
  | [] => Nat.le_refl _
  | p :: r => by
    have ih := count_le r
    rw [List.flatMap_cons, List.length_append, List.filter_cons]
    split
    · rename_i h
      have h1 : p.length ≠ 0 := by
        intro z
        rw [z] at h
        revert h
        decide
      have h2 : p.cps.toList.length = p.length := by rw [Array.length_toList]; rfl
      rw [List.length_cons]
      omega
    · omega
theorem tokens_len (x : Str) : (tokensOf x).length ≤ (noSpace x).length := by
  have a := count_le (Txt.split (spacedBy signsOf x) " ")
  rw [parts_cps, ← noSpace_cps] at a
  have b : (noSpace x).cps.toList.length = (noSpace x).length := by rw [Array.length_toList]; rfl
  rw [b] at a
  exact a
theorem tokens_cps {x t : Str} (ht : t ∈ tokensOf x) : ∀ c ∈ t.cps.toList, c ∈ x.cps.toList := fun c hc => by
  have h1 := (List.mem_filter.mp ht).1
  have h2 : c ∈ (Txt.split (spacedBy signsOf x) " ").flatMap (fun p => p.cps.toList) := List.mem_flatMap.mpr ⟨t, h1, hc⟩
  rw [parts_cps] at h2
  exact (List.mem_filter.mp h2).1
theorem mem_len : ∀ {l : List Str} {t : Str}, t ∈ l → t.length ≤ (l.flatMap fun p => p.cps.toList).length
  | p :: r, t, h => by
    rw [List.flatMap_cons, List.length_append]
    rcases List.mem_cons.mp h with rfl | h
    · have h2 : t.cps.toList.length = t.length := by rw [Array.length_toList]; rfl
      omega
    · have := mem_len h
      omega
theorem fits_of (x : Str) (hg : legal x) (h : (noSpace x).length ≤ 200) : Fits x := by
  refine ⟨Nat.lt_of_le_of_lt (tokens_len x) (by omega), fun t ht => ?_⟩
  have hl := mem_len (List.mem_filter.mp ht).1
  rw [parts_cps, ← noSpace_cps] at hl
  have b : (noSpace x).cps.toList.length = (noSpace x).length := by rw [Array.length_toList]; rfl
  rw [b] at hl
  refine ⟨?_, .inl ?_⟩
  · show t.length ≤ 100000
    omega
  · show t.cps.all (· < 0x110000) = true
    rw [Array.all_eq_true']
    intro c hc
    simpa using hg c (tokens_cps ht c (by simpa using hc))
end My
set_option Elab.async false
set_option linter.all false
set_option maxRecDepth 100000

namespace My
open PySem PySem.Spec PyProof.Rows L2
def opsL : List Str := ["|", "^", "&", "-", "@"]
def rowHead (x : Str) : Str := (Txt.partition x "=").1
def rowTail (x : Str) : Str := (Txt.partition x "=").2.2
def rowOp (x : Str) : Str := cutS (rowHead x) (some (-1)) none
def rowAnew (x : Str) : Bool := !inV (V.str (rowOp x)) (opsL.map V.str)
def rowName (x : Str) : Str := Txt.stripChars (if rowAnew x then rowHead x else cutS (rowHead x) none (some (-1))) " "
def rowOf (x : Str) (d : PyData) : PyData := if rowAnew x then .tuple [.str (rowName x), d] else .tuple [.str (rowName x), .tuple [.str (rowOp x), .str (rowName x), d]]

def readR (x : Str) : Option PyData := if (noSpace x).length ≤ 200 then (if nameOk (rowName x) then (pE (tokensOf (rowTail x))).map (rowOf x) else none) else none
def spReadR (K : PySem.W.Frag) (CB : Addr) : Sp := fun vs H Q E => ∃ x : Str, vs = [.str x] ∧ x.length ≤ 1900 ∧ legal x ∧ (∀ d v H', readR x = some d → Same H H' → Dp K H' v d → tre d = true → Q v H') ∧
  (readR x = none → ∀ e H', Same H H' → H e = none → H' e = some (.xd [("place", .int 0)]) → E (.ref CB) (some e) H')

def TailFits (x : Str) : Prop := (rowHead x).length ≤ 1900 ∧ (rowTail x).length ≤ 1900 ∧ sm (.str (rowName x)) ∧ Fits (rowTail x)
end My
set_option Elab.async false
set_option linter.all false
set_option maxRecDepth 100000

namespace My
open PySem PySem.Spec PyProof.Rows L2
abbrev letters (x : Str) : List Nat := x.cps.toList
theorem par_sub (S : List Nat) : ∀ (l acc a b : List Nat), TL.par S acc l = some (a, b) → a.Sublist (acc ++ l) ∧ b.Sublist l
  | [], acc, a, b, h => by cases h
  | c :: r, acc, a, b, h => by
    cases hp : TL.pre S (c :: r) with
    | true =>
      rw [TL.par_hit hp] at h
      cases h
      exact ⟨List.sublist_append_left _ _, List.drop_sublist _ _⟩
    | false =>
      rw [TL.par_miss hp] at h
      obtain ⟨h1, h2⟩ := par_sub S r _ _ _ h
      rw [List.append_assoc] at h1
      exact ⟨h1, h2.trans (List.sublist_cons_self _ _)⟩
theorem part_sub (x : Str) : (letters (rowHead x)).Sublist (letters x) ∧ (letters (rowTail x)).Sublist (letters x) := by
  unfold rowHead rowTail
  rw [TL.partition_par x "=" (by decide)]
  cases h : TL.par (TL.tl "=") [] (TL.tl x) with
  | none => exact ⟨List.Sublist.refl _, List.nil_sublist _⟩
  | some p =>
    obtain ⟨a, b⟩ := p
    obtain ⟨h1, h2⟩ := par_sub _ _ _ _ _ h
    exact ⟨by simpa using h1, by simpa using h2⟩
theorem cut_sub (z : Str) (lo hi : Option Int) : (letters (cutS z lo hi)).Sublist (letters z) := by
  show (((z.cps.toList.drop (HT.sIx z.length 0 lo)).take (HT.sIx z.length z.length hi - HT.sIx z.length 0 lo)).toArray).toList.Sublist _
  exact (List.take_sublist _ _).trans (List.drop_sublist _ _)
theorem strip_sub (x y : Str) : (letters (Txt.stripChars x y)).Sublist (letters x) := by
  unfold Txt.stripChars
  rw [stripBy_eq]
  show (x.cps.extract _ _).toList.Sublist _
  rw [Array.toList_extract]
  unfold List.extract
  exact (List.take_sublist _ _).trans (List.drop_sublist _ _)
theorem sub_len {x y : Str} (h : (letters x).Sublist (letters y)) : x.length ≤ y.length := by
  have := h.length_le
  rw [Array.length_toList, Array.length_toList] at this
  exact this
theorem sub_legal {x y : Str} (h : (letters x).Sublist (letters y)) (g : legal y) : legal x := fun c hc => g c (h.subset hc)
theorem sub_space {x y : Str} (h : (letters x).Sublist (letters y)) : (noSpace x).length ≤ (noSpace y).length := by
  refine sub_len ?_
  show (noSpace x).cps.toList.Sublist (noSpace y).cps.toList
  rw [noSpace_cps, noSpace_cps]
  exact h.filter _
theorem sm_str {t : Str} (hl : t.length ≤ 100000) (g : legal t) : sm (.str t) := by
  refine ⟨hl, .inl ?_⟩
  show t.cps.all (· < 0x110000) = true
  rw [Array.all_eq_true']
  intro c hc
  simpa using g c (by simpa using hc)
theorem tail_fits (x : Str) (hx : x.length ≤ 1900) (g : legal x) (h : (noSpace x).length ≤ 200) : TailFits x := by
  obtain ⟨h1, h2⟩ := part_sub x
  have hn : (letters (rowName x)).Sublist (letters x) := by
    unfold rowName
    refine (strip_sub _ _).trans ?_
    split
    · exact h1
    · exact (cut_sub _ _ _).trans h1
  have l1 := sub_len h1
  have l2 := sub_len h2
  have l3 := sub_len hn
  exact ⟨by omega, by omega, sm_str (by omega) (sub_legal hn g), fits_of _ (sub_legal h2 g) (Nat.le_trans (sub_space h2) h)⟩
end My
set_option Elab.async false
set_option linter.all false
set_option maxRecDepth 100000

namespace My
open PySem PySem.Spec PyProof.Rows L2
def flush (acc : List Nat) (l : List (List Nat)) : List (List Nat) := if acc = [] then l else acc :: l

def wl : List Nat → List Nat → List (List Nat)
  | acc, [] => flush acc []
  | acc, c :: r => if c = 32 then flush acc (wl [] r) else if c ∈ signL then flush acc ([c] :: wl [] r) else wl (acc ++ [c]) r
def spread (k : Nat) : List Nat := if k ∈ signL then [32, k, 32] else [k]
theorem fold_append : ∀ (cs a b : List Nat), cs.foldl (fun l c => sp3 c l) (a ++ b) = cs.foldl (fun l c => sp3 c l) a ++ cs.foldl (fun l c => sp3 c l) b
  | [], _, _ => rfl
  | c :: cs, a, b => by
    rw [List.foldl_cons, List.foldl_cons, List.foldl_cons, sp3_append, fold_append cs]
theorem fold_none : ∀ (cs : List Nat) (k : Nat), k ∉ cs → cs.foldl (fun l c => sp3 c l) [k] = [k]
  | [], _, _ => rfl
  | c :: cs, k, h => by
    have h1 : ¬ k = c := fun e => h (e ▸ List.mem_cons_self)
    have e : sp3 c [k] = [k] := by simp [sp3, h1]
    rw [List.foldl_cons, e, fold_none cs k fun m => h (List.mem_cons_of_mem _ m)]
theorem fold_one (k : Nat) : signL.foldl (fun l c => sp3 c l) [k] = spread k := by
  by_cases h : k ∈ signL
  · have : ∀ k ∈ signL, signL.foldl (fun l c => sp3 c l) [k] = [32, k, 32] := by decide
    rw [this k h]
    unfold spread
    rw [if_pos h]
  · rw [fold_none _ _ h]
    unfold spread
    rw [if_neg h]
theorem fold_spread : ∀ l : List Nat, signL.foldl (fun l c => sp3 c l) l = l.flatMap spread
  | [] => by decide
  | k :: r => by
    have e : k :: r = [k] ++ r := rfl
    rw [e, fold_append, fold_one, fold_spread r]
    rfl
theorem spaced_letters (x : Str) : letters (spacedBy signsOf x) = (letters x).flatMap spread := by
  show (spacedBy signsOf x).cps.toList = _
  rw [signs_eq, spaced_cps, fold_spread]
theorem pre32 (c : Nat) (r : List Nat) : TL.pre [32] (c :: r) = decide (c = 32) := by
  show (([c] : List Nat) == [32]) = _
  by_cases h : c = 32
  · subst h; decide
  · rw [decide_eq_false h]
    simpa using h
theorem spl_wl : ∀ (l acc : List Nat), (TL.spl [32] 0 acc (l.flatMap spread)).filter (fun p => !p.isEmpty) = wl acc l
  | [], acc => by
    show ([acc] : List (List Nat)).filter (fun p => !p.isEmpty) = flush acc []
    unfold flush
    cases acc <;> rfl
  | c :: r, acc => by
    have fl : ∀ l : List (List Nat), (acc :: l).filter (fun p => !p.isEmpty) = flush acc (l.filter fun p => !p.isEmpty) := fun l => by
      unfold flush
      cases acc <;> rfl
    rw [List.flatMap_cons]
    unfold wl
    by_cases h : c = 32
    · subst h
      rw [if_pos rfl]
      show (TL.spl [32] 0 acc (32 :: r.flatMap spread)).filter _ = _
      rw [TL.spl_hit (by rw [pre32]; rfl)]
      show (acc :: TL.spl [32] 0 [] (r.flatMap spread)).filter _ = _
      rw [fl, spl_wl r]
    · rw [if_neg h]
      by_cases hs : c ∈ signL
      · rw [if_pos hs]
        have e : spread c = [32, c, 32] := if_pos hs
        rw [e]
        show (TL.spl [32] 0 acc (32 :: c :: 32 :: r.flatMap spread)).filter _ = _
        rw [TL.spl_hit (by rw [pre32]; rfl)]
        show (acc :: TL.spl [32] 0 [] (c :: 32 :: r.flatMap spread)).filter _ = _
        rw [TL.spl_miss (by rw [pre32]; exact decide_eq_false h), TL.spl_hit (by rw [pre32]; rfl)]
        show (acc :: [c] :: TL.spl [32] 0 [] (r.flatMap spread)).filter _ = _
        rw [fl, List.filter_cons, if_pos (show (!([c] : List Nat).isEmpty) = true from rfl), spl_wl r]
      · rw [if_neg hs]
        have e : spread c = [c] := if_neg hs
        rw [e]
        show (TL.spl [32] 0 acc (c :: r.flatMap spread)).filter _ = _
        rw [TL.spl_miss (by rw [pre32]; exact decide_eq_false h), spl_wl r]
theorem tokens_wl (x : Str) : (tokensOf x).map TL.tl = wl [] (letters x) := by
  unfold tokensOf
  have e := TL.split_spl (spacedBy signsOf x) " " (by decide) (TL.kind_ok (by decide +kernel))
  have e2 : TL.tl " " = [32] := rfl
  have e3 : TL.tl (spacedBy signsOf x) = (letters x).flatMap spread := spaced_letters x
  rw [e2, e3] at e
  rw [← spl_wl, ← e, List.filter_map]
  congr 1
  refine List.filter_congr fun t _ => ?_
  show ((t.length : Int) != 0) = !(TL.tl t).isEmpty
  rw [TL.len_tl]
  cases TL.tl t with
  | nil => rfl
  | cons c r =>
    show (((c :: r).length : Int) != 0) = true
    rw [bne_iff_ne]
    intro z
    rw [List.length_cons] at z
    omega
end My
set_option Elab.async false
set_option linter.all false
set_option maxRecDepth 100000

namespace My
open PySem PySem.Spec PyProof.Rows L2

def flat : List (Str × Str) → List Str
  | [] => []
  | p :: r => p.1 :: p.2 :: flat r

def upTo : Nat → Str → Bool
  | 0, _ => false
  | m + 1, o => upTo m o || o == opAt m
def behind (m : Nat) (ps : List (Str × Str)) : List (Str × Str) := ps.dropWhile fun p => upTo m p.1
theorem behind_len (m : Nat) (ps : List (Str × Str)) : (behind m ps).length ≤ ps.length := (List.dropWhile_sublist _).length_le
theorem behind_mem {m : Nat} {ps : List (Str × Str)} {p : Str × Str} (h : p ∈ behind m ps) : p ∈ ps := (List.dropWhile_sublist _).subset h
theorem behind_behind (m : Nat) (ps : List (Str × Str)) : behind (m + 1) (behind m ps) = behind (m + 1) ps := by
  induction ps with
  | nil => rfl
  | cons p r ih =>
    unfold behind at ih ⊢
    by_cases h : upTo m p.1 = true
    · have h2 : upTo (m + 1) p.1 = true := by unfold upTo; rw [h]; rfl
      rw [List.dropWhile_cons, if_pos h, ih, List.dropWhile_cons, if_pos h2]
    · rw [List.dropWhile_cons, if_neg h]
theorem behind_head {m : Nat} {ps : List (Str × Str)} {p : Str × Str} {r : List (Str × Str)} (h : behind m ps = p :: r) : upTo m p.1 = false := by
  induction ps with
  | nil => cases h
  | cons q t ih =>
    unfold behind at h ih
    rw [List.dropWhile_cons] at h
    split at h
    · exact ih h
    · rename_i hq
      cases h
      simpa using hq
theorem loop_chain {m : Nat} {sub : Ps} (hsub : ∀ a ps, nameOk a = true → (∀ p ∈ ps, nameOk p.2 = true) → ∃ d, sub (a :: flat ps) = some (d, flat (behind m ps))) :
    ∀ (k : Nat) (ps : List (Str × Str)) (l : PyData), ps.length ≤ k → (∀ p ∈ ps, nameOk p.2 = true) → ∃ d, pLoop (opAt m) sub k l (flat (behind m ps)) = some (d, flat (behind (m + 1) ps)) := by
  intro k
  induction k with
  | zero =>
    intro ps l hk _
    have e : ps = [] := List.length_eq_zero_iff.mp (Nat.le_zero.mp hk)
    subst e
    exact ⟨l, rfl⟩
  | succ k ih =>
    intro ps l hk hp
    cases hb : behind m ps with
    | nil =>
      refine ⟨l, ?_⟩
      have e := behind_behind m ps
      rw [hb] at e
      rw [← e]
      exact loop_no rfl
    | cons p r =>
      have hm := behind_head hb
      have e := behind_behind m ps
      rw [hb] at e
      have hmem : ∀ q ∈ p :: r, q ∈ ps := fun q hq => behind_mem (m := m) (by rw [hb]; exact hq)
      have hlen := behind_len m ps
      rw [hb, List.length_cons] at hlen
      by_cases ho : p.1 = opAt m
      · have ht : pTok (opAt m) (flat (p :: r)) = some (p.2 :: flat r) := if_pos ho
        obtain ⟨d2, h2⟩ := hsub p.2 r (hp p (hmem p List.mem_cons_self)) fun q hq => hp q (hmem q (List.mem_cons_of_mem _ hq))
        rw [loop_go ht h2]
        have hu : upTo (m + 1) p.1 = true := by unfold upTo; rw [ho]; simp
        have e2 : behind (m + 1) ps = behind (m + 1) r := by
          rw [← e]
          unfold behind
          rw [List.dropWhile_cons, if_pos hu]
        rw [e2]
        exact ih r _ (by omega) fun q hq => hp q (hmem q (List.mem_cons_of_mem _ hq))
      · have ht : pTok (opAt m) (flat (p :: r)) = none := if_neg ho
        rw [loop_no ht]
        have hu : ¬ upTo (m + 1) p.1 = true := by
          unfold upTo
          rw [hm]
          simpa using ho
        refine ⟨l, ?_⟩
        rw [← e]
        unfold behind
        rw [List.dropWhile_cons, if_neg hu]
theorem flat_len : ∀ ps : List (Str × Str), ps.length ≤ (flat ps).length
  | [] => Nat.le_refl _
  | p :: r => by
    have := flat_len r
    show r.length + 1 ≤ (flat r).length + 1 + 1
    omega
theorem loop_more {m : Nat} {sub : Ps} (hsub : ∀ a ps, nameOk a = true → (∀ p ∈ ps, nameOk p.2 = true) → ∃ d, sub (a :: flat ps) = some (d, flat (behind m ps))) (ps : List (Str × Str)) (l : PyData) (hp : ∀ p ∈ ps, nameOk p.2 = true) :
    ∃ d, pLoop (opAt m) sub (flat (behind m ps)).length l (flat (behind m ps)) = some (d, flat (behind (m + 1) ps)) := by
  have hi : behind m (behind m ps) = behind m ps := by
    unfold behind
    cases hb : ps.dropWhile (fun p => upTo m p.1) with
    | nil => rfl
    | cons p r =>
      have := behind_head (m := m) (ps := ps) hb
      rw [List.dropWhile_cons, if_neg (by rw [this]; exact Bool.false_ne_true)]
  have := loop_chain hsub (flat (behind m ps)).length (behind m ps) l (flat_len _) fun p h => hp p (behind_mem h)
  rw [hi, behind_behind] at this
  exact this
theorem lev_chain (inner : Ps) : ∀ (m : Nat) (a : Str) (ps : List (Str × Str)), nameOk a = true → (∀ p ∈ ps, nameOk p.2 = true) → ∃ d, pLev (pSingle inner) m (a :: flat ps) = some (d, flat (behind m ps))
  | 0, a, ps, ha, _ => ⟨.str a, by
    have e : behind 0 ps = ps := by
      unfold behind
      cases ps <;> rfl
    rw [e]
    exact sg_name ha⟩
  | m + 1, a, ps, ha, hp => by
    obtain ⟨d, h⟩ := lev_chain inner m a ps ha hp
    rw [lev_go h]
    exact loop_more (fun b qs hb hq => lev_chain inner m b qs hb hq) ps d hp

theorem chain_read {a : Str} {ps : List (Str × Str)} (ha : nameOk a = true) (hp : ∀ p ∈ ps, nameOk p.2 = true) (ho : ∀ p ∈ ps, upTo 5 p.1 = true) : ∃ d, pE (a :: flat ps) = some d := by
  obtain ⟨d, h⟩ := lev_chain (pIn 8) 5 a ps ha hp
  have e : behind 5 ps = [] := by
    clear h
    unfold behind
    induction ps with
    | nil => rfl
    | cons p r ih =>
      rw [List.dropWhile_cons, if_pos (ho p List.mem_cons_self)]
      exact ih (fun q hq => hp q (List.mem_cons_of_mem _ hq)) fun q hq => ho q (List.mem_cons_of_mem _ hq)
  rw [e] at h
  exact ⟨d, pE_some h⟩
end My
set_option Elab.async false
set_option linter.all false
set_option maxRecDepth 100000

namespace My
open PySem PySem.Spec PyProof.Rows L2

def wordly (w : List Nat) : Prop := ∀ c ∈ w, c ≠ 32 ∧ c ∉ signL
theorem wl_word : ∀ (w acc r : List Nat), wordly w → wl acc (w ++ r) = wl (acc ++ w) r
  | [], acc, r, _ => by rw [List.nil_append, List.append_nil]
  | c :: w, acc, r, h => by
    obtain ⟨h1, h2⟩ := h c List.mem_cons_self
    show wl acc (c :: (w ++ r)) = _
    rw [wl, if_neg h1, if_neg h2, wl_word w (acc ++ [c]) r fun d hd => h d (List.mem_cons_of_mem _ hd), List.append_assoc]
    rfl
theorem sign_ne {c : Nat} (h : c ∈ signL) : c ≠ 32 := fun e => by
  subst e
  revert h
  decide
theorem wl_sign {c : Nat} (h : c ∈ signL) (acc r : List Nat) : wl acc (c :: r) = flush acc ([c] :: wl [] r) := by
  rw [wl, if_neg (sign_ne h), if_pos h]
theorem wl_space (acc r : List Nat) : wl acc (32 :: r) = flush acc (wl [] r) := by
  rw [wl, if_pos rfl]
theorem wl_spaces (k : Nat) (r : List Nat) : wl [] (List.replicate k 32 ++ r) = wl [] r := by
  induction k with
  | zero => rfl
  | succ k ih =>
    show wl [] (32 :: (List.replicate k 32 ++ r)) = _
    rw [wl_space, ih]
    rfl
theorem flush_ne {acc : List Nat} (h : acc ≠ []) (l : List (List Nat)) : flush acc l = acc :: l := if_neg h

theorem wl_gap {acc : List Nat} (h : acc ≠ []) (k : Nat) {c : Nat} (hc : c ∈ signL) (r : List Nat) : wl acc (List.replicate k 32 ++ c :: r) = acc :: [c] :: wl [] r := by
  cases k with
  | zero =>
    show wl acc (c :: r) = _
    rw [wl_sign hc, flush_ne h]
  | succ k =>
    show wl acc (32 :: (List.replicate k 32 ++ c :: r)) = _
    rw [wl_space, wl_spaces, wl_sign hc, flush_ne h]
    rfl

def chainT : List (Nat × Nat × Nat × List Nat) → List Nat
  | [] => []
  | (i, c, j, w) :: r => List.replicate i 32 ++ c :: (List.replicate j 32 ++ (w ++ chainT r))
theorem wl_chain : ∀ (ps : List (Nat × Nat × Nat × List Nat)) (a : List Nat), a ≠ [] → (∀ p ∈ ps, p.2.1 ∈ signL ∧ wordly p.2.2.2 ∧ p.2.2.2 ≠ []) →
    wl a (chainT ps) = a :: (ps.flatMap fun p => [[p.2.1], p.2.2.2])
  | [], a, ha, _ => by
    show wl a [] = _
    rw [wl, flush_ne ha]
    rfl
  | (i, c, j, w) :: r, a, ha, h => by
    obtain ⟨h1, h2, h3⟩ := h _ List.mem_cons_self
    show wl a (List.replicate i 32 ++ c :: (List.replicate j 32 ++ (w ++ chainT r))) = _
    rw [wl_gap ha i h1, wl_spaces, wl_word w [] _ h2, List.nil_append, wl_chain r w h3 fun p hp => h p (List.mem_cons_of_mem _ hp), List.flatMap_cons]
    rfl
end My
set_option Elab.async false
set_option linter.all false
set_option maxRecDepth 100000

namespace My
open PySem PySem.Spec PyProof.Rows L2

def Sing (inner : Ps) (S : List Str) : Prop := ∀ r, ∃ d, pSingle inner (S ++ r) = some (d, r)

def Closed (q : List Str) : Prop := ∀ m, pTok (opAt m) q = none

def flatS : List (Str × List Str) → List Str → List Str
  | [], q => q
  | p :: r, q => p.1 :: (p.2 ++ flatS r q)
def behindS (m : Nat) (ps : List (Str × List Str)) : List (Str × List Str) := ps.dropWhile fun p => upTo m p.1
theorem behindS_len (m : Nat) (ps : List (Str × List Str)) : (behindS m ps).length ≤ ps.length := (List.dropWhile_sublist _).length_le
theorem behindS_mem {m : Nat} {ps : List (Str × List Str)} {p : Str × List Str} (h : p ∈ behindS m ps) : p ∈ ps := (List.dropWhile_sublist _).subset h
theorem behindS_behind (m : Nat) (ps : List (Str × List Str)) : behindS (m + 1) (behindS m ps) = behindS (m + 1) ps := by
  induction ps with
  | nil => rfl
  | cons p r ih =>
    unfold behindS at ih ⊢
    by_cases h : upTo m p.1 = true
    · have h2 : upTo (m + 1) p.1 = true := by unfold upTo; rw [h]; rfl
      rw [List.dropWhile_cons, if_pos h, ih, List.dropWhile_cons, if_pos h2]
    · rw [List.dropWhile_cons, if_neg h]
theorem behindS_head {m : Nat} {ps : List (Str × List Str)} {p : Str × List Str} {r : List (Str × List Str)} (h : behindS m ps = p :: r) : upTo m p.1 = false := by
  induction ps with
  | nil => cases h
  | cons q t ih =>
    unfold behindS at h ih
    rw [List.dropWhile_cons] at h
    split at h
    · exact ih h
    · rename_i hq
      cases h
      simpa using hq
theorem behindS_idem (m : Nat) (ps : List (Str × List Str)) : behindS m (behindS m ps) = behindS m ps := by
  unfold behindS
  cases hb : ps.dropWhile (fun p => upTo m p.1) with
  | nil => rfl
  | cons p r =>
    have := behindS_head (m := m) (ps := ps) hb
    rw [List.dropWhile_cons, if_neg (by rw [this]; exact Bool.false_ne_true)]
theorem flatS_len : ∀ (ps : List (Str × List Str)) (q : List Str), ps.length ≤ (flatS ps q).length
  | [], _ => Nat.zero_le _
  | p :: r, q => by
    have := flatS_len r q
    show r.length + 1 ≤ (p.1 :: (p.2 ++ flatS r q)).length
    rw [List.length_cons, List.length_append]
    omega
theorem loopS {inner : Ps} {m : Nat} {sub : Ps} {q : List Str} (hq : Closed q) (hsub : ∀ a ps, Sing inner a → (∀ p ∈ ps, Sing inner p.2) → ∃ d, sub (a ++ flatS ps q) = some (d, flatS (behindS m ps) q)) :
    ∀ (k : Nat) (ps : List (Str × List Str)) (l : PyData), ps.length ≤ k → (∀ p ∈ ps, Sing inner p.2) → ∃ d, pLoop (opAt m) sub k l (flatS (behindS m ps) q) = some (d, flatS (behindS (m + 1) ps) q) := by
  intro k
  induction k with
  | zero =>
    intro ps l hk _
    have e : ps = [] := List.length_eq_zero_iff.mp (Nat.le_zero.mp hk)
    subst e
    exact ⟨l, rfl⟩
  | succ k ih =>
    intro ps l hk hp
    cases hb : behindS m ps with
    | nil =>
      refine ⟨l, ?_⟩
      have e := behindS_behind m ps
      rw [hb] at e
      rw [← e]
      exact loop_no (hq m)
    | cons p r =>
      have hm := behindS_head hb
      have e := behindS_behind m ps
      rw [hb] at e
      have hmem : ∀ z ∈ p :: r, z ∈ ps := fun z hz => behindS_mem (m := m) (by rw [hb]; exact hz)
      have hlen := behindS_len m ps
      rw [hb, List.length_cons] at hlen
      by_cases ho : p.1 = opAt m
      · have ht : pTok (opAt m) (flatS (p :: r) q) = some (p.2 ++ flatS r q) := if_pos ho
        obtain ⟨d2, h2⟩ := hsub p.2 r (hp p (hmem p List.mem_cons_self)) fun z hz => hp z (hmem z (List.mem_cons_of_mem _ hz))
        rw [loop_go ht h2]
        have hu : upTo (m + 1) p.1 = true := by unfold upTo; rw [ho]; simp
        have e2 : behindS (m + 1) ps = behindS (m + 1) r := by
          rw [← e]
          unfold behindS
          rw [List.dropWhile_cons, if_pos hu]
        rw [e2]
        exact ih r _ (by omega) fun z hz => hp z (hmem z (List.mem_cons_of_mem _ hz))
      · have ht : pTok (opAt m) (flatS (p :: r) q) = none := if_neg ho
        rw [loop_no ht]
        have hu : ¬ upTo (m + 1) p.1 = true := by
          unfold upTo
          rw [hm]
          simpa using ho
        refine ⟨l, ?_⟩
        rw [← e]
        unfold behindS
        rw [List.dropWhile_cons, if_neg hu]
theorem levS {inner : Ps} {q : List Str} (hq : Closed q) : ∀ (m : Nat) (a : List Str) (ps : List (Str × List Str)), Sing inner a → (∀ p ∈ ps, Sing inner p.2) → ∃ d, pLev (pSingle inner) m (a ++ flatS ps q) = some (d, flatS (behindS m ps) q)
  | 0, a, ps, ha, _ => by
    have e : behindS 0 ps = ps := by
      unfold behindS
      cases ps <;> rfl
    rw [e]
    exact ha _
  | m + 1, a, ps, ha, hp => by
    obtain ⟨d, h⟩ := levS hq m a ps ha hp
    rw [lev_go h]
    have := loopS hq (fun b qs hb hqs => levS hq m b qs hb hqs) (flatS (behindS m ps) q).length (behindS m ps) d (flatS_len _ _) fun p h => hp p (behindS_mem h)
    rw [behindS_idem, behindS_behind] at this
    exact this

theorem read_to {n : Nat} {a q : List Str} {ps : List (Str × List Str)} (hq : Closed q) (ha : Sing (pIn n) a) (hp : ∀ p ∈ ps, Sing (pIn n) p.2) (ho : ∀ p ∈ ps, upTo 5 p.1 = true) : ∃ d, pIn (n + 1) (a ++ flatS ps q) = some (d, q) := by
  obtain ⟨d, h⟩ := levS hq 5 a ps ha hp
  have e : behindS 5 ps = [] := by
    clear h
    unfold behindS
    induction ps with
    | nil => rfl
    | cons p r ih =>
      rw [List.dropWhile_cons, if_pos (ho p List.mem_cons_self)]
      exact ih (fun z hz => hp z (List.mem_cons_of_mem _ hz)) fun z hz => ho z (List.mem_cons_of_mem _ hz)
  rw [e] at h
  exact ⟨d, h⟩
theorem sing_name {inner : Ps} {a : Str} (h : nameOk a = true) : Sing inner [a] := fun r => ⟨.str a, sg_name h⟩
theorem closed_nil : Closed [] := fun _ => rfl
theorem ops_not {t : Str} (h : ∀ o ∈ ops5, t ≠ o) (r : List Str) : Closed (t :: r) := fun m => if_neg (by
  have : opAt m ∈ ops5 := by
    unfold opAt
    have hl : 4 - m < ops5.length := by show 4 - m < 5; omega
    rw [List.getD_eq_getElem?_getD, List.getElem?_eq_getElem hl]
    exact List.getElem_mem hl
  exact h _ this)
theorem closed_par (r : List Str) : Closed (")" :: r) := ops_not (by decide) r
theorem closed_comma (r : List Str) : Closed ("," :: r) := ops_not (by decide) r
end My
set_option Elab.async false
set_option linter.all false
set_option maxRecDepth 100000

namespace My
open PySem PySem.Spec PyProof.Rows L2
abbrev oP : Str := "("
abbrev cP : Str := ")"
abbrev cM : Str := ","
abbrev kW : Str := "keys"
abbrev lW : Str := "look"

def Reads (n : Nat) (E : List Str) : Prop := ∀ q, Closed q → ∃ d, pIn (n + 1) (E ++ q) = some (d, q)
theorem flatS_app (q : List Str) : ∀ ps : List (Str × List Str), flatS ps [] ++ q = flatS ps q
  | [] => rfl
  | p :: r => by
    show p.1 :: (p.2 ++ flatS r []) ++ q = p.1 :: (p.2 ++ flatS r q)
    rw [List.cons_append, List.append_assoc, flatS_app q r]
theorem reads_of {n : Nat} {a : List Str} {ps : List (Str × List Str)} (ha : Sing (pIn n) a) (hp : ∀ p ∈ ps, Sing (pIn n) p.2) (ho : ∀ p ∈ ps, upTo 5 p.1 = true) : Reads n (a ++ flatS ps []) := fun q hq => by
  rw [List.append_assoc, flatS_app]
  exact read_to hq ha hp ho
theorem reads_one {n : Nat} {a : List Str} (ha : Sing (pIn n) a) : Reads n a := by
  have := reads_of (ps := []) ha (fun _ h => nomatch h) (fun _ h => nomatch h)
  rw [show a ++ flatS [] [] = a from List.append_nil _] at this
  exact this
theorem reads_two {n : Nat} {a b : List Str} {o : Str} (ha : Sing (pIn n) a) (hb : Sing (pIn n) b) (ho : upTo 5 o = true) : Reads n (a ++ o :: b) := by
  have := reads_of (ps := [(o, b)]) ha (fun p h => by obtain rfl := List.mem_singleton.mp h; exact hb) (fun p h => by obtain rfl := List.mem_singleton.mp h; exact ho)
  rw [show a ++ flatS [(o, b)] [] = a ++ o :: b by show a ++ o :: (b ++ []) = _; rw [List.append_nil]] at this
  exact this
theorem tok_self (x : Str) (r : List Str) : pTok x (x :: r) = some r := if_pos rfl
theorem parts1_read {n : Nat} {E : List Str} (h : Reads n E) (r : List Str) : ∃ d, pParts1 (pIn (n + 1)) (oP :: (E ++ [cP]) ++ r) = some (d, r) := by
  obtain ⟨d, hd⟩ := h (cP :: r) (closed_par r)
  refine ⟨d, ?_⟩
  rw [show oP :: (E ++ [cP]) ++ r = oP :: (E ++ cP :: r) by simp only [List.cons_append, List.append_assoc, List.nil_append]]
  exact p1_d (tok_self _ _) hd (tok_self _ _)
theorem parts2_read {n : Nat} {E1 E2 : List Str} (h1 : Reads n E1) (h2 : Reads n E2) (r : List Str) : ∃ d d2, pParts2 (pIn (n + 1)) (oP :: (E1 ++ cM :: (E2 ++ [cP])) ++ r) = some (d, d2, r) := by
  obtain ⟨d, hd⟩ := h1 (cM :: (E2 ++ cP :: r)) (closed_comma _)
  obtain ⟨d2, hd2⟩ := h2 (cP :: r) (closed_par r)
  refine ⟨d, d2, ?_⟩
  rw [show oP :: (E1 ++ cM :: (E2 ++ [cP])) ++ r = oP :: (E1 ++ cM :: (E2 ++ cP :: r)) by simp only [List.cons_append, List.append_assoc, List.nil_append]]
  exact p2_f (tok_self _ _) hd (tok_self _ _) hd2 (tok_self _ _)
theorem par_k : oP ≠ "keys" := by decide
theorem par_l : oP ≠ "look" := by decide
theorem no_par : nameOk "(" = false := by decide +kernel
theorem sing_par {n : Nat} {E : List Str} (h : Reads n E) : Sing (pIn (n + 1)) (oP :: (E ++ [cP])) := fun r => by
  obtain ⟨d, hd⟩ := parts1_read h r
  exact ⟨d, (sg_par (ts := oP :: (E ++ [cP] ++ r)) no_par par_k par_l).trans hd⟩
theorem sing_keys {n : Nat} {E : List Str} (h : Reads n E) : Sing (pIn (n + 1)) (kW :: oP :: (E ++ [cP])) := fun r => by
  obtain ⟨d, hd⟩ := parts1_read h r
  exact ⟨_, sg_keys1 hd⟩
theorem sing_look {n : Nat} {E1 E2 : List Str} (h1 : Reads n E1) (h2 : Reads n E2) : Sing (pIn (n + 1)) (lW :: oP :: (E1 ++ cM :: (E2 ++ [cP]))) := fun r => by
  obtain ⟨d, d2, hd⟩ := parts2_read h1 h2 r
  exact ⟨_, sg_look1 hd⟩
theorem reads_whole {E : List Str} (h : Reads 8 E) : ∃ d, pE E = some d := by
  obtain ⟨d, hd⟩ := h [] closed_nil
  rw [List.append_nil] at hd
  exact ⟨d, pE_some hd⟩


def Fails (n : Nat) (E : List Str) : Prop := ∀ q, pSingle (pIn n) (E ++ q) = none
theorem lev_fails {inner : Ps} {ts : List Str} (h : pSingle inner ts = none) : ∀ m, pLev (pSingle inner) m ts = none
  | 0 => h
  | m + 1 => lev_none (lev_fails h m)
theorem in_fails {n : Nat} {E q : List Str} (h : Fails n E) : pIn (n + 1) (E ++ q) = none := lev_fails (h q) 5
theorem fails_par {n : Nat} {E : List Str} (h : ∀ q, pIn n (E ++ q) = none) : Fails n (oP :: (E ++ [cP])) := fun q => by
  refine (sg_par (ts := oP :: (E ++ [cP] ++ q)) no_par par_k par_l).trans ?_
  refine p1_b (tok_self _ _) ?_
  rw [List.append_assoc]
  exact h _
end My
set_option Elab.async false
set_option linter.all false
set_option maxRecDepth 100000

namespace My
open PySem PySem.Spec PyProof.Rows L2
abbrev bW : Str := "b"
theorem b_name : nameOk "b" = true := by decide +kernel
theorem a_name : nameOk "a" = true := by decide +kernel

inductive Deep : Nat → List Str → Prop
  | a : Deep 0 [("a" : Str)]
  | par {k : Nat} {E : List Str} (h : Deep k E) : Deep (k + 1) (oP :: (E ++ [cP]))
  | keys {k : Nat} {E : List Str} (h : Deep k E) : Deep (k + 1) (kW :: oP :: (E ++ [cP]))
  | look1 {k : Nat} {E : List Str} (h : Deep k E) : Deep (k + 1) (lW :: oP :: (E ++ cM :: ([bW] ++ [cP])))
  | look2 {k : Nat} {E : List Str} (h : Deep k E) : Deep (k + 1) (lW :: oP :: ([bW] ++ cM :: (E ++ [cP])))
  | parB {k : Nat} {E : List Str} (h : Deep k E) : Deep (k + 1) ((oP :: (E ++ [cP])) ++ ("|" : Str) :: [bW])
  | bKeys {k : Nat} {E : List Str} (h : Deep k E) : Deep (k + 1) ([bW] ++ ("-" : Str) :: (kW :: oP :: (E ++ [cP])))
theorem reads_b (n : Nat) : Reads n [bW] := reads_one (sing_name b_name)
theorem Deep.reads : ∀ {k : Nat} {E : List Str}, Deep k E → ∀ n, k ≤ n → Reads n E := by
  intro k E h
  induction h with
  | a => exact fun n _ => reads_one (sing_name a_name)
  | par h ih => exact fun n hn => by cases n with
    | zero => omega
    | succ n => exact reads_one (sing_par (ih n (by omega)))
  | keys h ih => exact fun n hn => by cases n with
    | zero => omega
    | succ n => exact reads_one (sing_keys (ih n (by omega)))
  | look1 h ih => exact fun n hn => by cases n with
    | zero => omega
    | succ n => exact reads_one (sing_look (ih n (by omega)) (reads_b n))
  | look2 h ih => exact fun n hn => by cases n with
    | zero => omega
    | succ n => exact reads_one (sing_look (reads_b n) (ih n (by omega)))
  | parB h ih => exact fun n hn => by cases n with
    | zero => omega
    | succ n => exact reads_two (sing_par (ih n (by omega))) (sing_name b_name) (by decide)
  | bKeys h ih => exact fun n hn => by cases n with
    | zero => omega
    | succ n => exact reads_two (sing_name b_name) (sing_keys (ih n (by omega))) (by decide)
theorem fails_keys {n : Nat} {E : List Str} (h : ∀ q, pIn n (E ++ q) = none) : Fails n (kW :: oP :: (E ++ [cP])) := fun q => by
  refine sg_keys0 (p1_b (tok_self _ _) ?_)
  show pIn n (E ++ [cP] ++ q) = none
  rw [List.append_assoc]
  exact h _
theorem fails_look1 {n : Nat} {E F : List Str} (h : ∀ q, pIn n (E ++ q) = none) : Fails n (lW :: oP :: (E ++ F)) := fun q => by
  refine sg_look0 (p2_b (tok_self _ _) ?_)
  show pIn n (E ++ F ++ q) = none
  rw [List.append_assoc]
  exact h _
theorem fails_look2 {n : Nat} {E : List Str} (h : ∀ q, pIn n (E ++ q) = none) : Fails n (lW :: oP :: ([bW] ++ cM :: (E ++ [cP]))) := fun q => by
  refine sg_look0 ?_
  cases n with
  | zero => exact p2_b (tok_self _ _) rfl
  | succ n =>
    obtain ⟨d, hd⟩ := reads_b n (cM :: (E ++ [cP] ++ q)) (closed_comma _)
    refine p2_d (tok_self _ _) hd (tok_self _ _) ?_
    rw [List.append_assoc]
    exact h _
theorem fails_after {n : Nat} {E : List Str} (h : Fails n E) (q : List Str) : pIn (n + 1) ([bW] ++ ("-" : Str) :: E ++ q) = none := by
  have t0 : pTok (opAt 0) (("-" : Str) :: (E ++ q)) = none := by
    show (if ("-" : Str) = opAt 0 then some (E ++ q) else none) = none
    exact if_neg (by decide)
  have t1 : pTok (opAt 1) (("-" : Str) :: (E ++ q)) = some (E ++ q) := by
    show (if ("-" : Str) = opAt 1 then some (E ++ q) else none) = _
    exact if_pos (by decide)
  have l0 : pLev (pSingle (pIn n)) 0 (bW :: ("-" : Str) :: (E ++ q)) = some (.str bW, ("-" : Str) :: (E ++ q)) := sg_name b_name
  have l1 : pLev (pSingle (pIn n)) 1 (bW :: ("-" : Str) :: (E ++ q)) = some (.str bW, ("-" : Str) :: (E ++ q)) := (lev_go l0).trans (loop_no t0)
  have l2 : pLev (pSingle (pIn n)) 2 (bW :: ("-" : Str) :: (E ++ q)) = none := (lev_go l1).trans (loop_none t1 (lev_fails (h q) 1))
  exact lev_none (lev_none (lev_none l2))
theorem Deep.fails : ∀ {k : Nat} {E : List Str}, Deep k E → ∀ n, n ≤ k → ∀ q, pIn n (E ++ q) = none := by
  intro k E h
  induction h with
  | a => exact fun n hn q => (by rw [Nat.le_zero.mp hn]; rfl)
  | par h ih => exact fun n hn q => by cases n with
    | zero => rfl
    | succ n => exact in_fails (fails_par (ih n (by omega)))
  | keys h ih => exact fun n hn q => by cases n with
    | zero => rfl
    | succ n => exact in_fails (fails_keys (ih n (by omega)))
  | look1 h ih => exact fun n hn q => by cases n with
    | zero => rfl
    | succ n => exact in_fails (fails_look1 (ih n (by omega)))
  | look2 h ih => exact fun n hn q => by cases n with
    | zero => rfl
    | succ n => exact in_fails (fails_look2 (ih n (by omega)))
  | parB h ih => exact fun n hn q => by cases n with
    | zero => rfl
    | succ n =>
      rw [List.append_assoc]
      exact in_fails (fails_par (ih n (by omega)))
  | bKeys h ih => exact fun n hn q => by cases n with
    | zero => rfl
    | succ n => exact fails_after (fails_keys (ih n (by omega))) q

theorem deep_read {k : Nat} {E : List Str} (h : Deep k E) : (pE E).isSome = decide (k ≤ 8) := by
  by_cases hk : k ≤ 8
  · obtain ⟨d, hd⟩ := reads_whole (h.reads 8 hk)
    rw [hd, decide_eq_true hk]
    rfl
  · have := h.fails 9 (by omega) []
    rw [List.append_nil] at this
    rw [pE_none this, decide_eq_false hk]
    rfl
end My
set_option Elab.async false
set_option linter.all false
set_option maxRecDepth 100000

namespace My
open PySem PySem.Spec PyProof.Rows L2

def Ends (r : List Nat) : Prop := r = [] ∨ ∃ c s, r = c :: s ∧ (c = 32 ∨ c ∈ signL)

def Splits (T : List Nat) (E : List (List Nat)) : Prop := ∀ r, Ends r → wl [] (T ++ r) = E ++ wl [] r

def SplitsS (T : List Nat) (E : List (List Nat)) : Prop := ∀ r, wl [] (T ++ r) = E ++ wl [] r
theorem SplitsS.to {T : List Nat} {E : List (List Nat)} (h : SplitsS T E) : Splits T E := fun r _ => h r
theorem splits_word {w : List Nat} (hw : wordly w) (hn : w ≠ []) : Splits w [w] := fun r hr => by
  rw [wl_word w [] r hw, List.nil_append]
  rcases hr with rfl | ⟨c, s, rfl, hc⟩
  · show wl w [] = [w] ++ wl [] []
    rw [wl, flush_ne hn]
    rfl
  · rcases hc with rfl | hc
    · rw [wl_space, wl_space, flush_ne hn]
      rfl
    · rw [wl_sign hc, wl_sign hc, flush_ne hn]
      rfl
theorem splits_sign {c : Nat} (h : c ∈ signL) : SplitsS [c] [[c]] := fun r => wl_sign h [] r
theorem splits_space : SplitsS [32] [] := fun r => wl_space [] r
theorem SplitsS.app {T T2 : List Nat} {E E2 : List (List Nat)} (h : SplitsS T E) (h2 : SplitsS T2 E2) : SplitsS (T ++ T2) (E ++ E2) := fun r => by
  rw [List.append_assoc, h, h2, List.append_assoc]
theorem SplitsS.app2 {T T2 : List Nat} {E E2 : List (List Nat)} (h : SplitsS T E) (h2 : Splits T2 E2) : Splits (T ++ T2) (E ++ E2) := fun r hr => by
  rw [List.append_assoc, h, h2 r hr, List.append_assoc]
theorem Splits.app {T : List Nat} {c : Nat} {s : List Nat} {E E2 : List (List Nat)} (h : Splits T E) (hc : c = 32 ∨ c ∈ signL) (h2 : SplitsS (c :: s) E2) : SplitsS (T ++ c :: s) (E ++ E2) := fun r => by
  rw [List.append_assoc, h (c :: s ++ r) (.inr ⟨c, s ++ r, rfl, hc⟩), h2, List.append_assoc]
theorem Splits.app2 {T : List Nat} {c : Nat} {s : List Nat} {E E2 : List (List Nat)} (h : Splits T E) (hc : c = 32 ∨ c ∈ signL) (h2 : Splits (c :: s) E2) : Splits (T ++ c :: s) (E ++ E2) := fun r hr => by
  rw [List.append_assoc, h (c :: s ++ r) (.inr ⟨c, s ++ r, rfl, hc⟩), h2 r hr, List.append_assoc]
theorem Splits.all {T : List Nat} {E : List (List Nat)} (h : Splits T E) : wl [] T = E := by
  have := h [] (.inl rfl)
  rw [List.append_nil] at this
  rw [this]
  exact List.append_nil _

theorem splits_par {T : List Nat} {E : List (List Nat)} (h : Splits T E) : SplitsS (40 :: (T ++ [41])) ([40] :: (E ++ [[41]])) := by
  have a := h.app (c := 41) (s := []) (.inr (by decide)) (splits_sign (by decide))
  exact (splits_sign (c := 40) (by decide)).app a

theorem splits_call {w T : List Nat} {E : List (List Nat)} (hw : wordly w) (hn : w ≠ []) (h : Splits T E) : SplitsS (w ++ 40 :: (T ++ [41])) (w :: [40] :: (E ++ [[41]])) :=
  (splits_word hw hn).app (.inr (by decide)) (splits_par h)

theorem splits_comma {T U : List Nat} {E F : List (List Nat)} (h : Splits T E) (h2 : Splits U F) : Splits (T ++ 44 :: U) (E ++ [44] :: F) :=
  h.app2 (.inr (by decide)) ((splits_sign (c := 44) (by decide)).app2 h2)
end My
set_option Elab.async false
set_option linter.all false
set_option maxRecDepth 100000

namespace My
open PySem PySem.Spec PyProof.Rows L2
abbrev keysL : List Nat := [107, 101, 121, 115]
abbrev lookL : List Nat := [108, 111, 111, 107]

inductive DeepT : Nat → List Nat → Prop
  | a : DeepT 0 [97]
  | par {k : Nat} {T : List Nat} (h : DeepT k T) : DeepT (k + 1) (40 :: (T ++ [41]))
  | keys {k : Nat} {T : List Nat} (h : DeepT k T) : DeepT (k + 1) (keysL ++ 40 :: (T ++ [41]))
  | look1 {k : Nat} {T : List Nat} (h : DeepT k T) : DeepT (k + 1) (lookL ++ 40 :: ((T ++ 44 :: [98]) ++ [41]))
  | look2 {k : Nat} {T : List Nat} (h : DeepT k T) : DeepT (k + 1) (lookL ++ 40 :: (([98] ++ 44 :: T) ++ [41]))
  | parB {k : Nat} {T : List Nat} (h : DeepT k T) : DeepT (k + 1) ((40 :: (T ++ [41])) ++ 124 :: [98])
  | bKeys {k : Nat} {T : List Nat} (h : DeepT k T) : DeepT (k + 1) ([98] ++ 32 :: 45 :: 32 :: (keysL ++ 40 :: (T ++ [41])))
theorem word_of {w : List Nat} (h : (w.all fun c => !(c == 32) && !(signL.contains c)) = true) : wordly w := fun c hc => by
  have := List.all_eq_true.mp h c hc
  simp only [Bool.and_eq_true, Bool.not_eq_true', beq_eq_false_iff_ne] at this
  refine ⟨this.1, fun hm => ?_⟩
  have h2 := this.2
  rw [List.contains_iff_mem.mpr hm] at h2
  cases h2
theorem sp_a : Splits [97] [[97]] := splits_word (word_of (by decide)) (by decide)
theorem sp_b : Splits [98] [[98]] := splits_word (word_of (by decide)) (by decide)

theorem DeepT.words : ∀ {k : Nat} {T : List Nat}, DeepT k T → ∃ E : List Str, Deep k E ∧ Splits T (E.map TL.tl) := by
  intro k T h
  induction h with
  | a => exact ⟨_, .a, sp_a⟩
  | par h ih =>
    obtain ⟨E, hE, hs⟩ := ih
    refine ⟨_, .par hE, ?_⟩
    have := (splits_par hs).to
    rw [List.map_cons, List.map_append]
    exact this
  | keys h ih =>
    obtain ⟨E, hE, hs⟩ := ih
    refine ⟨_, .keys hE, ?_⟩
    have := (splits_call (w := keysL) (word_of (by decide)) (by decide) hs).to
    rw [List.map_cons, List.map_cons, List.map_append]
    exact this
  | look1 h ih =>
    obtain ⟨E, hE, hs⟩ := ih
    refine ⟨_, .look1 hE, ?_⟩
    have := (splits_call (w := lookL) (word_of (by decide)) (by decide) (splits_comma hs sp_b)).to
    simp only [List.map_cons, List.map_append, List.map_nil, List.cons_append, List.nil_append, List.append_assoc] at this ⊢
    exact this
  | look2 h ih =>
    obtain ⟨E, hE, hs⟩ := ih
    refine ⟨_, .look2 hE, ?_⟩
    have := (splits_call (w := lookL) (word_of (by decide)) (by decide) (splits_comma sp_b hs)).to
    simp only [List.map_cons, List.map_append, List.map_nil, List.cons_append, List.nil_append, List.append_assoc] at this ⊢
    exact this
  | parB h ih =>
    obtain ⟨E, hE, hs⟩ := ih
    refine ⟨_, .parB hE, ?_⟩
    have := (splits_par hs).app2 ((splits_sign (c := 124) (by decide)).app2 sp_b)
    rw [List.map_append, List.map_cons, List.map_append]
    exact this
  | bKeys h ih =>
    obtain ⟨E, hE, hs⟩ := ih
    refine ⟨_, .bKeys hE, ?_⟩
    have c := splits_call (w := keysL) (word_of (by decide)) (by decide) hs
    have m := (splits_space.app (splits_sign (c := 45) (by decide))).app (splits_space.app c)
    have := (sp_b.app (c := 32) (s := 45 :: 32 :: (keysL ++ 40 :: (_ ++ [41]))) (.inl rfl) m).to
    simp only [List.map_cons, List.map_append, List.map_nil, List.cons_append, List.nil_append, List.append_assoc] at this ⊢
    exact this

theorem deepT_read {k : Nat} {x : Str} (h : DeepT k (letters x)) : (pE (tokensOf x)).isSome = decide (k ≤ 8) := by
  obtain ⟨E, hE, hs⟩ := h.words
  have e : (tokensOf x).map TL.tl = E.map TL.tl := (tokens_wl x).trans hs.all
  rw [TL.map_tl_inj e]
  exact deep_read hE
end My
set_option Elab.async false
set_option linter.all false
set_option maxRecDepth 100000

namespace My
open PySem PySem.Spec PyProof.Rows L2
abbrev ofL (l : List Nat) : Str := ⟨l.toArray⟩
def opL : List Nat := [124, 94, 38, 45, 64]
theorem op_sign {c : Nat} (h : c ∈ opL) : c ∈ signL ∧ upTo 5 (ofL [c]) = true := by
  have : ∀ c ∈ opL, c ∈ signL ∧ upTo 5 (ofL [c]) = true := by decide +kernel
  exact this c h
def chainP (ps : List (Nat × Nat × Nat × List Nat)) : List (Str × Str) := ps.map fun p => (ofL [p.2.1], ofL p.2.2.2)
theorem flat_tl : ∀ ps : List (Nat × Nat × Nat × List Nat), (flat (chainP ps)).map TL.tl = ps.flatMap fun p => [[p.2.1], p.2.2.2]
  | [] => rfl
  | p :: r => by
    have ih := flat_tl r
    show [p.2.1] :: p.2.2.2 :: (flat (chainP r)).map TL.tl = _
    rw [ih, List.flatMap_cons]
    rfl
theorem chainT_read {x : Str} {a : List Nat} {ps : List (Nat × Nat × Nat × List Nat)} (h : letters x = a ++ chainT ps) (hw : wordly a) (hne : a ≠ []) (hn : nameOk (ofL a) = true)
    (hp : ∀ p ∈ ps, p.2.1 ∈ opL ∧ wordly p.2.2.2 ∧ p.2.2.2 ≠ [] ∧ nameOk (ofL p.2.2.2) = true) : ∃ d, pE (tokensOf x) = some d := by
  have e : (tokensOf x).map TL.tl = (ofL a :: flat (chainP ps)).map TL.tl := by
    rw [tokens_wl, h, wl_word a [] _ hw, List.nil_append, wl_chain ps a hne fun p hq => ⟨(op_sign (hp p hq).1).1, (hp p hq).2.1, (hp p hq).2.2.1⟩, List.map_cons, flat_tl]
  rw [TL.map_tl_inj e]
  refine chain_read hn (fun q hq => ?_) fun q hq => ?_
  · obtain ⟨p, hp1, rfl⟩ := List.mem_map.mp hq
    exact (hp p hp1).2.2.2
  · obtain ⟨p, hp1, rfl⟩ := List.mem_map.mp hq
    exact (op_sign (hp p hp1).1).2
end My
set_option Elab.async false
set_option linter.all false
set_option maxRecDepth 100000

namespace My
open PySem PySem.Spec PyProof.Rows L2
theorem letters_ofL (l : List Nat) : letters (ofL l) = l := rfl
theorem str_of_letters {x : Str} {l : List Nat} (h : letters x = l) : x = ofL l := TL.ext_tl h
theorem tokens_space (T : List Nat) : tokensOf (ofL (32 :: T)) = tokensOf (ofL T) := by
  refine TL.map_tl_inj ?_
  rw [tokens_wl, tokens_wl, letters_ofL, letters_ofL, wl_space]
  rfl
theorem row_parts {H T : List Nat} (h : (61 : Nat) ∉ H) : rowHead (ofL (H ++ 61 :: T)) = ofL H ∧ rowTail (ofL (H ++ 61 :: T)) = ofL T := by
  have e : ofL (H ++ 61 :: T) = ofL H ++ "=" ++ ofL T := TL.ext_tl (by rw [TL.tl_append, TL.tl_append, List.append_assoc]; rfl)
  have p := TL.partition_app (y := "=") (s := 61) (S := []) rfl (a := ofL H) (b := ofL T) h
  unfold rowHead rowTail
  rw [e, p]
  exact ⟨rfl, rfl⟩

theorem row_reads {H T : List Nat} (h : (61 : Nat) ∉ H) (hn : nameOk (Txt.stripChars (if (!inV (V.str (cutS (ofL H) (some (-1)) none)) (opsL.map V.str)) = true then ofL H else cutS (ofL H) none (some (-1))) " ") = true) :
    (readR (ofL (H ++ 61 :: T))).isSome = (decide ((noSpace (ofL (H ++ 61 :: T))).length ≤ 200) && (pE (tokensOf (ofL T))).isSome) := by
  obtain ⟨e1, e2⟩ := row_parts (T := T) h
  have e3 : nameOk (rowName (ofL (H ++ 61 :: T))) = true := by
    unfold rowName rowAnew rowOp
    rw [e1]
    exact hn
  unfold readR
  rw [e2, if_pos e3]
  by_cases hl : (noSpace (ofL (H ++ 61 :: T))).length ≤ 200
  · rw [if_pos hl, decide_eq_true hl, Option.isSome_map]
    rfl
  · rw [if_neg hl, decide_eq_false hl]
    rfl

theorem row_anew (T : List Nat) : (readR (ofL ([111, 117, 116, 32] ++ 61 :: 32 :: T))).isSome = (decide ((noSpace (ofL ([111, 117, 116, 32] ++ 61 :: 32 :: T))).length ≤ 200) && (pE (tokensOf (ofL T))).isSome) := by
  rw [row_reads (by decide) (by decide +kernel), tokens_space]

theorem row_or (T : List Nat) : (readR (ofL ([111, 117, 116, 32, 124] ++ 61 :: T))).isSome = (decide ((noSpace (ofL ([111, 117, 116, 32, 124] ++ 61 :: T))).length ≤ 200) && (pE (tokensOf (ofL T))).isSome) :=
  row_reads (by decide) (by decide +kernel)

theorem row_minus (T : List Nat) : (readR (ofL ([111, 117, 116, 32, 45] ++ 61 :: 32 :: T))).isSome = (decide ((noSpace (ofL ([111, 117, 116, 32, 45] ++ 61 :: 32 :: T))).length ≤ 200) && (pE (tokensOf (ofL T))).isSome) := by
  rw [row_reads (by decide) (by decide +kernel), tokens_space]
end My
set_option Elab.async false
set_option linter.all false
set_option maxRecDepth 100000

namespace My
open PySem PySem.Spec PyProof.Rows L2
abbrev noE (d : PyData) : Prop := PyData.eqv d (.str "") = false
theorem noE_tup (ds : List PyData) : noE (.tuple ds) := by unfold noE PyData.eqv; rfl
theorem loop_noE {op : Str} {sub : Ps} : ∀ (n : Nat) (l : PyData) (ts : List Str) (d : PyData) (r : List Str), noE l → pLoop op sub n l ts = some (d, r) → noE d
  | 0, l, ts, d, r, hl, h => by
    cases h
    exact hl
  | n + 1, l, ts, d, r, hl, h => by
    unfold pLoop at h
    split at h
    · cases h
      exact hl
    · split at h
      · cases h
      · exact loop_noE n _ _ _ _ (noE_tup _) h
def PsNoE (p : Ps) : Prop := ∀ ts d r, p ts = some (d, r) → noE d
theorem lev_noE {s : Ps} (hs : PsNoE s) : ∀ m, PsNoE (pLev s m)
  | 0 => hs
  | m + 1 => fun ts d r h => by
    unfold pLev at h
    split at h
    · cases h
    · rename_i l r1 e
      exact loop_noE _ _ _ _ _ (lev_noE hs m _ _ _ e) h
theorem parts1_noE {p : Ps} (hp : PsNoE p) : PsNoE (pParts1 p) := fun ts d r h => by
  unfold pParts1 at h
  split at h
  · cases h
  · split at h
    · cases h
    · rename_i d' r2 e
      split at h
      · cases h
      · cases h
        exact hp _ _ _ e
theorem single_noE {p : Ps} (hp : PsNoE p) : PsNoE (pSingle p) := fun ts d r h => by
  unfold pSingle at h
  split at h
  · cases h
  · rename_i t q
    split at h
    · rename_i e
      cases h
      unfold noE PyData.eqv
      cases z : (t == ("" : Str)) with
      | false => rfl
      | true =>
        have := eq_of_beq z
        subst this
        exact absurd e (by decide +kernel)
    · split at h
      · split at h
        · cases h
        · cases h
          exact noE_tup _
      · split at h
        · split at h
          · cases h
          · cases h
            exact noE_tup _
        · exact parts1_noE hp _ _ _ h
theorem in_noE : ∀ n, PsNoE (pIn n)
  | 0 => fun _ _ _ h => by cases h
  | n + 1 => lev_noE (single_noE (in_noE n)) 5
theorem pE_noE {ts : List Str} {d : PyData} (h : pE ts = some d) : noE d := by
  unfold pE at h
  split at h
  · rename_i d' e
    cases h
    exact in_noE _ _ _ _ e
  · cases h

def rNeT (K : PySem.W.Frag) : R2 := fun x y H Q => ∃ d z, Dp K H x d ∧ tre d = true ∧ y = .str z ∧ Q (.bl (!PyData.eqv d (.str z))) H
theorem op_neT {X : Cx} (hu : X.A.units + 64 < cLine) : OpR X (compareOp .NotEq) (rNeT X.K) := by
  intro pins s σ H x y v u Q I rx ry h
  obtain ⟨d, z, hd, ht, rfl, q⟩ := h
  obtain ⟨as, r1⟩ := Dp.reads I d x v hd rx
  obtain ⟨tz, rfl⟩ := ry
  have fin : EP X pins σ Q (.bool (!PyData.eqv d (.str z))) s := ⟨.bl _, H, I, rfl, q⟩
  cases r1 with
  | str => exact PyProof.Rows.ne_str fin
  | tuple h1 h2 h3 hz => exact SeqAt.RcNeAt.tuple_str _ _ ⟨_, h1, h2, _, h3⟩ (by omega) _ _ _ _ (by unfold PyData.eqv at fin; exact fin)
  | _ => cases ht
end My
set_option Elab.async false
set_option linter.all false
set_option maxRecDepth 100000

namespace My
open PySem PySem.Spec PyProof.Rows L2
def prefL : List (List Nat) := [[97], [97, 98], [97, 98, 99], [97, 98, 99, 100]]
abbrev Lk := Nat × Nat × Nat × List Nat

def Good4 (rest : List Nat) (p : Lk) : Prop := p.2.1 ∈ opL ∧ p.2.2.2 ∈ prefL ∧ p.1 ≤ 3 ∧ p.2.2.1 ≤ 1 ∧ (p.2.1 ∈ rest → p.1 = 0 ∧ p.2.2.1 = 0)
abbrev bareL (ps : List Lk) : List Nat := ps.flatMap fun p => p.2.1 :: p.2.2.2
structure LongX (rest : List Nat) (m : Nat) (x : Str) : Prop where
  ex : ∃ a ps, letters x = a ++ chainT ps ∧ (a = [97] ∨ a = [98, 97]) ∧ (∀ p ∈ ps, Good4 rest p) ∧ a.length + (bareL ps).length = m
theorem LongX.weak {rest r2 : List Nat} {m : Nat} {x : Str} (h : LongX rest m x) (hr : ∀ c ∈ r2, c ∈ rest) : LongX r2 m x := by
  obtain ⟨a, ps, e, ha, hp, hm⟩ := h.ex
  exact ⟨a, ps, e, ha, fun p q => ⟨(hp p q).1, (hp p q).2.1, (hp p q).2.2.1, (hp p q).2.2.2.1, fun z => (hp p q).2.2.2.2 (hr _ z)⟩, hm⟩
theorem op_no {c : Nat} (h : c ∈ opL) : c ≠ 32 ∧ c < 128 := by
  have : ∀ c ∈ opL, c ≠ 32 ∧ c < 128 := by decide
  exact this c h
theorem pref_no {w : List Nat} (h : w ∈ prefL) : (∀ c ∈ w, c ≠ 32 ∧ c < 128 ∧ c ∉ opL) ∧ w ≠ [] ∧ w.length ≤ 4 := by
  have : ∀ w ∈ prefL, (∀ c ∈ w, c ≠ 32 ∧ c < 128 ∧ c ∉ opL) ∧ w ≠ [] ∧ w.length ≤ 4 := by decide
  exact this w h
theorem chain_bare {rest : List Nat} : ∀ ps : List Lk, (∀ p ∈ ps, Good4 rest p) → (chainT ps).filter (· != 32) = bareL ps
  | [], _ => rfl
  | (i, c, j, w) :: r, h => by
    obtain ⟨h1, h2, _, _, _⟩ := h _ List.mem_cons_self
    have ih := chain_bare r fun p q => h p (List.mem_cons_of_mem _ q)
    have r0 : ∀ k, (List.replicate k 32).filter (· != 32) = [] := fun k => by simp
    have hw : w.filter (· != 32) = w := List.filter_eq_self.mpr fun c hc => by simpa using ((pref_no h2).1 c hc).1
    have hc : (c != 32) = true := by simpa using (op_no h1).1
    unfold chainT
    rw [List.filter_append, r0, List.filter_cons, if_pos hc, List.filter_append, r0, List.filter_append, hw, ih]
    rfl
theorem chain_len {rest : List Nat} : ∀ ps : List Lk, (∀ p ∈ ps, Good4 rest p) → (chainT ps).length ≤ 3 * (bareL ps).length
  | [], _ => Nat.le_refl _
  | (i, c, j, w) :: r, h => by
    obtain ⟨h1, h2, h3, h4, _⟩ := h _ List.mem_cons_self
    have ih := chain_len r fun p q => h p (List.mem_cons_of_mem _ q)
    have hw : 0 < w.length := List.length_pos_iff.mpr (pref_no h2).2.1
    have e : bareL ((i, c, j, w) :: r) = c :: (w ++ bareL r) := rfl
    unfold chainT
    rw [e]
    simp only [List.length_append, List.length_cons, List.length_replicate]
    have h3 : i ≤ 3 := h3
    have h4 : j ≤ 1 := h4
    omega
theorem head_no {a : List Nat} (h : a = [97] ∨ a = [98, 97]) : (∀ c ∈ a, c ≠ 32 ∧ c < 128 ∧ c ∉ opL) ∧ a ≠ [] ∧ a.length ≤ 2 := by
  rcases h with rfl | rfl <;> decide
theorem LongX.nsp {rest : List Nat} {m : Nat} {x : Str} (h : LongX rest m x) : (noSpace x).length = m := by
  obtain ⟨a, ps, e, ha, hp, hm⟩ := h.ex
  have z := congrArg List.length (noSpace_cps x)
  have ea : a.filter (· != 32) = a := List.filter_eq_self.mpr fun c hc => by simpa using ((head_no ha).1 c hc).1
  have e' : x.cps.toList = a ++ chainT ps := e
  rw [e', List.filter_append, chain_bare ps hp, ea, List.length_append, hm] at z
  exact z
theorem LongX.len {rest : List Nat} {m : Nat} {x : Str} (h : LongX rest m x) : x.length ≤ 3 * m := by
  obtain ⟨a, ps, e, ha, hp, hm⟩ := h.ex
  have z := congrArg List.length e
  rw [List.length_append] at z
  have l := chain_len ps hp
  have e2 : x.length = (letters x).length := rfl
  omega
theorem chain_mem {rest : List Nat} : ∀ ps : List Lk, (∀ p ∈ ps, Good4 rest p) → ∀ c ∈ chainT ps, c < 128
  | [], _, c, hc => nomatch hc
  | (i, k, j, w) :: r, h, c, hc => by
    obtain ⟨h1, h2, _, _, _⟩ := h _ List.mem_cons_self
    unfold chainT at hc
    rw [List.mem_append, List.mem_cons, List.mem_append, List.mem_append] at hc
    rcases hc with hc | rfl | hc | hc | hc
    · rw [(List.mem_replicate.mp hc).2]; decide
    · exact (op_no h1).2
    · rw [(List.mem_replicate.mp hc).2]; decide
    · exact ((pref_no h2).1 c hc).2.1
    · exact chain_mem r (fun p q => h p (List.mem_cons_of_mem _ q)) c hc
theorem LongX.ascii {rest : List Nat} {m : Nat} {x : Str} (h : LongX rest m x) : ∀ c ∈ letters x, c < 128 := by
  obtain ⟨a, ps, e, ha, hp, hm⟩ := h.ex
  intro c hc
  rw [e, List.mem_append] at hc
  rcases hc with hc | hc
  · exact ((head_no ha).1 c hc).2.1
  · exact chain_mem ps hp c hc
theorem ascii_legal {x : Str} (h : ∀ c ∈ letters x, c < 128) : legal x := fun c hc => Nat.lt_trans (h c hc) (by decide)
theorem LongX.read {rest : List Nat} {m : Nat} {x : Str} (h : LongX rest m x) : ∃ d, pE (tokensOf x) = some d := by
  obtain ⟨a, ps, e, ha, hp, hm⟩ := h.ex
  have wd : ∀ {w : List Nat}, w ∈ prefL → wordly w ∧ nameOk (ofL w) = true := fun {w} hw => by
    have : ∀ w ∈ prefL, ((w.all fun c => !(c == 32) && !(signL.contains c)) = true) ∧ nameOk (ofL w) = true := by decide +kernel
    exact ⟨word_of (this w hw).1, (this w hw).2⟩
  refine chainT_read e ?_ (head_no ha).2.1 ?_ ?_
  · rcases ha with rfl | rfl <;> exact word_of (by decide)
  · rcases ha with rfl | rfl <;> decide +kernel
  · intro p q
    have g := hp p q
    exact ⟨g.1, (wd g.2.1).1, (pref_no g.2.1).2.1, (wd g.2.1).2⟩


def strew (c : Nat) (z : List Nat) (l : List Nat) : List Nat := l.flatMap fun k => if k = c then z else [k]
theorem strew_free {c : Nat} {z l : List Nat} (h : c ∉ l) : strew c z l = l := by
  induction l with
  | nil => rfl
  | cons k r ih =>
    unfold strew
    rw [List.flatMap_cons, if_neg (fun e : k = c => h (e ▸ List.mem_cons_self))]
    have := ih fun hm => h (List.mem_cons_of_mem _ hm)
    unfold strew at this
    rw [this]
    rfl
theorem strew_app (c : Nat) (z a b : List Nat) : strew c z (a ++ b) = strew c z a ++ strew c z b := List.flatMap_append
theorem strew_cons (c : Nat) (z : List Nat) (k : Nat) (b : List Nat) : strew c z (k :: b) = (if k = c then z else [k]) ++ strew c z b := List.flatMap_cons
theorem strew_rep {c : Nat} (hc : c ≠ 32) (z : List Nat) (k : Nat) : strew c z (List.replicate k 32) = List.replicate k 32 := strew_free fun h => hc (List.mem_replicate.mp h).2
def stepP (c k : Nat) (p : Lk) : Lk := if p.2.1 = c then (p.1 + k, p.2.1, p.2.2.1 + 1, p.2.2.2) else p
theorem strew_chain {rest : List Nat} {c k : Nat} (hc : c ∈ opL) : ∀ ps : List Lk, (∀ p ∈ ps, Good4 rest p) → strew c (List.replicate k 32 ++ c :: [32]) (chainT ps) = chainT (ps.map (stepP c k))
  | [], _ => rfl
  | (i, o, j, w) :: r, h => by
    obtain ⟨h1, h2, _, _, _⟩ := h _ List.mem_cons_self
    have ih := strew_chain (k := k) hc r fun p q => h p (List.mem_cons_of_mem _ q)
    have c32 := (op_no hc).1
    have ew : strew c (List.replicate k 32 ++ c :: [32]) w = w := strew_free fun hm => ((pref_no h2).1 c hm).2.2 hc
    rw [List.map_cons]
    by_cases e : o = c
    · subst e
      have es : stepP o k (i, o, j, w) = (i + k, o, j + 1, w) := if_pos rfl
      rw [es]
      unfold chainT
      rw [strew_app, strew_rep c32, strew_cons, if_pos rfl, strew_app, strew_rep c32, strew_app, ew, ih, ← List.replicate_append_replicate]
      simp only [List.append_assoc, List.cons_append, List.nil_append]
      rfl
    · have es : stepP c k (i, o, j, w) = (i, o, j, w) := if_neg e
      rw [es]
      unfold chainT
      rw [strew_app, strew_rep c32, strew_cons, if_neg e, strew_app, strew_rep c32, strew_app, ew, ih]
      rfl
theorem bare_step (c k : Nat) (ps : List Lk) : bareL (ps.map (stepP c k)) = bareL ps := by
  unfold bareL
  rw [List.flatMap_map]
  refine congrArg (fun f => ps.flatMap f) (funext fun p => ?_)
  unfold stepP
  split <;> rfl
theorem LongX.step {rest : List Nat} {m c k : Nat} {x y : Str} (h : LongX (c :: rest) m x) (hc : c ∈ opL) (hn : c ∉ rest) (hk : k ≤ 3) (e : letters y = strew c (List.replicate k 32 ++ c :: [32]) (letters x)) : LongX rest m y := by
  obtain ⟨a, ps, ex, ha, hp, hm⟩ := h.ex
  refine ⟨a, ps.map (stepP c k), ?_, ha, ?_, by rw [bare_step]; exact hm⟩
  · rw [e, ex, strew_app, strew_chain hc ps hp, strew_free fun hm => ((head_no ha).1 c hm).2.2 hc]
  · intro p hq
    obtain ⟨q, hq', rfl⟩ := List.mem_map.mp hq
    obtain ⟨g1, g2, g3, g4, g5⟩ := hp q hq'
    unfold stepP
    split
    · rename_i e1
      obtain ⟨z1, z2⟩ := g5 (by rw [e1]; exact List.mem_cons_self)
      exact ⟨g1, g2, by show q.1 + k ≤ 3; omega, by show q.2.2.1 + 1 ≤ 1; omega, fun hr => absurd (show c ∈ rest from e1 ▸ hr) hn⟩
    · exact ⟨g1, g2, g3, g4, fun hr => g5 (List.mem_cons_of_mem _ hr)⟩
theorem strew_join (c : Nat) (z : Str) : ∀ parts : List Str, (∀ p ∈ parts, c ∉ p.cps.toList) → strew c (letters z) (letters (Str.join ⟨#[c]⟩ parts)) = letters (Str.join z parts)
  | [], _ => rfl
  | [p], h => strew_free (h p (List.mem_singleton.mpr rfl))
  | p :: q :: r, h => by
    have ih := strew_join c z (q :: r) fun a ha => h a (List.mem_cons_of_mem _ ha)
    show strew c (letters z) (letters (p ++ ⟨#[c]⟩ ++ Str.join ⟨#[c]⟩ (q :: r))) = letters (p ++ z ++ Str.join z (q :: r))
    have e1 : letters (p ++ ⟨#[c]⟩ ++ Str.join ⟨#[c]⟩ (q :: r)) = letters p ++ c :: letters (Str.join ⟨#[c]⟩ (q :: r)) := by
      unfold letters
      rw [Str.cps_append, Str.cps_append, Array.toList_append, Array.toList_append, List.append_assoc]
      rfl
    have e2 : letters (p ++ z ++ Str.join z (q :: r)) = letters p ++ (letters z ++ letters (Str.join z (q :: r))) := by
      unfold letters
      rw [Str.cps_append, Str.cps_append, Array.toList_append, Array.toList_append, List.append_assoc]
    rw [e1, e2, strew_app, strew_cons, if_pos rfl, ih, strew_free (h p List.mem_cons_self)]
theorem letters_replace (x z : Str) (c : Nat) : letters (Txt.replace x ⟨#[c]⟩ z) = strew c (letters z) (letters x) := by
  rw [StrLaws.replace_one, ← strew_join c z _ (StrLaws.split_free x c), StrLaws.join_split]
end My
set_option Elab.async false
set_option linter.all false
set_option maxRecDepth 100000

namespace My
open PySem PySem.Spec PyProof.Rows L2
theorem let_app (x y : Str) : letters (x ++ y) = letters x ++ letters y := TL.tl_append x y
theorem le_op : letters "(" = [40] := by decide +kernel
theorem le_cl : letters ")" = [41] := by decide +kernel
theorem le_0 : letters "" = [] := by decide +kernel
theorem le_keys : letters "keys" = keysL := by decide +kernel
theorem le_look : letters "look" = lookL := by decide +kernel
theorem le_cb : letters ",b" = [44, 98] := by decide +kernel
theorem le_bc : letters "b," = [98, 44] := by decide +kernel
theorem le_orb : letters "|b" = [124, 98] := by decide +kernel
theorem le_bm : letters "b - " = [98, 32, 45, 32] := by decide +kernel
section
variable {k : Nat} {x : Str} (h : DeepT k (letters x))
include h
theorem deep0 : DeepT (k + 1) (letters ("" ++ "(" ++ x ++ ")")) := by
  rw [let_app, let_app, let_app, le_0, le_op, le_cl]
  exact .par h
theorem deep1 : DeepT (k + 1) (letters ("keys" ++ "(" ++ x ++ ")")) := by
  rw [let_app, let_app, let_app, le_keys, le_op, le_cl]
  have := DeepT.keys h
  simpa using this
theorem deep2 : DeepT (k + 1) (letters ("look" ++ "(" ++ (x ++ ",b") ++ ")")) := by
  rw [let_app, let_app, let_app, let_app, le_look, le_op, le_cl, le_cb]
  have := DeepT.look1 h
  simpa using this
theorem deep3 : DeepT (k + 1) (letters ("look" ++ "(" ++ ("b," ++ x) ++ ")")) := by
  rw [let_app, let_app, let_app, let_app, le_look, le_op, le_cl, le_bc]
  have := DeepT.look2 h
  simpa using this
theorem deep4 : DeepT (k + 1) (letters ("" ++ "(" ++ x ++ ")" ++ "|b")) := by
  rw [let_app, let_app, let_app, let_app, le_0, le_op, le_cl, le_orb]
  have := DeepT.parB h
  simpa using this
theorem deep5 : DeepT (k + 1) (letters ("b - " ++ ("keys" ++ "(" ++ x ++ ")"))) := by
  rw [let_app, let_app, let_app, let_app, le_bm, le_keys, le_op, le_cl]
  have := DeepT.bKeys h
  simpa using this
end
theorem str_len (x y : Str) : (x ++ y).length = x.length + y.length := Str.length_append x y
theorem deepT_asciiB {k : Nat} {T : List Nat} (h : DeepT k T) : (T.all fun c => decide (c < 128)) = true := by
  induction h with
  | a => decide
  | par _ ih => simp only [List.all_append, List.all_cons, List.all_nil, ih]; rfl
  | keys _ ih => simp only [List.all_append, List.all_cons, List.all_nil, ih]; rfl
  | look1 _ ih => simp only [List.all_append, List.all_cons, List.all_nil, ih]; rfl
  | look2 _ ih => simp only [List.all_append, List.all_cons, List.all_nil, ih]; rfl
  | parB _ ih => simp only [List.all_append, List.all_cons, List.all_nil, ih]; rfl
  | bKeys _ ih => simp only [List.all_append, List.all_cons, List.all_nil, ih]; rfl
theorem deepT_ascii {k : Nat} {T : List Nat} (h : DeepT k T) : ∀ c ∈ T, c < 128 := fun c hc => of_decide_eq_true (List.all_eq_true.mp (deepT_asciiB h) c hc)


structure LongB (m : Nat) (x : Str) : Prop where
  ex : ∃ ps, letters x = 97 :: chainT ps ∧ (∀ p ∈ ps, Good4 opL p) ∧ 1 + (bareL ps).length = m ∧ x.length = m
theorem long_a : LongB 1 "a" := ⟨[], by decide +kernel, fun _ h => (nomatch h), rfl, rfl⟩
theorem chainT_app : ∀ ps qs : List Lk, chainT (ps ++ qs) = chainT ps ++ chainT qs
  | [], _ => rfl
  | (i, c, j, w) :: r, qs => by
    rw [List.cons_append]
    show List.replicate i 32 ++ c :: (List.replicate j 32 ++ (w ++ chainT (r ++ qs))) = (List.replicate i 32 ++ c :: (List.replicate j 32 ++ (w ++ chainT r))) ++ chainT qs
    rw [chainT_app r qs]
    simp
theorem long_step {m c : Nat} {w : List Nat} {x y z : Str} (h : LongB m x) (hy : letters y = [c]) (hz : letters z = w) (hc : c ∈ opL) (hw : w ∈ prefL) : LongB (m + 1 + w.length) (x ++ y ++ z) := by
  obtain ⟨ps, e, hp, hm, hl⟩ := h.ex
  refine ⟨ps ++ [(0, c, 0, w)], ?_, ?_, ?_, ?_⟩
  · rw [let_app, let_app, e, hy, hz, chainT_app]
    simp [chainT]
  · intro p q
    rw [List.mem_append, List.mem_singleton] at q
    rcases q with q | rfl
    · exact hp p q
    · exact ⟨hc, hw, Nat.zero_le _, Nat.zero_le _, fun _ => ⟨rfl, rfl⟩⟩
  · have e : bareL (ps ++ [(0, c, 0, w)]) = bareL ps ++ c :: w := by simp [bareL]
    rw [e, List.length_append, List.length_cons]
    omega
  · rw [str_len, str_len, hl]
    have e1 : y.length = (letters y).length := rfl
    have e2 : z.length = (letters z).length := rfl
    rw [e1, e2, hy, hz]
    rfl
theorem long_end {m : Nat} {x b : Str} (h : LongB m x) (hb : letters b = [] ∨ letters b = [98]) : LongX opL (b.length + m) (b ++ x) ∧ (b ++ x).length = b.length + m := by
  obtain ⟨ps, e, hp, hm, hl⟩ := h.ex
  refine ⟨⟨letters b ++ [97], ps, ?_, ?_, hp, ?_⟩, by rw [str_len, hl]⟩
  · rw [let_app, e]; simp
  · rcases hb with hb | hb <;> rw [hb]
    · exact .inl rfl
    · exact .inr rfl
  · have e1 : b.length = (letters b).length := rfl
    rw [e1, List.length_append, ← hm]
    simp
    omega

theorem op_mul_strN {X : Cx} : OpR X (binaryOp .Mult) (fun x y H Q => ∃ z n, x = .str z ∧ y = .int n ∧ 0 ≤ n ∧ n ≤ 1000 ∧ 0 < z.length ∧ z.length ≤ 1000 ∧ Q (.str (repS z n.toNat)) H) := by
  intro pins s σ H x y v u Q I rx ry h
  obtain ⟨z, n, rfl, rfl, h1, h2, h3, h4, q⟩ := h
  by_cases e : n = 0
  · subst e
    obtain ⟨t, rfl⟩ := rx
    obtain ⟨t', rfl⟩ := ry
    have I1 : L2.Inv X pins σ H { s with toks := s.toks + 1 } := I.tok _
    exact PySem.P.mul_str_none (by decide) (by decide) ⟨.str Str.empty, H, I1, ⟨_, rfl⟩, q⟩
  · exact op_mul_str pins s σ H _ _ v u Q I rx ry ⟨z, n, rfl, rfl, by omega, h2, h3, h4, q⟩
end My
set_option Elab.async false
set_option linter.all false
set_option maxRecDepth 100000

namespace My
open PySem PySem.Spec PyProof.Rows L2
section
variable {n : Nat} {X : Cx} {x y : Str} {c : Value} {i : Nat} {body rest : List Stmt} {fst : Stmt} {np pos p2 : Pos} {tb : WX → TS} {ts : Addr → Value → Option Addr → TS} {Wout : WX} {pins : List (Addr × Obj)} {D : L2.Ends} {u : Value} {s : Shared}

abbrev Chain (X : Cx) (hs : List ExceptHandler) (pins : List (Addr × Obj)) (D : L2.Ends) (e : Value) (s : Shared) : Prop :=
  wpAny (model X.prog X.w) X.A (noteFrame e X.env) (fun _ t => wpAny (model X.prog X.w) X.A (setFlight e none) (fun _ t' => wpAny (model X.prog X.w) X.A (handleBy e X.env hs) (SP X pins D) X.xe t') X.xe t) X.xe s

theorem test_of {a : Addr} {pns : List (Addr × Obj)} {σ : L2.St} {H : Hp} {Q E : Value → Shared → Prop} (hc : Names X x c) {q : Addr × Obj} (S : Inv (X.suite a (q :: pns)) [] σ H s) (k : Q c s) :
    wpAny (model X.prog X.w) (X.A.mark (some (.ref a))) (eval (.Name x np) X.env) Q E s := by
  obtain ⟨hg, hd, h⟩ := hc
  rcases h with h | ⟨h, hv, ne⟩
  · exact ld_glob (X := X.suite a (q :: pns)) S hg h k hd
  · exact ld_blt (X := X.suite a (q :: pns)) S hg h hv k ne hd

theorem chain1 {nm : Option Str} {W Yes : WX} (st2 : X.stack = X.env :: X.outer) (fr2 : X.env.frame = some X.env.locals) (hc : Names X x c) (tk : Takes X Wout) (ok : X.Ok)
    (hW : ∀ cls d σ H, W cls d σ H → ∃ b, PySem.W.exmOne X.K cls c = some b ∧ (b = true → Yes cls d σ H) ∧ (b = false → Wout cls d σ H))
    (yes : ∀ (a : Addr) (B : Heap) (cls : Value) (d : Option Addr) (σ1 : L2.St) (H1 : Hp) (h : Heap), HandSPX.FlyingZ B (X.env :: X.outer) a (Zc cls d) h → Yes cls d σ1 H1 → H1 a = none → PySem.W.exmOne X.K cls c = some true → X.K.In h →
      (∀ (h' : Heap) (oe : Obj), HandSPX.FlyingZ B (X.env :: X.outer) a (Zc cls d) h' → h.UpToSlots h' → Zc cls d oe → (∃ vs, oe.data = .fields vs) → h'.get? a = some oe → Inv (X.suite a ((a, oe) :: (X.pn ++ pins))) [] σ1 H1 { s with heap := h' }) →
      wpAny (model X.prog X.w) X.A (handleBy (.ref a) X.env [.ExceptHandler (some (.Name x np)) nm (fst :: rest) p2]) (SP X pins D) X.xe { s with heap := h })
    (xx : XE (X.tr (X.pn ++ pins) (Chain X [.ExceptHandler (some (.Name x np)) nm (fst :: rest) p2] pins D)) W u s) : Chain X [.ExceptHandler (some (.Name x np)) nm (fst :: rest) p2] pins D u s := by
  have af : X.A.frames = some (X.env :: X.outer) := ok.frames.trans (congrArg some st2)
  obtain ⟨a, B, s0, ps, σ1, H1, cls, d, rfl, I0, old, lift, air, un, eo, eg, w⟩ := xx
  have I := I0.ofTry ok
  refine Sky.land Zc.steady af fr2 (show Sky B (X.env :: X.outer) a (Zc cls d) X.env.locals s.heap from st2 ▸ air) fun h fl up => ?_
  have sui : ∀ (h' : Heap) (oe : Obj), HandSPX.FlyingZ B (X.env :: X.outer) a (Zc cls d) h' → h.UpToSlots h' → Zc cls d oe → (∃ vs, oe.data = .fields vs) → h'.get? a = some oe → Inv (X.suite a ((a, oe) :: (X.pn ++ pins))) [] σ1 H1 { s with heap := h' } := by
    rintro h' oe fl' up' hz ⟨vs, ed⟩ eg'
    have In := I.landed (s' := { s with heap := h' }) old fl'.1 ((lift.trans up).trans up') eo eg
    have off : a ∉ frs (X.env :: X.outer) := fun hm => by
      obtain ⟨_, o2, e2, no⟩ := fl'.2.2.1.mem hm
      exact no _ (Option.some.inj (e2.symm.trans eg') ▸ ed)
    refine In.suite eg' ed un (fun z => off ?_) fun hm => off ?_
    · exact List.mem_filterMap.mpr ⟨_, .head _, fr2.trans (congrArg some z.symm)⟩
    · obtain ⟨e2, m2, f2⟩ := List.mem_filterMap.mp hm
      exact List.mem_filterMap.mpr ⟨_, .tail _ m2, f2⟩
  obtain ⟨oe, vs, e1, hz, e2⟩ := fl.there
  have S := sui h oe fl (Heap.UpToSlots.refl _) hz ⟨vs, e2⟩ e1
  obtain ⟨b, hm, hy, hn⟩ := hW _ _ _ _ w
  cases b with
  | true => exact yes a B cls d σ1 H1 h fl (hy rfl) un hm S.kIn sui
  | false =>
    refine PX.clause_passZ (s := { s with heap := h }) (Z := Zc cls d) (B := B) (outer := X.outer) S.kIn (fun o z => z.1) fl hm (test_of hc S) ?_
    refine PX.no_clauseZ (s := { s with heap := h }) (Z := Zc cls d) (B := B) (outer := X.outer) fr2 fl fun h' held up' => tk _ _ ?_
    exact ⟨a, B, s0, pins, σ1, H1, cls, d, rfl, I, old, (lift.trans up).trans up', .inr (.inr (st2 ▸ held)), un, eo, eg, hn rfl⟩
theorem out_try {W : WX} {f : Flow} {pn : List (Addr × Obj)} {xe : Value → Shared → Prop} (ok : X.Ok) (h : SP (X.tr (X.pn ++ pins) xe) [] D f s) : SP X pins D f s := by
  match f, h with
  | .next, ⟨_, _, J, q⟩ => exact ⟨_, _, J.ofTry ok, q⟩
  | .brk, ⟨_, _, J, q⟩ => exact ⟨_, _, J.ofTry ok, q⟩
  | .cont, ⟨_, _, J, q⟩ => exact ⟨_, _, J.ofTry ok, q⟩
  | .ret _, ⟨_, _, _, J, r, q⟩ => exact ⟨_, _, _, J.ofTry ok, r, q⟩
theorem psn_try_as (st2 : X.stack = X.env :: X.outer) (fr2 : X.env.frame = some X.env.locals) (hN : X.N.Nodup) (hi : X.N[i]? = some y) (lc : X.env.kindOf y = some .local) (hc : Names X x c) (tk : Takes X Wout)
    (hb : ∀ (W : WX) (pn : List (Addr × Obj)) (xe : Value → Shared → Prop), Takes (X.tr pn xe) W → PassesOwn (model X.prog X.w) X.A X.env xe → PSsn n (X.tr pn xe) body (tb W))
    (hsu : ∀ (a : Addr) (oe : Obj) (cls : Value) (d : Option Addr) (pn : List (Addr × Obj)), Zc cls d oe → (∃ vs, oe.data = .fields vs) → PSs (X.suite a ((a, oe) :: pn)) (fst :: rest) (ts a cls d)) :
    PSn n X (.Try body [.ExceptHandler (some (.Name x np)) (some y) (fst :: rest) p2] [] [] pos) (fun D σ H => tb (wAs X.K c i ts Wout D) D σ H) := by
  refine ⟨fun pins s σ H D hn I h => wpAny_Try_except ?_⟩
  have ok := I.ok
  refine wpAny_mono ((hb (wAs X.K c i ts Wout D) (X.pn ++ pins) (Chain X [.ExceptHandler (some (.Name x np)) (some y) (fst :: rest) p2] pins D) (fun u s' xx => ?_) PassesOwn.looking).run [] s σ H D hn (I.toTry _) h) (fun f s1 z => ?_) fun _ _ z => z
  · refine chain1 (Yes := fun cls d σ1 H1 => ∀ a, H1 a = none → ts a cls d { nx := fun σ' H' => D.nx (σ'.set i none) H', rt := D.rt, bk := fun σ' H' => D.bk (σ'.set i none) H', ct := fun σ' H' => D.ct (σ'.set i none) H' } (σ1.set i (some (.ref a))) H1) st2 fr2 hc tk ok
      (fun cls d σ1 H1 w => w) (fun a B cls d σ1 H1 h fl w un hm kin sui => ?_) xx
    obtain ⟨oe, vs, e1, hz, e2⟩ := fl.there
    refine PX.clause_asZ (s := { s' with heap := h }) (Z := Zc cls d) (B := B) (outer := X.outer) kin (fun o z => z.1) fl hm (test_of hc (sui h oe fl (Heap.UpToSlots.refl _) hz ⟨vs, e2⟩ e1)) fun h' fl' up' => ?_
    obtain ⟨oe', vs', e1', hz', e2'⟩ := HandSPX.FlyingZ.there fl'
    have S := sui h' oe' fl' up' hz' ⟨vs', e2'⟩ e1'
    refine store_ok (X := X.suite a ((a, oe') :: (X.pn ++ pins))) (v := .ref a) S hN hi (.inl lc) rfl (fun t S' => ?_) (.inr lc)
    refine wpAny_mono ((hsu a oe' cls d (X.pn ++ pins) hz' ⟨_, e2'⟩).run [] t _ H1 _ S' (w a un)) (fun f t' z => ?_) fun _ _ z => z.elim
    match f, z with
    | .next, ⟨_, _, S6, q⟩ => exact gone_ok (S6.unsuite ok) hN hi lc fun _ J => ⟨_, _, J, q⟩
    | .brk, ⟨_, _, S6, q⟩ => exact gone_ok (S6.unsuite ok) hN hi lc fun _ J => ⟨_, _, J, q⟩
    | .cont, ⟨_, _, S6, q⟩ => exact gone_ok (S6.unsuite ok) hN hi lc fun _ J => ⟨_, _, J, q⟩
    | .ret _, ⟨_, _, _, S6, r, q⟩ => exact gone_ok (S6.unsuite ok) hN hi lc fun _ J => ⟨_, _, _, J, r, q⟩
  · match f, z with
    | .next, ⟨_, _, J, q⟩ => exact wpAny_execs_nil ⟨_, _, J.ofTry ok, q⟩
    | .brk, ⟨_, _, J, q⟩ => exact ⟨_, _, J.ofTry ok, q⟩
    | .cont, ⟨_, _, J, q⟩ => exact ⟨_, _, J.ofTry ok, q⟩
    | .ret _, ⟨_, _, _, J, r, q⟩ => exact ⟨_, _, _, J.ofTry ok, r, q⟩
theorem psn_try_only (st2 : X.stack = X.env :: X.outer) (fr2 : X.env.frame = some X.env.locals) (hc : Names X x c) (tk : Takes X Wout)
    (hb : ∀ (W : WX) (pn : List (Addr × Obj)) (xe : Value → Shared → Prop), Takes (X.tr pn xe) W → PassesOwn (model X.prog X.w) X.A X.env xe → PSsn n (X.tr pn xe) body (tb W))
    (hsu : ∀ (a : Addr) (oe : Obj) (cls : Value) (d : Option Addr) (pn : List (Addr × Obj)), Zc cls d oe → (∃ vs, oe.data = .fields vs) → PSs (X.suite a ((a, oe) :: pn)) (fst :: rest) (ts a cls d)) :
    PSn n X (.Try body [.ExceptHandler (some (.Name x np)) none (fst :: rest) p2] [] [] pos) (fun D σ H => tb (wOnly X.K c ts Wout D) D σ H) := by
  refine ⟨fun pins s σ H D hn I h => wpAny_Try_except ?_⟩
  have ok := I.ok
  refine wpAny_mono ((hb (wOnly X.K c ts Wout D) (X.pn ++ pins) (Chain X [.ExceptHandler (some (.Name x np)) none (fst :: rest) p2] pins D) (fun u s' xx => ?_) PassesOwn.looking).run [] s σ H D hn (I.toTry _) h) (fun f s1 z => ?_) fun _ _ z => z
  · refine chain1 (Yes := fun cls d σ1 H1 => ∀ a, H1 a = none → ts a cls d D σ1 H1) st2 fr2 hc tk ok (fun cls d σ1 H1 w => w) (fun a B cls d σ1 H1 h fl w un hm kin sui => ?_) xx
    obtain ⟨oe, vs, e1, hz, e2⟩ := fl.there
    refine PX.clause_onlyZ (s := { s' with heap := h }) (Z := Zc cls d) (B := B) (outer := X.outer) kin (fun o z => z.1) fl hm (test_of hc (sui h oe fl (Heap.UpToSlots.refl _) hz ⟨vs, e2⟩ e1)) fun h' fl' up' => ?_
    obtain ⟨oe', vs', e1', hz', e2'⟩ := HandSPX.FlyingZ.there fl'
    refine wpAny_mono ((hsu a oe' cls d (X.pn ++ pins) hz' ⟨_, e2'⟩).run [] _ σ1 H1 _ (sui h' oe' fl' up' hz' ⟨vs', e2'⟩ e1') (w a un)) (fun f t' z => ?_) fun _ _ z => z.elim
    match f, z with
    | .next, ⟨_, _, S6, q⟩ => exact ⟨_, _, S6.unsuite ok, q⟩
    | .brk, ⟨_, _, S6, q⟩ => exact ⟨_, _, S6.unsuite ok, q⟩
    | .cont, ⟨_, _, S6, q⟩ => exact ⟨_, _, S6.unsuite ok, q⟩
    | .ret _, ⟨_, _, _, S6, r, q⟩ => exact ⟨_, _, _, S6.unsuite ok, r, q⟩
  · match f, z with
    | .next, ⟨_, _, J, q⟩ => exact wpAny_execs_nil ⟨_, _, J.ofTry ok, q⟩
    | .brk, ⟨_, _, J, q⟩ => exact ⟨_, _, J.ofTry ok, q⟩
    | .cont, ⟨_, _, J, q⟩ => exact ⟨_, _, J.ofTry ok, q⟩
    | .ret _, ⟨_, _, _, J, r, q⟩ => exact ⟨_, _, _, J.ofTry ok, r, q⟩
end
end My
set_option Elab.async false
set_option linter.all false
set_option maxRecDepth 100000

namespace My
open PySem PySem.Spec PyProof.Rows L2
section
variable {prog : Program} {w : World} {A : Around} {E : Value → Shared → Prop} {s : Shared}

theorem add_new {x y : Str} {t u : Tok} {Q : Value → Shared → Prop} (hx : x.length ≠ 0) (hy : y.length ≠ 0) (hsz : x.length + y.length ≤ sizeLine) (h : Q (.str (x ++ y) s.toks) { s with toks := s.toks + 1 }) : wpAny (model prog w) A (binaryOp .Add (.str x t) (.str y u)) Q E s := by
  refine binaryOp_concat (typeIs_str s x t) (typeIs_str s y u) PyProof.Rows.noFill_str_add PyProof.Rows.seq_str_add ?_
  refine wpAny_call_entry slot_str_add (typeIs_str s x t) entry_str_add ?_ (args_str_add _ _)
  show wpAny _ _ (do
    if (true && x.length == 0) = true then (do rule "str.__add__.left-empty"; ret (.str y u)) else
    if (true && y.length == 0) = true then (do rule "str.__add__.right-empty"; ret (.str x t)) else
    retStr (x ++ y)) _ _ s
  have e1 : (true && x.length == 0) = false := by simpa using hx
  have e2 : (true && y.length == 0) = false := by simpa using hy
  rw [e1, e2]
  exact wpAny_bind (wpAny_mkStr (wpAny_pure ⟨_, rfl, h⟩) (by rw [strLen_append]; exact hsz))
end

def tForS (i : Nat) (y : Str) (tb : Nat → TS) : TS := fun D σ H => ∃ W : Nat → L2.St → Hp → Prop, W 0 σ H ∧
  (∀ j c σ' H', y.cps[j]? = some c → W j σ' H' → tb c { D with nx := W (j + 1), ct := W (j + 1), bk := D.nx } (σ'.set i (some (.str ⟨#[c]⟩))) H') ∧ ∀ σ' H', W y.cps.size σ' H' → D.nx σ' H'
theorem psn_forS {n : Nat} {X : Cx} {x y : Str} {body : List Stmt} {tb : Nat → TS} {p pos cp : Pos} {i k0 : Nat} (hy : y.cps.all (· < 128) = true)
    (hp : PassesOwn (model X.prog X.w) X.A X.env X.xe) (hc : X.calm = true) (hN : X.N.Nodup) (hi : X.N[i]? = some x) (hk : X.env.scope.names.lookup x = some .local)
    (hb : ∀ (c : Nat) (t : Tok) (pins : List (Addr × Obj)) (s : Shared) (σ : L2.St) (H : Hp) (D : L2.Ends), n ≤ t → t < s.toks → Inv X pins σ H s → RawAt X x (.str ⟨#[c]⟩ t) s → tb c D σ H → wpAny (model X.prog X.w) X.A (execs body X.env) (SP X pins D) X.xe s)
    (hs : ∀ z, foldedSetIterable (.Constant (.str y) k0 cp) X.env z = pure z := by intro _; rfl) : PSn n X (.For (.Name x p) (.Constant (.str y) k0 cp) body [] pos) (tForS i y tb) := by
  refine ⟨fun pins s σ H D hn I h => ?_⟩
  obtain ⟨W, w0, step, fin⟩ := h
  refine wpAny_For (Calls.Constant_str ?_) hs
  refine wpAny_pyIter_ascii hy ?_
  have hn1 : n ≤ s.toks + 1 := Nat.le_succ_of_le hn
  have I1 : Inv X pins σ H { s with toks := s.toks + 1 } := I.tok _
  have f2 := I1.fpOk (H' := H) (Nat.le_refl _) (I1.hok.fresh (Nat.le_refl _))
  have I2 : Inv X pins σ H { s with heap := s.heap.push ({ cls := .type "str_ascii_iterator", data := .fields #[.str y s.toks, .int 0 0] } : Obj), toks := s.toks + 1 } := I1.kept (t' := s.toks + 1) fun b o e => Heap.get?_push_of_some _ e
  have it0 : (s.heap.push ({ cls := .type "str_ascii_iterator", data := .fields #[.str y s.toks, .int 0 0] } : Obj)).IsStrIter s.heap.objs.size "str_ascii_iterator" y s.toks 0 := ⟨_, Heap.get?_push_size _ rfl, rfl, rfl⟩
  show codeAny _ _ _ _ { s with heap := s.heap.push ({ cls := .type "str_ascii_iterator", data := .fields #[.str y s.toks, .int 0 0] } : Obj), toks := s.toks + 1 }
  generalize (s.heap.push ({ cls := .type "str_ascii_iterator", data := .fields #[.str y s.toks, .int 0 0] } : Obj)) = h1 at I2 it0 ⊢
  have f2 : H s.heap.objs.size = none ∧ _ := f2
  generalize s.heap.objs.size = it at f2 it0 ⊢
  generalize s.toks = t0 at I2 it0 hn1 ⊢
  have stat : ∀ {H' : Hp}, H' it = none → FpOk X pins H' it := fun z => ⟨z, f2.2⟩
  refine codeAny_forLoop_any (fun k s' => n ≤ s'.toks ∧ ∃ j σ' H', k + j = y.cps.size ∧ Inv X pins σ' H' s' ∧ s'.heap.IsStrIter it "str_ascii_iterator" y t0 j ∧ H' it = none ∧ W j σ' H') ?_ y.cps.size
    ⟨hn1, 0, σ, H, rfl, I2, it0, f2.1, w0⟩
  rintro k s3 ⟨hn3, j, σ3, H3, hkj, I3, st3, fr3, w3⟩
  obtain ⟨f0, f1, fz, f3, f4, f5⟩ := stat fr3
  cases k with
  | zero =>
    have hj : j = y.cps.size := by omega
    refine wpAny_passesOwn hp (wpAny_pyNext_ascii_end (I3.ok.hd hc) st3 (by rw [hj]; simp) fun h' eb => ?_)
    have I4 : Inv X pins σ3 H3 { s3 with heap := h' } := I3.turned (t' := s3.toks) (fun b o hb e => eb b o hb e) f0 f1 f3 f4 f5
    exact wpAny_execs_nil ⟨σ3, H3, I4, fin σ3 H3 (hj ▸ w3)⟩
  | succ k =>
    obtain ⟨c, ec⟩ : ∃ c, y.cps[j]? = some c := ⟨y.cps[j]'(by omega), Array.getElem?_eq_getElem _⟩
    refine wpAny_passesOwn hp (wpAny_pyNext_ascii_item st3 ec fun h' st' sb => ?_)
    have I4 : Inv X pins σ3 H3 { s3 with heap := h', toks := s3.toks + 1 } := I3.turned (t' := s3.toks + 1) (fun b o hb e => (sb.2 b hb).trans e) f0 f1 f3 f4 f5
    obtain ⟨oi, ei, ci, di⟩ := id st'
    refine wpAny_passesOwn hp (go_of (s := { s3 with heap := h', toks := s3.toks + 1 }) ei ci di (by decide) ?_)
    have I5 := I4.pinned (fp := [it]) (fun b hb => by obtain rfl := List.mem_singleton.mp hb; exact stat fr3) (fun b hb => by obtain rfl := List.mem_singleton.mp hb; exact ⟨oi, ei, fun v z => by rw [di] at z; cases z⟩)
    refine wpAny_passesOwn hp (wpAny_assign_Name (PySem.wpAny_with_toks (n := s3.toks + 1) (Nat.le_refl _) (store_raw (v := .str ⟨#[c]⟩) I5 hN hi hk ⟨s3.toks, rfl⟩ fun s6 I6 ra hn6 => ?_)))
    refine wpAny_passesOwn hp (thnK (n := s3.toks + 1) hn6 (hb c s3.toks _ s6 _ H3 _ hn3 hn6 I6 ra (step j c σ3 H3 ec w3)) fun f s7 hn7 q7 => ?_)
    have again : ∀ {σ7 : L2.St} {H7 : Hp}, Inv X (pins ++ pinsAt [it] h') σ7 H7 s7 → W (j + 1) σ7 H7 → ∃ m, m < k + 1 ∧ (n ≤ s7.toks ∧ ∃ j σ' H', m + j = y.cps.size ∧ Inv X pins σ' H' s7 ∧ s7.heap.IsStrIter it "str_ascii_iterator" y t0 j ∧ H' it = none ∧ W j σ' H') := fun {σ7 H7} I7 w7 => by
      have pin := I7.pin (it, oi) (List.mem_append_right _ (List.mem_append_right _ (mem_pinsAt (List.mem_singleton.mpr rfl) ei)))
      exact ⟨k, Nat.lt_succ_self k, Nat.le_trans (Nat.le_succ_of_le hn3) hn7, j + 1, σ7, H7, by omega, I7.unpinned, ⟨oi, pin.1, ci, di⟩, pin.2.1, w7⟩
    match f, q7 with
    | .next, ⟨σ7, H7, I7, n7⟩ => exact again I7 n7
    | .cont, ⟨σ7, H7, I7, n7⟩ => exact again I7 n7
    | .brk, ⟨σ7, H7, I7, q7⟩ => exact ⟨σ7, H7, I7.unpinned, q7⟩
    | .ret v, ⟨x7, σ7, H7, I7, r7, q7⟩ => exact ⟨x7, σ7, H7, I7.unpinned, r7, q7⟩

section
variable {n : Nat} {X : Cx} {pins : List (Addr × Obj)} {σ : L2.St} {H : Hp} {s : Shared}
theorem raw_kept {x : Str} {u : Value} {H' : Hp} {s' : Shared} (I : Inv X pins σ H s) (ra : RawAt X x u s) (un : Un (frs X.stack) [] H H' s.heap s'.heap) : RawAt X x u s' := by
  obtain ⟨m, ⟨o, es, ep, e, d, r⟩, hm⟩ := ra
  obtain ⟨sl, e'⟩ := un.any e I.free (fun z => nomatch z)
  exact ⟨m, ⟨_, es, ep, e', d, r⟩, hm⟩

theorem if_call0 {k i : Nat} {fx xb x : Str} {u : Value} {sp : Sp} {a1 a2 : Str} {m : Int} {v : V} {j0 j1 : Nat} {p p1 p2 p3 pc pq pos : Pos} {suite : List Stmt} {D : L2.Ends} {T : L2.St → Hp → Prop}
    (Df : Fn X.prog X.w X.K X.mg X.base k fx [a1, a2] sp) (hr : Room k X.A) (hg : Gl X fx) (hN : X.N[i]? = some xb) (hv : Vis X.env.scope xb) (I : Inv X pins σ H s) (hn : n ≤ s.toks) (ra : RawAt X x u s) (hσ : σ[i]? = some (some v))
    (h : sp [v, .int m] H (fun r H' => ∃ q : Int, r = .int q ∧ (q = 0 → T σ H') ∧ (q ≠ 0 → D.nx σ H')) E0)
    (go : ∀ s' H', n ≤ s'.toks → Inv X pins σ H' s' → RawAt X x u s' → T σ H' → wpAny (model X.prog X.w) X.A (execs suite X.env) (SP X pins D) X.xe s')
    (hd : (xb == ("__debug__" : Str)) = false := by decide) (hcd : (xb == ("__classdict__" : Str)) = false := by decide) (hdb : (fx == ("__debug__" : Str)) = false := by decide)
    (he : starEach [.Name xb p1, .Constant (.int m) j0 p2] X.env = [(false, eval (.Name xb p1) X.env), (false, eval (.Constant (.int m) j0 p2) X.env)] := by rfl) :
    wpAny (model X.prog X.w) X.A (execs [.If (.Compare (.Call (.Name fx p) [.Name xb p1, .Constant (.int m) j0 p2] [] pc) [.Eq] [.Constant (.int 0) j1 p3] pq) suite [] pos] X.env) (SP X pins D) X.xe s := by
  obtain ⟨f, fd, hm, F, kp, b⟩ := Df
  refine wpAny_execs_cons (wpAny_If (wpAny_isTrue_Compare1 (thnK (Q := fun v s' => ∃ q : Int, ∃ t H', v = .int q t ∧ Inv X pins σ H' s' ∧ RawAt X x u s' ∧ (q = 0 → T σ H') ∧ (q ≠ 0 → D.nx σ H')) hn ?_ fun v' s1 hn1 hh => ?_) (nomark _)))
  · refine wpAny_Call_Name_kw (ld_glob I hg hm ?_ hdb)
    refine PySem.W.callWith_K (h₀ := X.base) I.ok.mod.kin kp ?_ he rfl
    show wpAny _ _ (spliced ((false, eval (.Name xb p1) X.env) :: backTo pc (starEach [.Constant (.int m) j0 p2] X.env))) _ _ s
    refine Calls.spliced_cons (raw_name hN hv I hσ (fun v' r => ?_) hd hcd)
    show wpAny _ _ (spliced ((false, eval (.Constant (.int m) j0 p2) X.env) :: backTo pc (starEach [] X.env))) _ _ s
    refine Calls.spliced_cons (wpAny_Constant_int (Calls.spliced_nil ?_))
    have I1 : Inv X pins σ H { s with toks := s.toks + 1 } := I.tok _
    have r2 : Vals [v, V.int m] [v', Value.int m s.toks] := .cons r (.cons ⟨_, rfl⟩ .nil)
    refine ⟨I1.kIn, wpAny_call (codeAny_mono (F.run X.A X.stack { s with toks := s.toks + 1 } H ⟨[v', .int m s.toks], []⟩ [v', .int m s.toks] [v, .int m] _ E0 hr I1.env0 (b _ _ I1.kIn rfl) r2 h) fun r s' hq => ?_)⟩
    match r, hq with
    | .ok (.ret u'), hq =>
      obtain ⟨v2, H', J, rv, q, rfl, h1, h2⟩ := I1.after hq
      obtain ⟨_, _, _, _, un, _⟩ := hq
      obtain ⟨t, rfl⟩ := rv
      exact ⟨q, t, H', rfl, J, raw_kept I1 ra un, h1, h2⟩
  · obtain ⟨q, t, H', rfl, J, ra', h1, h2⟩ := hh
    refine wpAny_Constant_int (PyProof.Rows.eq_int (wpAny_truthy_bool ?_))
    have J' : Inv X pins σ H' { s1 with toks := s1.toks + 1 } := J.tok _
    by_cases e : q = 0
    · have eb : (q == 0) = true := by simpa using e
      rw [eb]
      refine wpAny_mono (go _ H' (Nat.le_succ_of_le hn1) J' ra' (h1 e)) (fun f s2 z => ?_) fun _ _ z => z
      match f, z with
      | .next, z => exact wpAny_execs_nil z
      | .brk, z => exact z
      | .cont, z => exact z
      | .ret _, z => exact z
    · have eb : (q == 0) = false := by simpa using e
      rw [eb]
      exact wpAny_execs_nil (wpAny_execs_nil ⟨σ, H', J', h2 e⟩)

theorem replV_asg {i : Nat} {kx kt : Str} {y z : Str} {t : Tok} {e1 : Expr} {te : TE} {j0 : Nat} {p0 p1 p2 cp bp apos pos pos' : Pos} {D : L2.Ends} (hN : X.N.Nodup) (hNt : X.N[i]? = some kt) (hvt : Loc X.env.scope kt) (hk : X.env.scope.names.lookup kx = some .local)
    (he : PE X e1 te) (I : Inv X pins σ H s) (ra : RawAt X kx (.str y t) s) (ht : t ≠ 0) (hts : t < s.toks) (hz : z.length ≠ 0)
    (h : ∃ x, σ[i]? = some (some (.str x)) ∧ te σ H fun v H1 => ∃ a, v = .str a ∧ a.length ≠ 0 ∧ a.length + z.length ≤ sizeLine ∧ (y == a ++ z) = false ∧ x.length + (x.length + 1) * (a ++ z).length ≤ 16777216 ∧ D.nx (σ.set i (some (.str (Txt.replace x y (a ++ z))))) H1)
    (hd : (kx == ("__debug__" : Str)) = false := by decide) (hdt : (kt == ("__debug__" : Str)) = false := by decide) (hct : (kt == ("__classdict__" : Str)) = false := by decide)
    (hst : starEach [.Name kx p2, .BinOp e1 .Add (.Constant (.str z) j0 cp) bp] X.env = [(false, eval (.Name kx p2) X.env), (false, eval (.BinOp e1 .Add (.Constant (.str z) j0 cp) bp) X.env)] := by rfl)
    (hbase : attributeBase (.Name kt p1) "replace" X.env (eval (.Name kt p1) X.env) = eval (.Name kt p1) X.env := by rfl) (hline : (apos.endLine == pos.line) = true := by rfl)
    (hs : swapsWith (.Call (.Attribute (.Name kt p1) "replace" apos) [.Name kx p2, .BinOp e1 .Add (.Constant (.str z) j0 cp) bp] [] pos) (some (.Name kt p0)) pos'.line X.env = pure false := by rfl)
    (hf : X.fn kt = true ∨ X.env.scope.names.lookup kt = some .local := by first | exact .inl rfl | exact .inr rfl | assumption) :
    wpAny (model X.prog X.w) X.A (execs [.Assign [.Name kt p0] (.Call (.Attribute (.Name kt p1) "replace" apos) [.Name kx p2, .BinOp e1 .Add (.Constant (.str z) j0 cp) bp] [] pos) pos'] X.env) (SP X pins D) X.xe s := by
  obtain ⟨x, hx, h⟩ := h
  refine wpAny_execs_cons (wpAny_Assign_Name (Q := fun v s1 => _) ?_ hs)
  refine PySem.Call_method2 hbase hst hline (raw_name hNt (hvt.elim .inl fun z => .inr (.inl z)) I hx (fun v r => ?_) hdt hct)
  obtain ⟨tx, rfl⟩ := r
  refine ⟨"str", _, F.plainAttrs_str, F.slot_str_replace, F.type_str_replace, typeIs_str _ _ _, (fun _ e => nomatch e), Calls.callWith_builtin rfl (Calls.evalArgs_plain (Calls.spliced_cons (raw_at I hk ra ?_ hd)))⟩
  refine Calls.spliced_cons (wpAny_BinOp (thnK (n := t + 1) hts (he.run pins s σ H _ I h) fun v s2 hn2 hh => ?_))
  obtain ⟨v2, H2, I2, r2, a, rfl, ha, hsz, hyz, hb, q⟩ := hh
  obtain ⟨ta, rfl⟩ := r2
  refine Calls.Constant_str (add_new ha hz hsz ?_)
  refine Calls.spliced_nil (PySem.SC.replace ht (show s2.toks + 1 ≠ 0 from Nat.succ_ne_zero _) (Nat.ne_of_lt (Nat.lt_succ_of_lt hn2)) hyz hb fun t2 k => ?_)
  have I3 : Inv X pins σ H2 { s2 with toks := k } := I2.tok _
  exact store_ok (v := .str (Txt.replace x y (a ++ z))) I3 hN hNt hvt ⟨t2, rfl⟩ (fun s4 I4 => wpAny_execs_nil ⟨_, H2, I4, q⟩) hf
end
end My
set_option Elab.async false
set_option linter.all false
set_option maxRecDepth 100000

namespace My
open PySem PySem.Spec PyProof.Rows L2
def tCallS (sp : Sp) (W : WX) (t : TA) : TE := fun σ H Q => t σ H fun vs H1 => sp vs H1 Q (WE W σ)
section
variable {n k : Nat} {X : Cx} {ps : List Str} {sp : Sp} {x : Str} {p pos : Pos} {e : Expr} {es : List Expr} {t : TA} {W : WX}
theorem pen_fnS (D : FnTb n X.prog X.w X.K X.mg X.base (L2.CX X.prog X.w) k x ps sp) (hr : Room k X.A) (hg : Gl X x) (tk : Takes X W) (ha : PAn n X (e :: es) t)
    (hdb : (x == ("__debug__" : Str)) = false := by decide) (he : starEach (e :: es) X.env = (false, eval e X.env) :: starEach es X.env := by rfl) (hpl : (backTo pos (starEach es X.env)).any (·.1) = false := by rfl) :
    PEn n X (.Call (.Name x p) (e :: es) [] pos) (tCallS sp W t) := by
  obtain ⟨f, fd, hm, F, kp, b⟩ := D
  refine ⟨fun pins s σ H Q hn I h => wpAny_Call_Name_kw (ld_glob I hg hm ?_ hdb)⟩
  refine PySem.W.callWith_K (h₀ := X.base) I.ok.mod.kin kp (thnK hn (ha.run pos pins s σ H _ hn I h) fun us s1 hn1 hh => ?_) he hpl
  obtain ⟨vs, H1, I1, r, q⟩ := hh
  have hl : us.length = ps.length := r.length.symm.trans (F.len _ _ _ _ q)
  have hb := b s1 us I1.kIn (by rw [List.append_nil]; exact hl)
  rw [List.append_nil] at hb
  refine ⟨I1.kIn, wpAny_call (codeAny_mono (F.run X.A X.stack s1 H1 ⟨us, []⟩ us vs Q (WE W σ) hn1 hr I1.env0 hb r q) fun r s' hq => ?_)⟩
  match r, hq with
  | .error e, hq => exact passAt tk σ pins H1 s1 e s' I1 hq
  | .ok (.ret u), hq => exact I1.after hq
end
section
variable {n : Nat} {X : Cx} {a b : Expr} {ta tb : TE} {pos : Pos}
theorem pen_ix {r : R2} (hr : IxR X r) (ha : PEn n X a ta) (hb : PE X b tb) (hs : PlainIx b) : PEn n X (.Subscript a b pos) (tOp r ta tb) := by
  refine ⟨fun pins s σ H Q hn I h => Subscript_ (thn (ha.run pins s σ H _ hn I h) fun v s1 hh => ?_)⟩
  obtain ⟨x, H1, I1, r1, q1⟩ := hh
  refine thn (hb.run pins s1 σ H1 _ I1 q1) fun u s2 hh => ?_
  obtain ⟨y, H2, I2, r2, q2⟩ := hh
  exact hr a b pins s2 σ H2 x y v u Q I2 r1 r2 q2 (hs _ _)
theorem op_neTK {K : PySem.W.Frag} (hK : X.K = K) (hu : X.A.units + 64 < cLine) : OpR X (compareOp .NotEq) (rNeT K) := by
  subst hK
  exact op_neT hu
end

def spReads : Sp := fun vs H Q _ => ∃ x : Str, vs = [.str x] ∧ x.length ≤ 1900 ∧ legal x ∧ ∀ H', Same H H' → Q (.bl (readE x).isSome) H'
def spRowReads : Sp := fun vs H Q _ => ∃ x : Str, vs = [.str x] ∧ x.length ≤ 1900 ∧ legal x ∧ (∀ d, readR x = some d → rowName x = "out") ∧ ∀ H', Same H H' → Q (.bl (readR x).isSome) H'
theorem readE_noE {x : Str} {d : PyData} (h : readE x = some d) : PyData.eqv d (.str "") = false := by
  unfold readE at h
  split at h
  · exact pE_noE h
  · cases h
theorem readR_tup {x : Str} {d : PyData} (h : readR x = some d) : ∃ e, d = .tuple [.str (rowName x), e] := by
  unfold readR at h
  split at h
  · split at h
    · cases q : pE (tokensOf (rowTail x)) with
      | none => rw [q] at h; cases h
      | some d2 =>
        rw [q] at h
        cases h
        unfold rowOf
        split
        · exact ⟨_, rfl⟩
        · exact ⟨_, rfl⟩
    · cases h
  · cases h
end My
set_option Elab.async false
set_option linter.all false
set_option maxRecDepth 100000

namespace My
open PySem PySem.Spec PyProof.Rows L2
theorem LongX.says {rest : List Nat} {m : Nat} {x : Str} (h : LongX rest m x) : (readE x).isSome = decide (m ≤ 200) := by
  obtain ⟨d, e⟩ := h.read
  unfold readE
  rw [h.nsp, e]
  by_cases z : m ≤ 200
  · rw [if_pos z, decide_eq_true z]; rfl
  · rw [if_neg z, decide_eq_false z]; rfl
theorem nsp_le (x : Str) : (noSpace x).length ≤ x.length := by
  have z := congrArg List.length (noSpace_cps x)
  have e : (noSpace x).length = (noSpace x).cps.toList.length := rfl
  have e2 : x.length = x.cps.toList.length := rfl
  rw [e, z, e2]
  exact List.length_filter_le _ _
theorem deep_says {k : Nat} {x : Str} (h : DeepT k (letters x)) (hl : x.length ≤ 200) : (readE x).isSome = decide (k ≤ 8) := by
  unfold readE
  rw [if_pos (Nat.le_trans (nsp_le x) hl)]
  exact deepT_read h
theorem nsp_len (x : Str) : (noSpace x).length = ((letters x).filter (· != 32)).length := congrArg List.length (noSpace_cps x)
theorem nspT {rest : List Nat} {m : Nat} {x : Str} (h : LongX rest m x) : ((letters x).filter (· != 32)).length = m := (nsp_len x).symm.trans h.nsp
theorem le_oe : letters "out = " = [111, 117, 116, 32] ++ 61 :: [32] := by decide +kernel
theorem le_oo : letters "out |=" = [111, 117, 116, 32, 124] ++ 61 :: [] := by decide +kernel
theorem le_om : letters "out -= " = [111, 117, 116, 32, 45] ++ 61 :: [32] := by decide +kernel
theorem eq_oe (x : Str) : "out = " ++ x = ofL ([111, 117, 116, 32] ++ 61 :: 32 :: letters x) := str_of_letters (by rw [let_app, le_oe]; rfl)
theorem eq_oo (x : Str) : "out |=" ++ x = ofL ([111, 117, 116, 32, 124] ++ 61 :: letters x) := str_of_letters (by rw [let_app, le_oo]; rfl)
theorem eq_om (x : Str) : "out -= " ++ x = ofL ([111, 117, 116, 32, 45] ++ 61 :: 32 :: letters x) := str_of_letters (by rw [let_app, le_om]; rfl)
theorem ofL_letters (x : Str) : ofL (letters x) = x := (str_of_letters rfl).symm
theorem row_oe {rest : List Nat} {m : Nat} {x : Str} (h : LongX rest m x) : (readR ("out = " ++ x)).isSome = decide (m ≤ 196) := by
  obtain ⟨d, e⟩ := h.read
  rw [eq_oe, row_anew, ofL_letters, e, nsp_len, letters_ofL]
  have c : (([111, 117, 116, 32] ++ 61 :: 32 :: letters x).filter (· != 32)).length = 4 + m := by
    show (111 :: 117 :: 116 :: 61 :: (letters x).filter (· != 32)).length = 4 + m
    have := nspT h
    simp only [List.length_cons]
    omega
  rw [c]
  by_cases z : m ≤ 196
  · rw [decide_eq_true z, decide_eq_true (by omega)]; rfl
  · rw [decide_eq_false z, decide_eq_false (by omega)]; rfl
theorem row_oo {rest : List Nat} {m : Nat} {x : Str} (h : LongX rest m x) : (readR ("out |=" ++ x)).isSome = decide (m ≤ 195) := by
  obtain ⟨d, e⟩ := h.read
  rw [eq_oo, row_or, ofL_letters, e, nsp_len, letters_ofL]
  have c : (([111, 117, 116, 32, 124] ++ 61 :: letters x).filter (· != 32)).length = 5 + m := by
    show (111 :: 117 :: 116 :: 124 :: 61 :: (letters x).filter (· != 32)).length = 5 + m
    have := nspT h
    simp only [List.length_cons]
    omega
  rw [c]
  by_cases z : m ≤ 195
  · rw [decide_eq_true z, decide_eq_true (by omega)]; rfl
  · rw [decide_eq_false z, decide_eq_false (by omega)]; rfl
theorem row_om {k : Nat} {x : Str} (h : DeepT k (letters x)) (hl : x.length ≤ 190) : (readR ("out -= " ++ x)).isSome = decide (k ≤ 8) := by
  rw [eq_om, row_minus, ofL_letters, deepT_read h]
  have lo : ("out -= " : Str).length = 7 := rfl
  have b : (noSpace (ofL ([111, 117, 116, 32, 45] ++ 61 :: 32 :: letters x))).length ≤ 200 := by
    rw [← eq_om]
    refine Nat.le_trans (nsp_le _) ?_
    rw [str_len, lo]
    omega
  rw [decide_eq_true b, Bool.true_and]
theorem name_of {H T : List Nat} (h : (61 : Nat) ∉ H) (hn : Txt.stripChars (if (!inV (V.str (cutS (ofL H) (some (-1)) none)) (opsL.map V.str)) = true then ofL H else cutS (ofL H) none (some (-1))) " " = "out") : rowName (ofL (H ++ 61 :: T)) = "out" := by
  unfold rowName rowAnew rowOp
  rw [(row_parts h).1]
  exact hn
theorem name_oe (x : Str) : rowName ("out = " ++ x) = "out" := by rw [eq_oe]; exact name_of (by decide) (by decide +kernel)
theorem name_oo (x : Str) : rowName ("out |=" ++ x) = "out" := by rw [eq_oo]; exact name_of (by decide) (by decide +kernel)
theorem name_om (x : Str) : rowName ("out -= " ++ x) = "out" := by rw [eq_om]; exact name_of (by decide) (by decide +kernel)
theorem asc_app {x y : Str} (h1 : ∀ c ∈ letters x, c < 128) (h2 : ∀ c ∈ letters y, c < 128) : ∀ c ∈ letters (x ++ y), c < 128 := by
  intro c hc
  rw [let_app, List.mem_append] at hc
  exact hc.elim (h1 c) (h2 c)
theorem asc_oe : ∀ c ∈ letters "out = ", c < 128 := by rw [le_oe]; decide
theorem asc_oo : ∀ c ∈ letters "out |=", c < 128 := by rw [le_oo]; decide
theorem asc_om : ∀ c ∈ letters "out -= ", c < 128 := by rw [le_om]; decide

def flatT : Str := Txt.join "|" (List.replicate 40 "(a)")
theorem flatT_len : flatT.length = 159 := by decide +kernel
theorem flatT_asc : ∀ c ∈ letters flatT, c < 128 := by decide +kernel
def parA : List Str := oP :: ([("a" : Str)] ++ [cP])
def flatE : List Str := parA ++ flatS (List.replicate 39 (("|" : Str), parA)) []
theorem flatT_words : tokensOf flatT = flatE := by
  refine TL.map_tl_inj ?_
  rw [tokens_wl]
  decide +kernel
theorem flatT_says : (readE flatT).isSome = true := by
  have hs : Sing (pIn 8) parA := sing_par (reads_one (sing_name a_name))
  have hr : Reads 8 flatE := reads_of hs (fun p q => by rw [(List.mem_replicate.mp q).2]; exact hs) fun p q => by rw [(List.mem_replicate.mp q).2]; decide
  obtain ⟨d, e⟩ := reads_whole hr
  unfold readE
  rw [if_pos (Nat.le_trans (nsp_le _) (by rw [flatT_len]; decide)), flatT_words, e]
  rfl
def nested (k : Nat) : Str := repS "(" k ++ "a" ++ repS ")" k
theorem nested_let8 : letters (nested 8) = [40, 40, 40, 40, 40, 40, 40, 40, 97, 41, 41, 41, 41, 41, 41, 41, 41] := by decide +kernel
theorem nested_let9 : letters (nested 9) = [40, 40, 40, 40, 40, 40, 40, 40, 40, 97, 41, 41, 41, 41, 41, 41, 41, 41, 41] := by decide +kernel
theorem nested8 : DeepT 8 (letters (nested 8)) := by
  rw [nested_let8]
  exact .par (.par (.par (.par (.par (.par (.par (.par .a)))))))
theorem nested9 : DeepT 9 (letters (nested 9)) := by
  rw [nested_let9]
  exact .par (.par (.par (.par (.par (.par (.par (.par (.par .a))))))))
theorem says8 : (readE (nested 8)).isSome = true := deep_says nested8 (by decide +kernel)
theorem says9 : (readE (nested 9)).isSome = false := deep_says nested9 (by decide +kernel)
end My
set_option Elab.async false
set_option linter.all false
set_option maxRecDepth 100000
set_option maxHeartbeats 4000000

namespace My
open PySem PySem.Spec PyProof.Rows L2
section
variable {prog : Program} {w : World} {A : Around} {E : Value → Shared → Prop} {s : Shared}

def selTo (a n : Int) (i : Nat) : Bool := if (1 : Int) > 0 then a ≤ i && i < n && (i - a) % 1 == 0 else n < i && i ≤ a && (a - i) % (-1) == 0
theorem selTo_eq {a n i : Nat} (hi : i < n) : selTo (a : Int) (n : Int) i = decide (a ≤ i) := by
  unfold selTo
  rw [if_pos (by decide)]
  have e1 : decide (((i : Nat) : Int) < (n : Int)) = true := decide_eq_true (by omega)
  have e2 : (((i : Nat) : Int) - (a : Int)) % 1 = 0 := Int.emod_one _
  rw [e1, e2]
  have e3 : decide ((a : Int) ≤ (i : Int)) = decide (a ≤ i) := decide_eq_decide.mpr (by omega)
  rw [e3]
  simp
theorem kept_to {α : Type} (a n : Nat) : ∀ (xs : List α) (k : Nat), k + xs.length ≤ n → ((xs.zipIdx k).filterMap fun (x, j) => if selTo (a : Int) (n : Int) j then none else some x) = xs.take (a - k)
  | [], k, _ => by simp
  | x :: r, k, h => by
    rw [List.length_cons] at h
    have ih := kept_to a n r (k + 1) (by omega)
    rw [List.zipIdx_cons, List.filterMap_cons]
    have e := selTo_eq (a := a) (show k < n by omega)
    by_cases q : a ≤ k
    · simp only [e, decide_eq_true q, if_true]
      rw [ih, show a - k = 0 by omega, show a - (k + 1) = 0 by omega]
      simp
    · simp only [e, decide_eq_false q, Bool.false_eq_true, if_false]
      rw [ih, show a - k = (a - (k + 1)) + 1 by omega, List.take_succ_cons]
set_option maxRecDepth 100000 in
theorem delItem_slice {l sl : Addr} {items : Array Value} {n : Nat} {vl : Value} {a : Nat} {Q : Unit → Shared → Prop} (e : s.heap.get? l = some { cls := .type "list", data := .seq items n }) (hs : s.heap.IsSliceOf sl vl .none .none) (pl : IsPart vl (some (a : Int)))
    (ha : a ≤ items.size) (hz : items.size ≤ sizeLine) (h : Q () { s with heap := s.heap.update l (Obj.mapSeq fun xs => (xs.toList.zipIdx.filterMap fun (x, k) => if selTo (a : Int) (items.size : Int) k then none else some x).toArray) }) : wpAny (model prog w) A (delItem (.ref l) (.ref sl)) Q E s := by
  have hl : s.heap.IsList l items := PySem.IsL.isList e
  obtain ⟨os, hos, hcs, hds⟩ := id hs
  have hTs : s.TypeIs (.ref sl) "slice" := ⟨os, hos, hcs⟩
  have hstep : ¬ ((rawPart none == rawInt 0) = true) := Bool.false_ne_true
  unfold delItem
  refine wpAny_holding ?_
  refine wpAny_bind (wpAny_sequenceKey hl.typeIs (by decide) ?_)
  refine wpAny_bind (wpAny_callSpecial?_slot (name := Str.ofString "__delitem__") hl.typeIs F.slot_list_delitem (wpAny_call_entry F.slot_list_delitem hl.typeIs F.entry_list_delitem ?_ (F.args_list_delitem_2 _ _)))
  show wpAny _ _ (Builtin.List.listSubscript? (.ref sl) >>= _) _ _ s
  refine wpAny_bind ?_
  unfold Builtin.List.listSubscript?
  refine wpAny_bind (wpAny_specialOf hTs slice_no_index ?_)
  simp only [Option.isNone_none, if_true]
  refine wpAny_pure ?_
  show wpAny _ _ (typeOf (.ref sl) >>= _) _ _ s
  refine wpAny_bind (wpAny_typeOf hTs ?_)
  first
    | rw [if_neg (by decide)]
    | refine PySem.W.KFB.if_not (by decide) ?_
  rw [listSliceParts_eq]
  refine wpAny_bind (wpAny_bind (wpAny_field hos hds (x := .none) rfl (wpAny_bind (wpAny_listPart .none ?_))))
  rw [if_neg hstep]
  refine wpAny_bind (wpAny_field hos hds (x := vl) rfl (wpAny_bind (wpAny_listPart pl ?_)))
  refine wpAny_bind (wpAny_field hos hds (x := .none) rfl (wpAny_bind (wpAny_listPart .none (wpAny_pure ?_))))
  unfold Builtin.List.listItems
  refine wpAny_bind (wpAny_bind (wpAny_seqItems e rfl (wpAny_pure ?_)))
  have hb : sliceBounds (some (a : Int)) none none items.size = ((a : Int), (items.size : Int), 1) := by
    rw [sliceBounds_plain]
    have : clipAt items.size (a : Int) = a := by unfold clipAt; rw [if_neg (by omega)]; omega
    show (((clipAt items.size (a : Int) : Nat) : Int), ((items.size : Nat) : Int), (1 : Int)) = _
    rw [this]
  refine wpAny_bind (wpAny_of_eq ((sliceIndices_raw (some (a : Int)) none none items.size (by simp)).trans (congrArg (pure : Int × Int × Int → Sem (Int × Int × Int)) hb)) ?_)
  refine wpAny_bind (wpAny_rule ?_)
  have ef : ∀ xs : Array Value, xs.size = items.size → (xs.toList.zipIdx.filterMap fun (x, k) => if selTo (a : Int) (items.size : Int) k then none else some x).toArray = (xs.toList.take a).toArray := by
    intro xs hx
    rw [kept_to a items.size xs.toList 0 (by rw [Array.length_toList]; omega)]
    rfl
  show wpAny _ _ (updateSeq l (fun xs => (xs.toList.zipIdx.filterMap fun (x, k) => if selTo (a : Int) (items.size : Int) k then none else some x).toArray) >>= _) _ _ s
  have hz' : ((fun xs : Array Value => (xs.toList.zipIdx.filterMap fun (x, k) => if selTo (a : Int) (items.size : Int) k then none else some x).toArray) items).size ≤ sizeLine + 1 := by
    show ((items.toList.zipIdx.filterMap fun (x, k) => if selTo (a : Int) (items.size : Int) k then none else some x).toArray).size ≤ _
    rw [ef items rfl, List.size_toArray, List.length_take, Array.length_toList]
    omega
  refine wpAny_bind (wpAny_updateSeq (hz := hz) (_hz' := hz') e rfl ?_)
  refine wpAny_bind (wpAny_letGo ?_)
  first
    | exact wpAny_pure ⟨.none, rfl, wpAny_pure h⟩
    | exact wpAny_bind (wpAny_pure (wpAny_pure ⟨.none, rfl, wpAny_pure h⟩))
end
section
variable {X : Cx}

def tDelSl (to ta : TE) : TS := fun D σ H => to σ H fun x H1 => ta σ H1 fun y H2 => ∃ (l : Addr) (xs : List V) (a : Nat), x = .ref l ∧ y = .int (a : Int) ∧ H2 l = some (.lst xs) ∧ a ≤ xs.length ∧ D.nx σ (upd H2 l (.lst (xs.take a)))
theorem ps_delSl {o e : Expr} {to te : TE} {p2 tpos pos : Pos} (ho : PE X o to) (he : PE X e te) : PS X (.Delete [.Subscript o (.Slice (some e) none none p2) tpos] pos) (tDelSl to te) := by
  refine ⟨fun pins s σ H D I h => ?_⟩
  refine wpAny_Delete (wpAny_deleteEach_cons (wpAny_delete_Subscript (thn (ho.run pins s σ H _ I h) fun u s1 ⟨x, H1, I1, rx, q1⟩ => ?_)))
  have hp : PO X (some e) (tPart te) := po_some he
  refine wpAny_Slice ?_
  rw [evalPart_some]
  refine thn (he.run pins s1 σ H1 _ I1 q1) fun iv s2 ⟨y, H2, I2, ry, q2⟩ => ?_
  obtain ⟨l, xs, a, ex, ey, hH, ha, q2⟩ := q2
  subst ex
  subst ey
  cases (show u = Value.ref l from rx)
  obtain ⟨t, rfl⟩ := (show ∃ t, iv = Value.int (a : Int) t from ry)
  rw [evalPart_none]
  refine wpAny_pure ?_
  refine wpAny_pure ?_
  have I4 : Inv X pins σ H2 { s2 with heap := s2.heap.push { cls := .type "slice", data := .fields #[.int (a : Int) t, .none, .none] } } := I2.kept (t' := s2.toks) fun b ob q => Heap.get?_push_of_some _ q
  obtain ⟨z, its, n, r, hl, e⟩ := I4.lstM hH
  refine delItem_slice (a := a) e (Heap.IsSliceOf.new ..) (.int _ _) (by rw [List.size_toArray]; omega) (by rw [List.size_toArray]; omega) (wpAny_deleteEach_nil ⟨σ, _, ?_, q2⟩)
  refine I4.lset (its' := its.take a) (t' := s2.toks) hH e ?_ (r.take a) ?_
  · show ((its.toArray.toList.zipIdx.filterMap fun (x, k) => if selTo (a : Int) (its.toArray.size : Int) k then none else some x).toArray) = (its.take a).toArray
    rw [kept_to a its.toArray.size its.toArray.toList 0 (by rw [List.size_toArray]; simp)]
    simp
  · rw [List.length_take]
    omega
end
section
variable {prog : Program} {w : World} {A : Around} {E : Value → Shared → Prop} {s : Shared}

theorem star_items {l : Addr} {x : Value} {its : List Value} {Q : List Value → Shared → Prop} (hl : IsTup s.heap l (x :: its).toArray) (hh : A.handled = none) (hz : its.length ≤ 1000)
    (h : ∀ (D : Addr) (h' : Heap) (tk : Nat), (∀ b o, s.heap.get? b = some o → h'.get? b = some o) → s.heap.get? D = none → h'.get? D = some { cls := .type "list", data := .seq its.toArray } → Q [x, .ref D] { s with heap := h', toks := tk }) :
    wpAny (model prog w) A (unpackItems (.ref l) 2 (some 1)) Q E s := by
  have hlt : l ≠ s.heap.objs.size := by obtain ⟨o, ho, _⟩ := hl; exact Nat.ne_of_lt (Heap.lt_size ho)
  unfold unpackItems
  refine wpAny_bind ?_
  unfold notIterableAtAll
  refine wpAny_bind (wpAny_specialOf hl.typeIs slot_tuple_iter.lookup ?_)
  refine wpAny_pure ?_
  simp only [Bool.false_eq_true, if_false]
  refine wpAny_bind (wpAny_holding (iter_tuple hl ?_))
  refine wpAny_bind (wpAny_holding (draw_tuple hlt 1 0 _ _ ⟨_, Heap.get?_push_size _ rfl, rfl, rfl⟩ (hl.push _) (by simp) fun h₁ hit₁ hs₁ => ?_))
  have hl₁ : IsTup h₁ l (x :: its).toArray := (hl.push _).extBut hs₁.extBut hlt
  rw [Nat.zero_add] at hit₁
  have hit₁' := hit₁
  obtain ⟨oi, hoi, _⟩ := hit₁'
  have hl₁' := hl₁
  obtain ⟨ol, hol, _⟩ := hl₁'
  show wpAny _ _ (if ((x :: its).take 1).length < 1 then _ else _) _ _ _
  rw [if_neg (by simp)]
  have sz : sizeLine = 16777216 := sizeLine_eq
  refine wpAny_bind (wpAny_holding (PySem.W.kun_collect (s := { s with heap := h₁ }) (T := "tuple_iterator") (.inr (.inr (.inr rfl))) (Walks.tuple (A := A.in1) hh s.heap.objs.size l hlt (x :: its).toArray) (fun j u st => st.1.typeIs) (k := 1) (by simp) ⟨hit₁, hl₁⟩ (Heap.lt_size hoi) (Heap.lt_size hol) (fun h₂ tk hk => ?_) (by rw [List.size_toArray, List.length_cons, sz]; omega)))
  show wpAny _ _ (if its.length < 0 then _ else _) _ _ _
  rw [if_neg (by omega)]
  show wpAny _ _ (newList (its.take (its.length - 0)) >>= fun d => pure ([x] ++ [d] ++ its.drop (its.length - 0))) _ _ _
  rw [Nat.sub_zero, List.take_length, List.drop_length]
  have he : ∀ b o, s.heap.get? b = some o → h₂.get? b = some o := fun b o e => hk b o (Nat.ne_of_lt (Heap.lt_size e)) (hs₁.extBut b o (Nat.ne_of_lt (Heap.lt_size e)) (Heap.get?_push_of_some _ e))
  have hnew : s.heap.get? h₂.objs.size = none := by
    cases q : s.heap.get? h₂.objs.size with
    | none => rfl
    | some o => exact absurd (Heap.lt_size (he _ _ q)) (Nat.lt_irrefl _)
  refine wpAny_bind (PySem.wpAny_newList ?_ (by rw [sz]; omega))
  exact wpAny_pure (h _ _ tk (fun b o e => Heap.get?_push_of_some _ (he b o e)) hnew (Heap.get?_push_size _ rfl))
end
section
variable {X : Cx}

def gStar (K : PySem.W.Frag) (t : TGs) : TG := fun v σ H Q => ∃ a x xs, v = .ref a ∧ SqT K H a (x :: xs) ∧ xs.length ≤ 1000 ∧ ∀ D, H D = none → t [x, .ref D] σ (upd H D (.lst xs)) Q
theorem pg_star {w r : Expr} {k : Nat} {t : TGs} {sp pos : Pos} (hc : X.calm = true) (h : PGs X [w, r] t)
    (ha : assignEach [w, .Starred r sp] X.env = [(false, assign w X.env), (true, assign r X.env)] := by rfl) (hb : (assignEach [w, r] X.env).map (·.2) = [assign w X.env, assign r X.env] := by rfl) : PG X (.Tuple [w, .Starred r sp] k pos) (gStar X.K t) := by
  refine ⟨fun pins s σ H v u Q I rr hw => ?_⟩
  obtain ⟨a, x, xs, e1, hq, hl, hw⟩ := hw
  subst e1
  cases rr
  obtain ⟨its, rv, ht, hz⟩ := I.tuple hq
  cases rv with
  | cons rx rxs =>
  rename_i u0 us
  have hln := rxs.length
  rw [assign_Tuple, ha]
  refine wpAny_bind (wpAny_standAt ?_)
  unfold unpack
  refine wpAny_bind (wpAny_holding (star_items (x := u0) (its := us) ht (I.ok.hd hc) (by omega) fun D h' tk hk hD hgD => ?_))
  have hnD : H D = none := I.hok.gone hD
  have I1 : Inv X pins σ (upd H D (.lst xs)) { s with heap := h', toks := tk } := I.laidN (t' := tk) hk hD hnD ⟨by rw [sizeLine_eq]; omega, us, 0, rxs, hgD⟩
  have hz2 := h.run pins _ σ _ [x, .ref D] [u0, .ref D] Q I1 (.cons rx (.cons rfl .nil)) (hw D hnD)
  rw [hb] at hz2
  exact hz2
end
end My
set_option Elab.async false
set_option linter.all false
set_option maxRecDepth 100000
set_option maxHeartbeats 4000000

namespace My
open PySem PySem.Spec PyProof.Rows L2
inductive Ex
  | nm (s : Str)
  | keys (a : Ex)
  | bin (w : Str) (a b : Ex)
namespace Ex
def d : Ex → PyData
  | nm s => .str s
  | keys a => .tuple [.str "keys", a.d]
  | bin w a b => .tuple [.str w, a.d, b.d]
def size : Ex → Nat
  | nm _ => 1
  | keys a => a.size + 1
  | bin _ a b => a.size + b.size + 1

def bw : Ex → List Str
  | nm s => [s]
  | keys a => "keys" :: a.bw
  | bin w a b => w :: (b.bw ++ a.bw)
def words (e : Ex) : List Str := e.bw.reverse
def Ok : Ex → Prop
  | nm s => nameOk s = true
  | keys a => a.Ok
  | bin w a b => (w ∈ ops5 ∨ w = "look") ∧ a.Ok ∧ b.Ok
theorem size_pos : ∀ e : Ex, 1 ≤ e.size
  | nm _ => Nat.le_refl _
  | keys a => by unfold size; omega
  | bin _ a b => by unfold size; omega
theorem bw_len : ∀ e : Ex, e.bw.length = e.size
  | nm _ => rfl
  | keys a => by unfold bw size; rw [List.length_cons, bw_len a]
  | bin _ a b => by unfold bw size; rw [List.length_cons, List.length_append, bw_len a, bw_len b]; omega
theorem tre : ∀ e : Ex, My.tre e.d = true
  | nm _ => rfl
  | keys a => by unfold d My.tre treAll treAll treAll; rw [tre a]; rfl
  | bin _ a b => by unfold d My.tre treAll treAll treAll treAll; rw [tre a, tre b]; rfl
def sum (es : List Ex) : Nat := (es.map size).sum
def bws (es : List Ex) : List Str := es.reverse.flatMap bw
theorem bws_snoc (es : List Ex) (e : Ex) : bws (es ++ [e]) = e.bw ++ bws es := by unfold bws; rw [List.reverse_append]; rfl
theorem sum_snoc (es : List Ex) (e : Ex) : sum (es ++ [e]) = sum es + e.size := by unfold sum; rw [List.map_append, List.sum_append]; simp
theorem bws_app (es fs : List Ex) : bws (es ++ fs) = bws fs ++ bws es := by unfold bws; rw [List.reverse_append, List.flatMap_append]
theorem sum_app (es fs : List Ex) : sum (es ++ fs) = sum es + sum fs := by unfold sum; rw [List.map_append, List.sum_append]
theorem bws_len (es : List Ex) : (bws es).length = sum es := by
  unfold bws sum
  rw [List.length_flatMap]
  have e : (fun a : Ex => a.bw.length) = size := funext bw_len
  rw [e, List.map_reverse, List.sum_reverse]

theorem cases2 : ∀ e : Ex, (∃ s, e = nm s) ∨ ∃ (x : Str) (as : List Ex), as.length ≤ 2 ∧ e.d = .tuple (.str x :: as.map Ex.d) ∧ e.bw = x :: bws as ∧ e.size = sum as + 1
  | nm s => .inl ⟨s, rfl⟩
  | keys a => .inr ⟨"keys", [a], by simp, rfl, by unfold bw bws; simp, by unfold size sum; simp⟩
  | bin w a b => .inr ⟨w, [a, b], by simp, rfl, by unfold bw bws; simp, by unfold size sum; simp⟩
theorem sum_len : ∀ es : List Ex, es.length ≤ sum es
  | [] => Nat.le_refl _
  | e :: r => by
    have := sum_len r
    have := size_pos e
    show r.length + 1 ≤ e.size + sum r
    omega
end Ex
theorem iteTS {c : Bool} {A B : Prop} (e : c = true) (h : A) : if c = true then A else B := by rw [if_pos e]; exact h
theorem iteFS {c : Bool} {A B : Prop} (e : c = false) (h : B) : if c = true then A else B := by rw [e, if_neg Bool.false_ne_true]; exact h

abbrev DE (K : PySem.W.Frag) (H : Hp) (v : V) (e : Ex) : Prop := Dp K H v e.d
abbrev DEs (K : PySem.W.Frag) (H : Hp) (vs : List V) (es : List Ex) : Prop := DpAll K H vs (es.map Ex.d)
theorem extT_dps {K : PySem.W.Frag} {H H' : Hp} (x : ExtT H H') {vs : List V} {es : List Ex} (h : DEs K H vs es) : DEs K H' vs es := by
  refine extT_dpAll x _ _ ?_ h
  clear h
  induction es with
  | nil => rfl
  | cons e r ih => show treAll (e.d :: r.map Ex.d) = true; unfold treAll; rw [Ex.tre e]; exact ih
theorem extT_de {K : PySem.W.Frag} {H H' : Hp} (x : ExtT H H') {v : V} {e : Ex} (h : DE K H v e) : DE K H' v e := extT_dp x _ _ (Ex.tre e) h
theorem dpAll_snoc {K : PySem.W.Frag} {H : Hp} {vs : List V} {es : List Ex} {e : Ex} (h : DEs K H vs (es ++ [e])) : ∃ ws v, vs = ws ++ [v] ∧ DEs K H ws es ∧ DE K H v e := by
  induction es generalizing vs with
  | nil =>
    cases h with
    | cons a b => cases b; exact ⟨[], _, rfl, .nil, a⟩
  | cons e2 r ih =>
    cases h with
    | cons a b =>
      obtain ⟨ws, v, rfl, h1, h2⟩ := ih b
      exact ⟨_ :: ws, v, rfl, .cons a h1, h2⟩
def spWords (K : PySem.W.Frag) : Sp := fun vs H Q _ => ∃ (v : V) (e : Ex), vs = [v] ∧ DE K H v e ∧ e.size ≤ 900 ∧ ∀ p H', Same H H' → H p = none → H' p = some (.lst (e.words.map V.str)) → Q (.ref p) H'
end My
set_option Elab.async false
set_option linter.all false
set_option maxRecDepth 100000
set_option maxHeartbeats 4000000

namespace My
open PySem PySem.Spec PyProof.Rows L2
def arity (w : Str) : Option Nat := if w ∈ ops5 ∨ w = "look" then some 2 else if w = "keys" then some 1 else none

structure KdOps (K : PySem.W.Frag) (w : World) (r : Addr) : Prop where
  kd : ∃ es n, KDict K w r es n
  no : ∀ z, arity z = none → PySem.W.nsIn K r z = some none
  yes : ∀ z n, arity z = some n → ∃ t, PySem.W.nsIn K r z = some (some (.int (n : Int) t))
theorem rI0_to {g : Int → Int → V} {i j : Int} {v : V} {H : Hp} {Q : VK} (e : g i j = v) (q : Q v H) : rI0 g (.int i) (.int j) H Q := ⟨i, j, rfl, rfl, e ▸ q⟩
theorem cut_up (xs : List V) {a : Nat} (h : a ≤ xs.length) : cutV xs (some (a : Int)) none = xs.drop a := by
  unfold cutV
  have e1 : HT.sIx xs.length 0 (some (a : Int)) = a := by
    rw [HT.sIx_nat]; omega
  have e2 : HT.sIx xs.length xs.length none = xs.length := rfl
  rw [e1, e2]
  exact List.take_of_length_le (by rw [List.length_drop]; omega)
section
variable {α : Type}
def ev (env : Str → Option α) (stp : Str → List α → Option α) : List Str → List α → Option (List α)
  | [], st => some st
  | w :: r, st => match arity w with
    | none => (env w).bind fun x => ev env stp r (st ++ [x])
    | some n => if n ≤ st.length then (stp w (st.drop (st.length - n))).bind fun y => ev env stp r (st.take (st.length - n) ++ [y]) else none
inductive All2 (R : V → α → Prop) : List V → List α → Prop
  | nil : All2 R [] []
  | cons {v : V} {x : α} {vs : List V} {xs : List α} : R v x → All2 R vs xs → All2 R (v :: vs) (x :: xs)
variable {R R' : V → α → Prop}
theorem All2.len : ∀ {vs : List V} {xs : List α}, All2 R vs xs → vs.length = xs.length
  | _, _, .nil => rfl
  | _, _, .cons _ h => congrArg (· + 1) h.len
theorem All2.app : ∀ {vs ws : List V} {xs ys : List α}, All2 R vs xs → All2 R ws ys → All2 R (vs ++ ws) (xs ++ ys)
  | _, _, _, _, .nil, g => g
  | _, _, _, _, .cons a h, g => .cons a (h.app g)
theorem All2.mono (f : ∀ v x, R v x → R' v x) : ∀ {vs : List V} {xs : List α}, All2 R vs xs → All2 R' vs xs
  | _, _, .nil => .nil
  | _, _, .cons a h => .cons (f _ _ a) (h.mono f)
theorem All2.take (n : Nat) : ∀ {vs : List V} {xs : List α}, All2 R vs xs → All2 R (vs.take n) (xs.take n) := by
  induction n with
  | zero => intro vs xs _; rw [List.take_zero, List.take_zero]; exact .nil
  | succ n ih =>
    intro vs xs h
    cases h with
    | nil => exact .nil
    | cons a h => exact .cons a (ih h)
theorem All2.drop (n : Nat) : ∀ {vs : List V} {xs : List α}, All2 R vs xs → All2 R (vs.drop n) (xs.drop n) := by
  induction n with
  | zero => intro vs xs h; exact h
  | succ n ih =>
    intro vs xs h
    cases h with
    | nil => exact .nil
    | cons a h => exact ih h
theorem All2.at' : ∀ {vs : List V} {xs : List α} {i : Nat} {v : V} {x : α}, All2 R vs xs → vs[i]? = some v → xs[i]? = some x → R v x
  | _, _, 0, _, _, .cons a _, e, f => by cases e; cases f; exact a
  | _, _, i + 1, _, _, .cons _ h, e, f => h.at' (i := i) (by simpa using e) (by simpa using f)
  | _, _, 0, _, _, .nil, e, _ => by cases e
  | _, _, _ + 1, _, _, .nil, e, _ => by cases e

theorem ev_name {env : Str → Option α} {stp : Str → List α → Option α} {w : Str} {r : List Str} {st : List α} {z : List α} (ha : arity w = none) (h : ev env stp (w :: r) st = some z) : ∃ x, env w = some x ∧ ev env stp r (st ++ [x]) = some z := by
  unfold ev at h
  rw [ha] at h
  cases e : env w with
  | none => rw [e] at h; cases h
  | some x => rw [e] at h; exact ⟨x, rfl, h⟩
theorem ev_op {env : Str → Option α} {stp : Str → List α → Option α} {w : Str} {r : List Str} {st : List α} {z : List α} {n : Nat} (ha : arity w = some n) (h : ev env stp (w :: r) st = some z) :
    n ≤ st.length ∧ ∃ y, stp w (st.drop (st.length - n)) = some y ∧ ev env stp r (st.take (st.length - n) ++ [y]) = some z := by
  unfold ev at h
  rw [ha] at h
  by_cases hn : n ≤ st.length
  · rw [show (match (some n : Option Nat) with
      | none => (env w).bind fun x => ev env stp r (st ++ [x])
      | some n => if n ≤ st.length then (stp w (st.drop (st.length - n))).bind fun y => ev env stp r (st.take (st.length - n) ++ [y]) else none) = (stp w (st.drop (st.length - n))).bind fun y => ev env stp r (st.take (st.length - n) ++ [y]) from if_pos hn] at h
    cases e : stp w (st.drop (st.length - n)) with
    | none => rw [e] at h; cases h
    | some y => rw [e] at h; exact ⟨hn, y, rfl, h⟩
  · rw [show (match (some n : Option Nat) with
      | none => (env w).bind fun x => ev env stp r (st ++ [x])
      | some n => if n ≤ st.length then (stp w (st.drop (st.length - n))).bind fun y => ev env stp r (st.take (st.length - n) ++ [y]) else none) = none from if_neg hn] at h
    cases h

structure Keeps (Rl : Hp → V → α → Prop) : Prop where
  same : ∀ {H H' : Hp} {v : V} {x : α}, Same H H' → Rl H v x → Rl H' v x
  lst : ∀ {H : Hp} {s : Addr} {l o : List V} {v : V} {x : α}, H s = some (.lst l) → Rl H v x → Rl (upd H s (.lst o)) v x
def spStepE (Rl : Hp → V → α → Prop) (stp : Str → List α → Option α) : Sp := fun vs H Q _ => ∃ w l us xs y, vs = [.str w, .ref l] ∧ H l = some (.lst us) ∧ All2 (Rl H) us xs ∧ arity w = some xs.length ∧ stp w xs = some y ∧ ∀ v H', Same H H' → Rl H' v y → Q v H'
def spEval (K : PySem.W.Frag) (Rl : Hp → V → α → Prop) (stp : Str → List α → Option α) (f : Addr) : Sp := fun vs H Q _ => ∃ (wa d : Addr) (ws : List Str) (kvs : List (Key × V)) (env : Str → Option α) (z : α), vs = [.ref wa, .ref d, .ref f] ∧
  (SqL K H wa (ws.map V.str) ∨ SqT K H wa (ws.map V.str)) ∧ ws.length ≤ 1000 ∧ H d = some (.dK kvs) ∧ (∀ x y, env x = some y → ∃ v, valV kvs (.inr x) = some v ∧ Rl H v y) ∧ ev env stp ws [] = some [z] ∧ ∀ v H', Same H H' → Rl H' v z → Q v H'
end
end My
set_option Elab.async false
set_option linter.all false
set_option maxRecDepth 100000
set_option maxHeartbeats 4000000

namespace My
open PySem PySem.Spec PyProof.Rows L2
abbrev Pt := Str × Nat
def closed (p : Pt) (l : Nat) : Str := if l ≤ p.2 then p.1 else Str.empty ++ "(" ++ p.1 ++ ")"
def shownCall (w : Str) (ps : List Pt) : Pt := (Str.empty ++ w ++ "(" ++ Txt.join ", " (ps.map (·.1)) ++ ")", 5)
def shownOp (i : Nat) (w : Str) (a b : Pt) : Pt := (Str.empty ++ closed a i ++ " " ++ w ++ " " ++ closed b (i + 1), i)
def lvl (w : Str) : Option Nat := if w = "|" then some 0 else if w = "^" then some 1 else if w = "&" then some 2 else if w = "-" then some 3 else if w = "@" then some 4 else none

def RP (K : PySem.W.Frag) (H : Hp) (v : V) (p : Pt) : Prop := ∃ r, v = .ref r ∧ SqT K H r [.str p.1, .int (p.2 : Int)] ∧ p.1.length ≤ 20000
def stpShow (w : Str) (ps : List Pt) : Option Pt := match lvl w with
  | some i => match ps with
    | [a, b] => some (shownOp i w a b)
    | _ => none
  | none => some (shownCall w ps)

def FitP (ps : List Pt) : Prop := ps.length ≤ 2 ∧ ∀ p ∈ ps, p.1.length ≤ 9000
def stpShowF (w : Str) (ps : List Pt) : Option Pt := if w.length ≤ 4 ∧ ps.length ≤ 2 ∧ (ps.all fun p => decide (p.1.length ≤ 9000)) = true then stpShow w ps else none
theorem keeps_RP {K : PySem.W.Frag} : Keeps (RP K) where
  same := fun s ⟨r, e, h, l⟩ => ⟨r, e, sqT_same s h, l⟩
  lst := fun {H s l o v x} hs ⟨r, e, h, lx⟩ => ⟨r, e, by
    rcases h with (h | ⟨u, h⟩) | h
    · exact .inl (.inl ((upd_ne (fun z => by rw [z, hs] at h; cases h)).trans h))
    · exact .inl (.inr ⟨u, (upd_ne (fun z => by rw [z, hs] at h; cases h)).trans h⟩)
    · exact .inr h, lx⟩
def spClosed (K : PySem.W.Frag) : Sp := fun vs H Q _ => ∃ v p l, vs = [v, .int ((l : Nat) : Int)] ∧ RP K H v p ∧ Q (.str (closed p l)) H
theorem closed_len (p : Pt) (l : Nat) : (closed p l).length ≤ p.1.length + 2 := by
  unfold closed
  split
  · omega
  · rw [app_len, app_len, app_len]
    have h1 : ("(" : Str).length = 1 := rfl
    have h2 : (")" : Str).length = 1 := rfl
    have h3 : Str.empty.length = 0 := rfl
    omega
theorem lvl_at {w : Str} {i : Nat} (h : lvl w = some i) : i < 5 ∧ ops5[i]? = some w := by
  unfold lvl at h
  repeat' split at h
  all_goals first | (cases h; subst_vars; exact ⟨by decide, rfl⟩) | cases h
theorem inV_ops (w : Str) : inV (V.str w) [V.str "|", .str "^", .str "&", .str "-", .str "@"] = (lvl w).isSome := by
  have e : inV (V.str w) [V.str "|", .str "^", .str "&", .str "-", .str "@"] = (("|" == w) || (("^" == w) || (("&" == w) || (("-" == w) || (("@" == w) || false))))) := rfl
  rw [e]
  unfold lvl
  have c : ∀ x : Str, (x == w) = decide (w = x) := fun x => by
    by_cases q : w = x
    · rw [q]; simp
    · rw [decide_eq_false q]
      exact beq_eq_false_iff_ne.mpr fun z => q z.symm
  rw [c, c, c, c, c]
  repeat' split
  all_goals simp_all
theorem sum_9000 : ∀ xs : List Pt, (∀ p ∈ xs, p.1.length ≤ 9000) → ((xs.map (·.1)).map (·.length)).sum ≤ 9000 * xs.length
  | [], _ => Nat.zero_le _
  | p :: r, h => by
    have := sum_9000 r fun q hq => h q (List.mem_cons_of_mem _ hq)
    have := h p List.mem_cons_self
    show p.1.length + ((r.map (·.1)).map (·.length)).sum ≤ 9000 * (r.length + 1)
    omega
theorem ops5_inj {i j : Nat} {w : Str} (h : ops5[i]? = some w) (g : ops5[j]? = some w) : i = j := by
  have nd : ops5.Nodup := by decide
  obtain ⟨h1, h2⟩ := List.getElem?_eq_some_iff.mp h
  obtain ⟨g1, g2⟩ := List.getElem?_eq_some_iff.mp g
  exact (List.getElem_inj nd).mp (h2.trans g2.symm)
theorem join_le (sep : Str) : ∀ texts : List Str, (Txt.join sep texts).length ≤ (texts.map (·.length)).sum + texts.length * sep.length := by
  intro texts
  show (Builtin.Str.glued sep texts).length ≤ _
  rw [StrLaws.glued_eq_join]
  exact StrLaws.join_length_le sep texts
theorem join_eq (sep : Str) (texts : List Str) : Txt.join sep texts = Str.join sep texts := StrLaws.glued_eq_join sep texts
theorem shown_fit {w : Str} {ps : List Pt} {y : Pt} (h : stpShowF w ps = some y) : w.length ≤ 4 ∧ ps.length ≤ 2 ∧ (∀ p ∈ ps, p.1.length ≤ 9000) ∧ stpShow w ps = some y := by
  unfold stpShowF at h
  split at h
  · rename_i q
    refine ⟨q.1, q.2.1, fun p hp => ?_, h⟩
    have := List.all_eq_true.mp q.2.2 p hp
    simpa using this
  · cases h
end My
set_option Elab.async false
set_option linter.all false
set_option maxRecDepth 100000
set_option maxHeartbeats 4000000

namespace My
open PySem PySem.Spec PyProof.Rows L2
theorem call_len_seqQ {X : Cx} {K : PySem.W.Frag} (h : X.K = K) : CallR X (.builtin "len") (fun xs H Q => ∃ p ys, xs = [.ref p] ∧ (SqL K H p ys ∨ SqT K H p ys) ∧ Q (.int ys.length) H) := by subst h; exact call_len_seq
def showE : Ex → Pt
  | .nm s => (s, 5)
  | .keys a => shownCall "keys" [showE a]
  | .bin w a b => match lvl w with
    | some i => shownOp i w (showE a) (showE b)
    | none => shownCall w [showE a, showE b]
def envN (s : Str) : Option Pt := if nameOk s = true then some (s, 5) else none
theorem Ex.words_keys (a : Ex) : (Ex.keys a).words = a.words ++ ([("keys" : Str)] : List Str) := by
  show ((("keys" : Str) :: a.bw).reverse) = a.bw.reverse ++ _
  rw [List.reverse_cons]
theorem Ex.words_bin (w : Str) (a b : Ex) : (Ex.bin w a b).words = a.words ++ (b.words ++ [w]) := by
  show ((w :: (b.bw ++ a.bw)).reverse) = a.bw.reverse ++ (b.bw.reverse ++ [w])
  rw [List.reverse_cons, List.reverse_append, List.append_assoc]
theorem word_fit {w : Str} (h : w ∈ ops5 ∨ w = "look") : w.length ≤ 4 ∧ arity w = some 2 := by
  refine ⟨?_, if_pos h⟩
  rcases h with h | rfl
  · have : ∀ w ∈ ops5, w.length ≤ 4 := by decide
    exact this w h
  · decide
theorem name_ar {s : Str} (h : nameOk s = true) : arity s = none := by
  unfold arity
  rw [if_neg, if_neg]
  · rintro rfl
    rw [show nameOk "keys" = false from by decide +kernel] at h
    cases h
  · rintro (q | rfl)
    · have : ∀ w ∈ ops5, nameOk w = false := by decide +kernel
      rw [this s q] at h
      cases h
    · rw [show nameOk "look" = false from by decide +kernel] at h
      cases h
theorem Ex.words_short : ∀ {e : Ex}, e.Ok → ∀ x ∈ e.words, x.length ≤ 4
  | .nm s, h, x, hx => by
    obtain rfl : x = s := by simpa [Ex.words, Ex.bw] using hx
    exact name_len h
  | .keys a, h, x, hx => by
    rw [Ex.words_keys] at hx
    rcases List.mem_append.mp hx with q | q
    · exact Ex.words_short (e := a) h x q
    · rw [List.mem_singleton.mp q]; decide
  | .bin w a b, h, x, hx => by
    rw [Ex.words_bin] at hx
    rcases List.mem_append.mp hx with q | q
    · exact Ex.words_short (e := a) h.2.1 x q
    · rcases List.mem_append.mp q with q | q
      · exact Ex.words_short (e := b) h.2.2 x q
      · rw [List.mem_singleton.mp q]; exact (word_fit h.1).1
theorem Ex.word_kind : ∀ {e : Ex}, e.Ok → ∀ x ∈ e.words, nameOk x = true ∨ x ∈ (("look" : Str) :: "keys" :: ops5)
  | .nm s, h, x, hx => by
    obtain rfl : x = s := by simpa [Ex.words, Ex.bw] using hx
    exact .inl h
  | .keys a, h, x, hx => by
    rw [Ex.words_keys] at hx
    rcases List.mem_append.mp hx with q | q
    · exact Ex.word_kind (e := a) h x q
    · rw [List.mem_singleton.mp q]; exact .inr (by decide)
  | .bin w a b, h, x, hx => by
    rw [Ex.words_bin] at hx
    rcases List.mem_append.mp hx with q | q
    · exact Ex.word_kind (e := a) h.2.1 x q
    · rcases List.mem_append.mp q with q | q
      · exact Ex.word_kind (e := b) h.2.2 x q
      · rw [List.mem_singleton.mp q]
        rcases h.1 with z | z
        · exact .inr (List.mem_cons_of_mem _ (List.mem_cons_of_mem _ z))
        · rw [z]; exact .inr List.mem_cons_self
theorem Ex.words_sm {e : Ex} (h : e.Ok) (x : Str) (hx : x ∈ e.words) : sm (.str x) := by
  rcases Ex.word_kind h x hx with q | q
  · exact name_sm q
  · have : ∀ y ∈ (("look" : Str) :: "keys" :: ops5), (PyData.canLay0 (.str y) = true) ∧ PyData.weight (.str y) ≤ 100000 := by decide +kernel
    exact ⟨(this x q).2, .inl (this x q).1⟩
theorem Ex.words_len (e : Ex) : e.words.length = e.size := by unfold Ex.words; rw [List.length_reverse, Ex.bw_len]
theorem show_len : ∀ {e : Ex}, e.Ok → (showE e).1.length ≤ 12 * e.size
  | .nm s, h => by
    have : s.length ≤ 4 := name_len h
    show s.length ≤ 12 * 1
    omega
  | .keys a, h => by
    have ih := show_len (e := a) h
    show (shownCall "keys" [showE a]).1.length ≤ 12 * (a.size + 1)
    unfold shownCall
    have j := join_le ", " [(showE a).1]
    have j2 : (([(showE a).1]).map (·.length)).sum = (showE a).1.length := by simp
    rw [j2, show (", " : Str).length = 2 from rfl] at j
    rw [app_len, app_len, app_len, app_len]
    have h1 : ("(" : Str).length = 1 := rfl
    have h2 : (")" : Str).length = 1 := rfl
    have h3 : Str.empty.length = 0 := rfl
    have h4 : ("keys" : Str).length = 4 := rfl
    have h5 : [(showE a).1].length = 1 := rfl
    have h6 : List.map (fun x => x.fst) [showE a] = [(showE a).1] := rfl
    rw [h6]
    omega
  | .bin w a b, h => by
    have iha := show_len (e := a) h.2.1
    have ihb := show_len (e := b) h.2.2
    have hw := (word_fit h.1).1
    have h1 : ("(" : Str).length = 1 := rfl
    have h2 : (")" : Str).length = 1 := rfl
    have h3 : Str.empty.length = 0 := rfl
    have h4 : (" " : Str).length = 1 := rfl
    show (match lvl w with | some i => shownOp i w (showE a) (showE b) | none => shownCall w [showE a, showE b]).1.length ≤ 12 * (a.size + b.size + 1)
    cases lvl w with
    | some i =>
      show (shownOp i w (showE a) (showE b)).1.length ≤ _
      unfold shownOp
      rw [app_len, app_len, app_len, app_len, app_len]
      have c1 := closed_len (showE a) i
      have c2 := closed_len (showE b) (i + 1)
      omega
    | none =>
      show (shownCall w [showE a, showE b]).1.length ≤ _
      unfold shownCall
      have j := join_le ", " [(showE a).1, (showE b).1]
      have j2 : (([(showE a).1, (showE b).1]).map (·.length)).sum = (showE a).1.length + (showE b).1.length := by simp
      rw [j2, show (", " : Str).length = 2 from rfl] at j
      rw [app_len, app_len, app_len, app_len]
      have h5 : [(showE a).1, (showE b).1].length = 2 := rfl
      have h6 : List.map (fun x => x.fst) [showE a, showE b] = [(showE a).1, (showE b).1] := rfl
      rw [h6]
      omega
theorem ev_app_op {α : Type} {env : Str → Option α} {stp : Str → List α → Option α} {w : Str} {r : List Str} {st xs : List α} {y : α} (ha : arity w = some xs.length) (hs : stp w xs = some y) : ev env stp (w :: r) (st ++ xs) = ev env stp r (st ++ [y]) := by
  rw [ev, ha]
  show (if xs.length ≤ (st ++ xs).length then _ else none) = _
  have e1 : (st ++ xs).length - xs.length = st.length := by rw [List.length_append]; omega
  rw [if_pos (by rw [List.length_append]; omega), e1, List.drop_left, List.take_left, hs]
  rfl
theorem ev_show {env : Str → Option Pt} : ∀ {e : Ex} (r : List Str) (st : List Pt), e.Ok → e.size ≤ 300 → (∀ s ∈ e.words, nameOk s = true → env s = some (s, 5)) → ev env stpShowF (e.words ++ r) st = ev env stpShowF r (st ++ [showE e])
  | .nm s, r, st, ho, _, hE => by
    have hs : env s = some (s, 5) := hE s (by simp [Ex.words, Ex.bw]) ho
    show ev env stpShowF (s :: r) st = _
    rw [ev, name_ar ho, hs]
    rfl
  | .keys a, r, st, ho, hz, hE => by
    have sz : a.size + 1 ≤ 300 := hz
    rw [Ex.words_keys, List.append_assoc, ev_show (e := a) _ st ho (by omega) fun s hs => hE s (by rw [Ex.words_keys]; exact List.mem_append_left _ hs)]
    refine ev_app_op (xs := [showE a]) rfl ?_
    unfold stpShowF
    rw [if_pos]
    · rfl
    · refine ⟨by decide, by simp, ?_⟩
      have := show_len (e := a) ho
      simp only [List.all_cons, List.all_nil, Bool.and_true]
      exact decide_eq_true (by omega)
  | .bin w a b, r, st, ho, hz, hE => by
    have sz : a.size + b.size + 1 ≤ 300 := hz
    rw [Ex.words_bin, List.append_assoc, ev_show (e := a) _ st ho.2.1 (by omega) fun s hs => hE s (by rw [Ex.words_bin]; exact List.mem_append_left _ hs),
      List.append_assoc, ev_show (e := b) _ _ ho.2.2 (by omega) fun s hs => hE s (by rw [Ex.words_bin]; exact List.mem_append_right _ (List.mem_append_left _ hs)), List.append_assoc]
    refine ev_app_op (xs := [showE a, showE b]) (word_fit ho.1).2 ?_
    have la := show_len (e := a) ho.2.1
    have lb := show_len (e := b) ho.2.2
    unfold stpShowF
    rw [if_pos]
    · unfold stpShow
      show (match lvl w with | some i => some (shownOp i w (showE a) (showE b)) | none => some (shownCall w [showE a, showE b])) = some (match lvl w with | some i => shownOp i w (showE a) (showE b) | none => shownCall w [showE a, showE b])
      cases lvl w <;> rfl
    · refine ⟨(word_fit ho.1).1, by simp, ?_⟩
      simp only [List.all_cons, List.all_nil, Bool.and_true]
      rw [decide_eq_true (by omega), decide_eq_true (by omega)]
      rfl
theorem putK_len {κ : Type} [DecidableEq κ] (kvs : List (κ × V)) (k : κ) (v : V) : (putK kvs k v).length ≤ kvs.length + 1 := by
  unfold putK
  split
  · rw [List.length_map]; omega
  · rw [List.length_append]; exact Nat.le_refl _
theorem sqT_put {K : PySem.W.Frag} {H : Hp} {d a : Addr} {kvs : List (Key × V)} {o : HO} {xs : List V} (hd : H d = some (.dK kvs)) (h : SqT K H a xs) : SqT K (upd H d o) a xs := by
  rcases h with (h | ⟨u, h⟩) | h
  · exact .inl (.inl ((upd_ne (fun z => by rw [z, hd] at h; cases h)).trans h))
  · exact .inl (.inr ⟨u, (upd_ne (fun z => by rw [z, hd] at h; cases h)).trans h⟩)
  · exact .inr h
def spShowE (K : PySem.W.Frag) : Sp := fun vs H Q _ => ∃ (v : V) (e : Ex), vs = [v] ∧ DE K H v e ∧ e.Ok ∧ e.size ≤ 300 ∧ ∀ H', Same H H' → Q (.str (showE e).1) H'
section
variable {X : Cx}

theorem ps_setDc {i : Nat} {y : Str} {py : Pos} {kx vx tg iter : Expr} {ifs : List Expr} {scope : Scope} {own : List (Str × Nat)} {pos spos : Pos} {wi : TI} {g : TG} {tt : TT} {tk tv : TE} (hc : X.calm = true) (hN : X.N.Nodup) (hy : X.N[i]? = some y) (hyl : X.env.scope.names.lookup y = some .local)
    (hsw : swapsWith (.DictComp kx vx [⟨tg, iter, ifs, 0⟩] scope pos) (some (.Name y py)) spos.line X.env = pure true) (hi : PI X tg iter wi) (ok : BlkOk X.N X.env.scope scope own)
    (hg : ∀ (s : Shared) (H : Hp) (C : Addr) (cl : List (Str × Addr)) (fp : List Addr), PG (X.blk s H scope (compEnvC scope cl C X.env) fp) tg g) (ht : ∀ (s : Shared) (H : Hp) (C : Addr) (cl : List (Str × Addr)) (fp : List Addr), PTs (X.blk s H scope (compEnvC scope cl C X.env) fp) ifs tt)
    (hk : ∀ (s : Shared) (H : Hp) (C : Addr) (cl : List (Str × Addr)) (fp : List Addr), PE (X.blk s H scope (compEnvC scope cl C X.env) fp) kx tk)
    (he : ∀ (s : Shared) (H : Hp) (C : Addr) (cl : List (Str × Addr)) (fp : List Addr), PE (X.blk s H scope (compEnvC scope cl C X.env) fp) vx tv) (hs : ∀ x, foldedSetIterable iter X.env x = pure x := by intro _; rfl) :
    PS X (.Assign [.Name y py] (.DictComp kx vx [⟨tg, iter, ifs, 0⟩] scope pos) spos) (tAsg (tDc wi g tt tk tv (own.map (·.2))) (gName i)) := by
  refine ⟨fun pins s σ H D I h => ?_⟩
  rw [exec_Assign_Name_used _ _ _ _ hsw]
  refine wpAny_bind (wpAny_standAt (wpAny_bind ?_))
  show wpAny _ X.A (do let _ ← comprehension (.DictComp kx vx [⟨tg, iter, ifs, 0⟩] scope pos) scope X.env (firstIterPos [⟨tg, iter, ifs, 0⟩] pos) (newDict) false (eval iter X.env) (some (assign (.Name y py) X.env))) _ _ s
  have h : tDc wi g tt tk tv (own.map (·.2)) σ H (fun x H1 => gName i x σ H1 D.nx) := h
  refine wpAny_bind (thn (dc_core (Qf := fun _ s' => SP X pins D .next s') hc hN I hi ok hg ht hk he hs h fun L C s' m H' I' q hn f => ?_) fun _ s' hq => wpAny_pure (wpAny_pure hq))
  show wpAny _ _ (assign (.Name y py) X.env (.ref L)) _ _ _
  refine wpAny_assign_Name (store_ok2 (v := V.ref L) I' hN hy (.inl hyl) rfl (fun s2 I2 ⟨a, sb, ha⟩ => ?_) (.inr hyl))
  obtain ⟨f0, f1, f2, f3, f4, f5⟩ := f
  have haC : C ≠ a := by
    rcases ha with z | z
    · rw [z]; exact f1
    · exact fun e => f4 y a z e.symm
  refine ⟨m, hn.sameBut sb haC, fun h3 sb3 => ?_⟩
  exact ⟨_, H', I2.turned (t' := s2.toks) (fun b o hb e => (sb3.2 b hb).trans e) f0 f1 f3 f4 f5, q⟩
theorem sw_trueD {kx vx : Expr} {gs : List Comprehension} {scope : Scope} {pos py : Pos} {y : Str} {l : Nat} {env : Env} (hk : env.scope.kind = .function) (hy : env.scope.names.lookup y = some .local) (hl : (py.line == pos.line) = true)
    (ha : (scope.names.any fun (n, k) => n == y && (k == .local || k == .cell)) = false) : swapsWith (.DictComp kx vx gs scope pos) (some (.Name y py)) l env = pure true := by
  have ky : env.kindOf y = some .local := hy
  have hb : env.blockKind = .function := by unfold Env.blockKind; rw [hk]; rfl
  unfold swapsWith
  simp only [hb, ky, ha, Expr.pos, hl]
  rfl
theorem dc_list {K : PySem.W.Frag} {a : Addr} {xs : List V} {g : TG} {tt : TT} {tk tv : TE} {vs : List Nat} {σ : L2.St} {H1 : Hp} {D : Addr} {Qd : Hp → Prop} (Pv : Nat → Hp → Prop) (h0 : Pv 0 (upd H1 D (.dK []))) (hl : ∀ i H, i ≤ xs.length → Pv i H → SqL K H a xs)
    (hs : ∀ i x H, xs[i]? = some x → Pv i H → g x (wipe σ vs) H fun σ2 H2 => wipe σ2 vs = wipe σ vs ∧ tt σ2 H2 fun b H3 =>
      if b = true then tk σ2 H3 fun y H4 => tv σ2 H4 fun z H5 => ∃ kvs k, y = kV k ∧ H5 D = some (.dK kvs) ∧ kvs.length < sizeLine ∧ Pv (i + 1) (upd H5 D (.dK (putK kvs k z))) else Pv (i + 1) H3) (hd : ∀ H, Pv xs.length H → Qd H) :
    ∃ W : Nat → Nat → Hp → Prop, (∃ m, W 0 m (upd H1 D (.dK []))) ∧ ∀ i m H, W i m H →
      ((Itl K a).stop i H ∧ Qd H) ∨ ((Itl K a).go i H ∧ ∃ Nx : Hp → Prop, (∀ H', Nx H' → ∃ m', m' < m ∧ W (i + 1) m' H') ∧ ∀ x H', (Itl K a).yld i H x H' → g x (wipe σ vs) H' fun σ2 H2 => wipe σ2 vs = wipe σ vs ∧ tt σ2 H2 fun b H3 =>
        if b = true then tk σ2 H3 fun y H4 => tv σ2 H4 fun z H5 => ∃ kvs k, y = kV k ∧ H5 D = some (.dK kvs) ∧ kvs.length < sizeLine ∧ Nx (upd H5 D (.dK (putK kvs k z))) else Nx H3) := by
  refine ⟨fun i m H => m = xs.length - i ∧ i ≤ xs.length ∧ Pv i H, ⟨xs.length, by simp, Nat.zero_le _, h0⟩, ?_⟩
  rintro i m H ⟨rfl, hi, p⟩
  have q := hl i H hi p
  by_cases hlt : i < xs.length
  · refine .inr ⟨⟨xs, xs[i], q, by simp [hlt]⟩, Pv (i + 1), fun H' p' => ⟨xs.length - (i + 1), by omega, rfl, hlt, p'⟩, fun x H' y => ?_⟩
    obtain ⟨e, y⟩ := y
    subst e
    exact hs i x _ (y xs q) p
  · have e : i = xs.length := by omega
    subst e
    exact .inl ⟨⟨xs, q, Nat.le_refl _⟩, hd H p⟩
end
end My
set_option Elab.async false
set_option linter.all false
set_option maxRecDepth 100000
set_option maxHeartbeats 4000000

namespace My
open PySem PySem.Spec PyProof.Rows L2

def Ex.In : Nat → Ex → Prop
  | _, .nm s => s ∈ (["a", "b", "key", "zzzz", "lo"] : List Str)
  | 0, _ => False
  | j + 1, .keys a => Ex.In j a
  | j + 1, .bin w a b => (w ∈ ops5 ∨ w = "look") ∧ Ex.In j a ∧ Ex.In j b
theorem ExtT.lstE {a : Addr} {H H' : Hp} {l : List V} (ha : H a = some (.lst l)) (e : Ext a H H') : ExtT H H' :=
  ⟨fun b xs h => e b _ (fun z => by rw [z, ha] at h; cases h) h, fun b o xs h => e b _ (fun z => by rw [z, ha] at h; cases h) h⟩
theorem But.ext {a : Addr} {H H' : Hp} (b : But a H H') : Ext a H H' := fun c o n e => (b c n).trans e
theorem Bag.extT {a : Addr} {H H' : Hp} {n : Nat} (h : Bag H a n) (e : Ext a H H') : ExtT H H' := by
  obtain ⟨x, y, z, q, _⟩ := h
  exact .lstE q e

def drawsE : Nat → Nat
  | 0 => 2
  | j + 1 => 3 + 2 * drawsE j
def spDrawn (K : PySem.W.Frag) (j : Nat) : Sp := fun vs H Q _ => ∃ (a : Addr) (n : Nat), vs = [.ref a, .int (j : Int)] ∧ Bag H a n ∧ n + drawsE j < 900000 ∧
  ∀ (v : V) (e : Ex) (H' : Hp) (n' : Nat), DE K H' v e → Ex.In j e → n' ≤ n + drawsE j → Bag H' a n' → Ext a H H' → Q v H'
end My
set_option Elab.async false
set_option linter.all false
set_option maxRecDepth 100000
set_option maxHeartbeats 4000000

namespace My
open PySem PySem.Spec PyProof.Rows L2

inductive Rd : Nat → Nat → Ex → List Str → Prop
  | nm {n l : Nat} {s : Str} (h : nameOk s = true) : Rd n l (.nm s) [s]
  | par {n l : Nat} {e : Ex} {ts : List Str} (h : Rd n 0 e ts) : Rd (n + 1) l e (oP :: (ts ++ [cP]))
  | keys {n l : Nat} {a : Ex} {ts : List Str} (h : Rd n 0 a ts) : Rd (n + 1) l (.keys a) (kW :: oP :: (ts ++ [cP]))
  | look {n l : Nat} {a b : Ex} {ta tb : List Str} (h : Rd n 0 a ta) (g : Rd n 0 b tb) : Rd (n + 1) l (.bin lW a b) (lW :: oP :: (ta ++ cM :: (tb ++ [cP])))
  | op {n l i : Nat} {w : Str} {a b : Ex} {ta tb : List Str} (hw : ops5[i]? = some w) (hl : l ≤ i) (h : Rd n i a ta) (g : Rd n (i + 1) b tb) : Rd n l (.bin w a b) (ta ++ w :: tb)

def Shut (l : Nat) (r : List Str) : Prop := ∀ i w, l ≤ i → ops5[i]? = some w → pTok w r = none
theorem Shut.mono {l m : Nat} {r : List Str} (h : Shut l r) (le : l ≤ m) : Shut m r := fun i w hi => h i w (Nat.le_trans le hi)
theorem op_at {l : Nat} {w : Str} (h : ops5[l]? = some w) : l < 5 ∧ opAt (5 - (l + 1)) = w := by
  have hl : l < 5 := (List.getElem?_eq_some_iff.mp h).1
  refine ⟨hl, ?_⟩
  have : l = 0 ∨ l = 1 ∨ l = 2 ∨ l = 3 ∨ l = 4 := by omega
  rcases this with rfl | rfl | rfl | rfl | rfl <;> cases h <;> rfl
theorem shut_closed {r : List Str} (h : Closed r) (l : Nat) : Shut l r := fun i w _ hw => (op_at hw).2 ▸ h (5 - (i + 1))
theorem shut_par (r : List Str) (l : Nat) : Shut l (cP :: r) := shut_closed (closed_par r) l
theorem shut_comma (r : List Str) (l : Nat) : Shut l (cM :: r) := shut_closed (closed_comma r) l
theorem shut_nil (l : Nat) : Shut l [] := fun _ _ _ _ => rfl
theorem shut_op {i : Nat} {w : Str} (hw : ops5[i]? = some w) (r : List Str) : Shut (i + 1) (w :: r) := fun j v hj hv => by
  show (if w = v then some r else none) = none
  refine if_neg fun e => ?_
  have : i = j := ops5_inj hw (e ▸ hv)
  omega
abbrev Pl (n l : Nat) : Ps := pLev (pSingle (pIn n)) (5 - l)
def AtL (n l : Nat) (e : Ex) (ts : List Str) : Prop := ∀ r, Shut l r → Pl n l (ts ++ r) = some (e.d, r)
def LoopL (n l : Nat) (e : Ex) (ts : List Str) : Prop := ∀ w r, ops5[l]? = some w → Shut (l + 1) r → Pl n l (ts ++ r) = pLoop w (Pl n (l + 1)) r.length e.d r
theorem loopL_of {n l : Nat} {e : Ex} {ts : List Str} (h : AtL n (l + 1) e ts) : LoopL n l e ts := fun w r hw hr => by
  obtain ⟨hl, ho⟩ := op_at hw
  show pLev (pSingle (pIn n)) (5 - l) (ts ++ r) = _
  have e5 : 5 - l = (5 - (l + 1)) + 1 := by omega
  rw [e5, lev_go (h r hr), ho]
theorem atL_of {n l : Nat} {e : Ex} {ts : List Str} (hl : l < 5) (h : LoopL n l e ts) : AtL n l e ts := fun r hr => by
  have hw : ops5[l]? = some (ops5[l]'(by exact hl)) := List.getElem?_eq_getElem _
  rw [h _ r hw (hr.mono (Nat.le_succ l)), loop_no (hr l _ (Nat.le_refl l) hw)]
theorem downL {n : Nat} {e : Ex} {ts : List Str} {l : Nat} (hl : l ≤ 5) (h : AtL n l e ts) : ∀ k, k ≤ l → AtL n k e ts := by
  intro k hk
  induction l with
  | zero => obtain rfl := Nat.le_zero.mp hk; exact h
  | succ l ih =>
    rcases Nat.lt_or_ge k (l + 1) with q | q
    · exact ih (by omega) (atL_of (by omega) (loopL_of h)) (by omega)
    · have : k = l + 1 := by omega
      subst this; exact h
theorem loop_fuel {op : Str} {sub : Ps} (hs : Less sub) : ∀ (k m : Nat) (l : PyData) (r : List Str), r.length ≤ k → r.length ≤ m → pLoop op sub k l r = pLoop op sub m l r := by
  intro k
  induction k with
  | zero =>
    intro m l r hk hm
    have e : r = [] := List.length_eq_zero_iff.mp (Nat.le_zero.mp hk)
    subst e
    rw [loop_no (n := 0) rfl, loop_no (n := m) rfl]
  | succ k ih =>
    intro m l r hk hm
    cases ht : pTok op r with
    | none => rw [loop_no ht, loop_no ht]
    | some q =>
      have lq := tok_len ht
      obtain ⟨m', rfl⟩ : ∃ m', m = m' + 1 := ⟨m - 1, by omega⟩
      cases hq : sub q with
      | none => rw [loop_none ht hq, loop_none ht hq]
      | some p =>
        obtain ⟨d, r2⟩ := p
        have l2 := hs _ _ _ hq
        rw [loop_go ht hq, loop_go ht hq]
        exact ih m' _ r2 (by omega) (by omega)
theorem loopL_op {n i : Nat} {w : Str} {a b : Ex} {ta tb : List Str} (hw : ops5[i]? = some w) (h : LoopL n i a ta) (g : AtL n (i + 1) b tb) : LoopL n i (.bin w a b) (ta ++ w :: tb) := fun v r hv hr => by
  have e : v = w := Option.some.inj (hv.symm.trans hw)
  subst e
  have less : Less (Pl n (i + 1)) := less_lev (less_single (less_in n)) (5 - (i + 1))
  rw [List.append_assoc, List.cons_append, h v (v :: (tb ++ r)) hv (shut_op hv _), List.length_cons, loop_go (tok_self _ _) (g r hr)]
  exact loop_fuel less _ _ _ _ (by rw [List.length_append]; omega) (Nat.le_refl _)
theorem rd_reads {n l : Nat} {e : Ex} {ts : List Str} (h : Rd n l e ts) : ∀ k, k ≤ l → l ≤ 5 → AtL n k e ts ∧ (k < 5 → LoopL n k e ts) := by
  have fin : ∀ {n l : Nat} {e : Ex} {ts : List Str}, (∀ r, pSingle (pIn n) (ts ++ r) = some (e.d, r)) → ∀ k, k ≤ l → l ≤ 5 → AtL n k e ts ∧ (k < 5 → LoopL n k e ts) := by
    intro n l e ts hs k hk hl
    have a5 : AtL n 5 e ts := fun r _ => hs r
    have d := downL (Nat.le_refl 5) a5
    exact ⟨d k (by omega), fun h5 => loopL_of (d (k + 1) (by omega))⟩
  induction h with
  | nm h => exact fin fun r => sg_name h
  | @par n l e ts h ih =>
    refine fin fun r => ?_
    have hd := (ih 0 (Nat.le_refl 0) (by decide)).1 (cP :: r) (shut_par r 0)
    rw [show oP :: (ts ++ [cP]) ++ r = oP :: (ts ++ cP :: r) by simp only [List.cons_append, List.append_assoc, List.nil_append]]
    rw [sg_par (ts := oP :: (ts ++ cP :: r)) no_par par_k par_l]
    exact p1_d (tok_self _ _) hd (tok_self _ _)
  | @keys n l a ts h ih =>
    refine fin fun r => ?_
    have hd := (ih 0 (Nat.le_refl 0) (by decide)).1 (cP :: r) (shut_par r 0)
    rw [show kW :: oP :: (ts ++ [cP]) ++ r = kW :: (oP :: (ts ++ cP :: r)) by simp only [List.cons_append, List.append_assoc, List.nil_append]]
    exact sg_keys1 (p1_d (tok_self _ _) hd (tok_self _ _))
  | @look n l a b ta tb h g ih1 ih2 =>
    refine fin fun r => ?_
    have hd1 := (ih1 0 (Nat.le_refl 0) (by decide)).1 (cM :: (tb ++ cP :: r)) (shut_comma _ 0)
    have hd2 := (ih2 0 (Nat.le_refl 0) (by decide)).1 (cP :: r) (shut_par r 0)
    rw [show lW :: oP :: (ta ++ cM :: (tb ++ [cP])) ++ r = lW :: (oP :: (ta ++ cM :: (tb ++ cP :: r))) by simp only [List.cons_append, List.append_assoc, List.nil_append]]
    exact sg_look1 (p2_f (tok_self _ _) hd1 (tok_self _ _) hd2 (tok_self _ _))
  | @op n l i w a b ta tb hw hl h g ih1 ih2 =>
    intro k hk h5
    obtain ⟨hi, _⟩ := op_at hw
    have lo := loopL_op hw ((ih1 i (Nat.le_refl i) (by omega)).2 hi) (ih2 (i + 1) (Nat.le_refl _) (by omega)).1
    have at_ := atL_of hi lo
    refine ⟨downL (by omega) at_ k (by omega), fun hk5 => ?_⟩
    rcases Nat.lt_or_ge k i with q | q
    · exact loopL_of (downL (by omega) at_ (k + 1) (by omega))
    · have : k = i := by omega
      subst this; exact lo
theorem rd_pE {e : Ex} {ts : List Str} (h : Rd 8 0 e ts) : pE ts = some e.d := by
  have := (rd_reads h 0 (Nat.le_refl 0) (by decide)).1 [] (shut_nil 0)
  rw [List.append_nil] at this
  exact pE_some this
end My
set_option Elab.async false
set_option linter.all false
set_option maxRecDepth 100000
set_option maxHeartbeats 4000000

namespace My
open PySem PySem.Spec PyProof.Rows L2
def levE : Ex → Nat
  | .nm _ => 5
  | .keys _ => 5
  | .bin w _ _ => (lvl w).getD 5

inductive Dk : Nat → Nat → Ex → List Str → Prop
  | nm {l : Nat} {s : Str} (h : nameOk s = true) : Dk 0 l (.nm s) [s]
  | par {d l : Nat} {e : Ex} {ts : List Str} (h : Dk d 0 e ts) : Dk (d + 1) l e (oP :: (ts ++ [cP]))
  | keys {d l : Nat} {a : Ex} {ts : List Str} (h : Dk d 0 a ts) : Dk (d + 1) l (.keys a) (kW :: oP :: (ts ++ [cP]))
  | look {d d2 l : Nat} {a b : Ex} {ta tb : List Str} (h : Dk d 0 a ta) (g : Dk d2 0 b tb) : Dk (max d d2 + 1) l (.bin lW a b) (lW :: oP :: (ta ++ cM :: (tb ++ [cP])))
  | op {d d2 l i : Nat} {w : Str} {a b : Ex} {ta tb : List Str} (hw : ops5[i]? = some w) (hl : l ≤ i) (h : Dk d i a ta) (g : Dk d2 (i + 1) b tb) : Dk (max d d2) l (.bin w a b) (ta ++ w :: tb)
theorem Dk.low {d l k : Nat} {e : Ex} {ts : List Str} (h : Dk d l e ts) (hk : k ≤ l) : Dk d k e ts := by
  cases h with
  | nm h => exact .nm h
  | par h => exact .par h
  | keys h => exact .keys h
  | look h g => exact .look h g
  | op hw hl h g => exact .op hw (Nat.le_trans hk hl) h g
theorem Dk.rd {d l : Nat} {e : Ex} {ts : List Str} (h : Dk d l e ts) : ∀ n, d ≤ n → Rd n l e ts := by
  induction h with
  | nm h => exact fun n _ => .nm h
  | par h ih => intro n hn; obtain ⟨m, rfl⟩ : ∃ m, n = m + 1 := ⟨n - 1, by omega⟩; exact .par (ih m (by omega))
  | keys h ih => intro n hn; obtain ⟨m, rfl⟩ : ∃ m, n = m + 1 := ⟨n - 1, by omega⟩; exact .keys (ih m (by omega))
  | look h g ih1 ih2 => intro n hn; obtain ⟨m, rfl⟩ : ∃ m, n = m + 1 := ⟨n - 1, by omega⟩; exact .look (ih1 m (by omega)) (ih2 m (by omega))
  | op hw hl h g ih1 ih2 => intro n hn; exact .op hw hl (ih1 n (by omega)) (ih2 n (by omega))

def opF (p : Int × Int) (t : Str) : Int × Int :=
  let d := p.1 + (if t = oP then 1 else 0) - (if t = cP then 1 else 0)
  (d, max p.2 d)
theorem opF_no {t : Str} (h1 : t ≠ oP) (h2 : t ≠ cP) (p : Int × Int) (hp : p.1 ≤ p.2) : opF p t = p := by
  obtain ⟨d, m⟩ := p
  unfold opF
  simp only [if_neg h1, if_neg h2]
  have e : d + 0 - 0 = d := by omega
  rw [e]
  have : max m d = m := by omega
  rw [this]
theorem Dk.open_ {d l : Nat} {e : Ex} {ts : List Str} (h : Dk d l e ts) : ∀ p : Int × Int, p.1 ≤ p.2 → ts.foldl opF p = (p.1, max p.2 (p.1 + d)) := by
  have par : ∀ {d : Nat} {ts : List Str}, (∀ p : Int × Int, p.1 ≤ p.2 → ts.foldl opF p = (p.1, max p.2 (p.1 + d))) → ∀ p : Int × Int, p.1 ≤ p.2 → (oP :: (ts ++ [cP])).foldl opF p = (p.1, max p.2 (p.1 + ((d + 1 : Nat) : Int))) := by
    intro d ts ih p hp
    obtain ⟨a, m⟩ := p
    rw [List.foldl_cons, List.foldl_append]
    have e1 : opF (a, m) oP = (a + 1, max m (a + 1)) := by
      unfold opF
      rw [if_pos rfl, if_neg (show oP ≠ cP by decide)]
      simp
    rw [e1, ih _ (by show a + 1 ≤ max m (a + 1); omega)]
    show opF (a + 1, max (max m (a + 1)) (a + 1 + d)) cP = _
    unfold opF
    rw [if_neg (show cP ≠ oP by decide), if_pos rfl]
    have e2 : a + 1 + 0 - 1 = a := by omega
    simp only [e2]
    refine Prod.ext rfl ?_
    show max (max (max m (a + 1)) (a + 1 + (d : Int))) a = max m (a + ((d + 1 : Nat) : Int))
    omega
  induction h with
  | @nm l s h =>
    intro p hp
    have n1 : s ≠ oP := fun z => by rw [z, no_par] at h; cases h
    have n2 : s ≠ cP := fun z => by rw [z, show nameOk cP = false from by decide +kernel] at h; cases h
    show opF p s = _
    rw [opF_no n1 n2 p hp]
    obtain ⟨a, m⟩ := p
    refine Prod.ext rfl ?_
    show m = max m (a + ((0 : Nat) : Int))
    have : a ≤ m := hp
    omega
  | par h ih => exact par ih
  | keys h ih =>
    intro p hp
    rw [List.foldl_cons, opF_no (by decide) (by decide) p hp]
    exact par ih p hp
  | @look d d2 l a b ta tb h g ih1 ih2 =>
    intro p hp
    rw [List.foldl_cons, opF_no (by decide) (by decide) p hp]
    have e : oP :: (ta ++ cM :: (tb ++ [cP])) = oP :: ((ta ++ cM :: tb) ++ [cP]) := by simp
    rw [e]
    refine par (d := max d d2) (fun q hq => ?_) p hp
    rw [List.foldl_append, List.foldl_cons, ih1 q hq, opF_no (by decide) (by decide) _ (by show q.1 ≤ max q.2 (q.1 + d); omega), ih2 _ (by show q.1 ≤ max q.2 (q.1 + d); omega)]
    refine Prod.ext rfl ?_
    show max (max q.2 (q.1 + (d : Int))) (q.1 + (d2 : Int)) = max q.2 (q.1 + ((max d d2 : Nat) : Int))
    omega
  | @op d d2 l i w a b ta tb hw hl h g ih1 ih2 =>
    intro p hp
    have nw : ∀ w ∈ ops5, w ≠ oP ∧ w ≠ cP := by decide
    obtain ⟨n1, n2⟩ := nw w (List.mem_of_getElem? hw)
    rw [List.foldl_append, List.foldl_cons, ih1 p hp, opF_no n1 n2 _ (by show p.1 ≤ max p.2 (p.1 + d); omega), ih2 _ (by show p.1 ≤ max p.2 (p.1 + d); omega)]
    refine Prod.ext rfl ?_
    show max (max p.2 (p.1 + (d : Int))) (p.1 + (d2 : Int)) = max p.2 (p.1 + ((max d d2 : Nat) : Int))
    omega


def sgnT (t : Str) : Bool := decide (t ∈ signsOf)
def adj : List Str → Bool
  | [] => true
  | [_] => true
  | x :: y :: r => (sgnT x || sgnT y) && adj (y :: r)
theorem adj_mid {s : Str} (hs : sgnT s = true) : ∀ {ta tb : List Str}, adj ta = true → adj tb = true → adj (ta ++ s :: tb) = true
  | [], [], _, _ => rfl
  | [], y :: r, _, h => by show ((sgnT s || sgnT y) && adj (y :: r)) = true; rw [hs, h]; rfl
  | [x], tb, _, h => by
    show ((sgnT x || sgnT s) && adj (s :: tb)) = true
    rw [hs, Bool.or_true, Bool.true_and]
    exact adj_mid hs (ta := []) rfl h
  | x :: y :: r, tb, g, h => by
    have g : ((sgnT x || sgnT y) && adj (y :: r)) = true := g
    rw [Bool.and_eq_true] at g
    show ((sgnT x || sgnT y) && adj (y :: (r ++ s :: tb))) = true
    rw [g.1, Bool.true_and]
    exact adj_mid hs (ta := y :: r) g.2 h

def tokOk (t : Str) : Prop := sgnT t = true ∨ nameOk t = true ∨ t = kW ∨ t = lW
theorem Dk.toks {d l : Nat} {e : Ex} {ts : List Str} (h : Dk d l e ts) : adj ts = true ∧ ∀ t ∈ ts, tokOk t := by
  have so : sgnT oP = true := by decide
  have sc : sgnT cP = true := by decide
  have sm : sgnT cM = true := by decide
  have par : ∀ {ts : List Str}, adj ts = true → adj (oP :: (ts ++ [cP])) = true := fun {ts} h => adj_mid so (ta := []) rfl (adj_mid sc h (tb := []) rfl)
  induction h with
  | nm h => exact ⟨rfl, fun t ht => by rw [List.mem_singleton.mp ht]; exact .inr (.inl h)⟩
  | par h ih =>
    refine ⟨par ih.1, fun t ht => ?_⟩
    rcases List.mem_cons.mp ht with rfl | ht
    · exact .inl so
    · rcases List.mem_append.mp ht with q | q
      · exact ih.2 t q
      · rw [List.mem_singleton.mp q]; exact .inl sc
  | @keys d l a ts h ih =>
    refine ⟨adj_mid so (ta := [kW]) rfl (adj_mid sc ih.1 (tb := []) rfl), fun t ht => ?_⟩
    rcases List.mem_cons.mp ht with rfl | ht
    · exact .inr (.inr (.inl rfl))
    · rcases List.mem_cons.mp ht with rfl | ht
      · exact .inl so
      · rcases List.mem_append.mp ht with q | q
        · exact ih.2 t q
        · rw [List.mem_singleton.mp q]; exact .inl sc
  | @look d d2 l a b ta tb h g ih1 ih2 =>
    refine ⟨adj_mid so (ta := [lW]) rfl (adj_mid sm ih1.1 (adj_mid sc ih2.1 (tb := []) rfl)), fun t ht => ?_⟩
    rcases List.mem_cons.mp ht with rfl | ht
    · exact .inr (.inr (.inr rfl))
    · rcases List.mem_cons.mp ht with rfl | ht
      · exact .inl so
      · rcases List.mem_append.mp ht with q | q
        · exact ih1.2 t q
        · rcases List.mem_cons.mp q with rfl | q
          · exact .inl sm
          · rcases List.mem_append.mp q with q | q
            · exact ih2.2 t q
            · rw [List.mem_singleton.mp q]; exact .inl sc
  | @op d d2 l i w a b ta tb hw hl h g ih1 ih2 =>
    have sw : ∀ w ∈ ops5, sgnT w = true := by decide
    have sw := sw w (List.mem_of_getElem? hw)
    refine ⟨adj_mid sw ih1.1 ih2.1, fun t ht => ?_⟩
    rcases List.mem_append.mp ht with q | q
    · exact ih1.2 t q
    · rcases List.mem_cons.mp q with rfl | q
      · exact .inl sw
      · exact ih2.2 t q

inductive SpT : List Str → List Nat → Prop
  | nil (k : Nat) : SpT [] (List.replicate k 32)
  | cons (k : Nat) (t : Str) {ts : List Str} {T : List Nat} (h : SpT ts T) : SpT (t :: ts) (List.replicate k 32 ++ (letters t ++ T))
theorem SpT.space {ts : List Str} {T : List Nat} (h : SpT ts T) : SpT ts (32 :: T) := by
  cases h with
  | nil k => exact .nil (k + 1)
  | cons k t h => exact .cons (k + 1) t h
theorem SpT.spaces (m : Nat) {ts : List Str} {T : List Nat} (h : SpT ts T) : SpT ts (List.replicate m 32 ++ T) := by
  induction m with
  | zero => exact h
  | succ m ih => exact ih.space
theorem sgn_letters {t : Str} (h : sgnT t = true) : ∃ c, letters t = [c] ∧ c ∈ signL := by
  have : ∀ t ∈ signsOf, ∃ c ∈ signL, letters t = [c] := by decide +kernel
  obtain ⟨c, h1, h2⟩ := this t (of_decide_eq_true h)
  exact ⟨c, h2, h1⟩
theorem abc_wordly : ∀ c ∈ abc.cps.toList, c ≠ 32 ∧ c ∉ signL ∧ c < 128 := by decide +kernel
theorem tok_letters {t : Str} (h : tokOk t) (hs : sgnT t = false) : wordly (letters t) ∧ letters t ≠ [] := by
  have nm : nameOk t = true → wordly (letters t) ∧ letters t ≠ [] := by
    intro hn
    unfold nameOk at hn
    rw [Bool.and_eq_true, Bool.and_eq_true] at hn
    have hl := (of_decide_eq_true hn.1.1).1
    refine ⟨fun c hc => ?_, fun z => ?_⟩
    · have := List.all_eq_true.mp hn.2 c hc
      have := abc_wordly c (of_decide_eq_true this)
      exact ⟨this.1, this.2.1⟩
    · have : t.length = (letters t).length := (Array.length_toList).symm
      rw [z] at this
      rw [this] at hl
      exact absurd hl (by decide)
  rcases h with h | h | rfl | rfl
  · rw [h] at hs; cases hs
  · exact nm h
  · exact ⟨word_of (by decide +kernel), by decide +kernel⟩
  · exact ⟨word_of (by decide +kernel), by decide +kernel⟩
theorem tok_ascii {t : Str} (h : tokOk t) : ∀ c ∈ letters t, c < 128 := by
  rcases h with h | h | rfl | rfl
  · have : ∀ t ∈ signsOf, ∀ c ∈ letters t, c < 128 := by decide +kernel
    exact this t (of_decide_eq_true h)
  · unfold nameOk at h
    rw [Bool.and_eq_true] at h
    intro c hc
    have := List.all_eq_true.mp h.2 c hc
    exact (abc_wordly c (of_decide_eq_true this)).2.2
  · decide +kernel
  · decide +kernel
theorem tok_len4 {t : Str} (h : tokOk t) : 1 ≤ t.length ∧ t.length ≤ 4 := by
  rcases h with h | h | rfl | rfl
  · have : ∀ t ∈ signsOf, 1 ≤ t.length ∧ t.length ≤ 4 := by decide +kernel
    exact this t (of_decide_eq_true h)
  · unfold nameOk at h
    rw [Bool.and_eq_true, Bool.and_eq_true] at h
    exact of_decide_eq_true h.1.1
  · decide +kernel
  · decide +kernel
theorem SpT.wl : ∀ {ts : List Str} {T : List Nat}, SpT ts T → adj ts = true → (∀ t ∈ ts, tokOk t) → My.wl [] T = ts.map letters
  | _, _, .nil k, _, _ => by
    have := wl_spaces k []
    rw [List.append_nil] at this
    rw [this]
    rfl
  | _, _, @SpT.cons k t ts T h, ha, ht => by
    have ok := ht t List.mem_cons_self
    have ht2 : ∀ u ∈ ts, tokOk u := fun u hu => ht u (List.mem_cons_of_mem _ hu)
    have ha2 : adj ts = true := by
      cases ts with
      | nil => rfl
      | cons y r =>
        have ha : ((sgnT t || sgnT y) && adj (y :: r)) = true := ha
        rw [Bool.and_eq_true] at ha
        exact ha.2
    have ih := SpT.wl h ha2 ht2
    rw [wl_spaces]
    cases hs : sgnT t with
    | true =>
      obtain ⟨c, e, hc⟩ := sgn_letters hs
      rw [e]
      show My.wl [] (c :: T) = _
      rw [wl_sign hc, flush, if_pos rfl, ih, List.map_cons, e]
    | false =>
      obtain ⟨w1, w2⟩ := tok_letters ok hs
      have hE : Ends T := by
        cases h with
        | nil k2 =>
          cases k2 with
          | zero => exact .inl rfl
          | succ k2 => exact .inr ⟨32, _, rfl, .inl rfl⟩
        | cons k2 y h2 =>
          cases k2 with
          | succ k2 => exact .inr ⟨32, _, rfl, .inl rfl⟩
          | zero =>
            rename_i ts2 T2
            have ha : ((sgnT t || sgnT y) && adj (y :: ts2)) = true := ha
            rw [hs, Bool.false_or, Bool.and_eq_true] at ha
            obtain ⟨c, e, hc⟩ := sgn_letters ha.1
            refine .inr ⟨c, T2, ?_, .inr hc⟩
            rw [e]
            rfl
      rw [splits_word w1 w2 T hE, ih]
      rfl
theorem SpT.tokens {ts : List Str} {x : Str} (h : SpT ts (letters x)) (ha : adj ts = true) (ht : ∀ t ∈ ts, tokOk t) : tokensOf x = ts := by
  have e := (tokens_wl x).trans (h.wl ha ht)
  have inj : ∀ {l m : List Str}, l.map TL.tl = m.map letters → l = m := by
    intro l
    induction l with
    | nil => intro m h; cases m with | nil => rfl | cons _ _ => cases h
    | cons a r ih =>
      intro m h
      cases m with
      | nil => cases h
      | cons b s =>
        rw [List.map_cons, List.map_cons] at h
        injection h with h1 h2
        rw [ih h2, TL.ext_tl h1]
  exact inj e
def total (ts : List Str) : Nat := (ts.map (·.length)).sum
theorem SpT.nsp {ts : List Str} {T : List Nat} (h : SpT ts T) (ht : ∀ t ∈ ts, tokOk t) : (T.filter (· != 32)).length = total ts := by
  have rep : ∀ k : Nat, (List.replicate k 32).filter (· != 32) = [] := fun k => by
    rw [List.filter_eq_nil_iff]
    intro a ha
    rw [List.eq_of_mem_replicate ha]
    decide
  induction h with
  | nil k => rw [rep]; rfl
  | @cons k t ts T h ih =>
    have ok := ht t List.mem_cons_self
    have e : (letters t).filter (· != 32) = letters t := by
      rw [List.filter_eq_self]
      intro c hc
      cases hs : sgnT t with
      | true =>
        obtain ⟨d, e, hd⟩ := sgn_letters hs
        rw [e] at hc
        rw [List.mem_singleton.mp hc]
        have := sign_ne hd
        simpa using this
      | false =>
        have := (tok_letters ok hs).1 c hc
        simpa using this.1
    rw [List.filter_append, List.filter_append, rep, List.nil_append, e, List.length_append, ih fun u hu => ht u (List.mem_cons_of_mem _ hu)]
    show (letters t).length + total ts = t.length + total ts
    rw [Array.length_toList]
    rfl

theorem says_of {d : Nat} {e : Ex} {ts : List Str} {x : Str} (h : Dk d 0 e ts) (hd : d ≤ 8) (hl : total ts ≤ 200) (hx : SpT ts (letters x)) : readE x = some e.d := by
  obtain ⟨ha, ht⟩ := h.toks
  unfold readE
  have e1 : (noSpace x).length = total ts := by rw [nsp_len, hx.nsp ht]
  rw [if_pos (by omega), hx.tokens ha ht]
  exact rd_pE (h.rd 8 hd)
theorem SpT.ascii {ts : List Str} {T : List Nat} (h : SpT ts T) (ht : ∀ t ∈ ts, tokOk t) : ∀ c ∈ T, c < 128 := by
  induction h with
  | nil k => intro c hc; rw [List.eq_of_mem_replicate hc]; decide
  | @cons k t ts T h ih =>
    intro c hc
    rcases List.mem_append.mp hc with q | q
    · rw [List.eq_of_mem_replicate q]; decide
    · rcases List.mem_append.mp q with q | q
      · exact tok_ascii (ht t List.mem_cons_self) c q
      · exact ih (fun u hu => ht u (List.mem_cons_of_mem _ hu)) c q
end My
set_option Elab.async false
set_option linter.all false
set_option maxRecDepth 100000
set_option maxHeartbeats 4000000

namespace My
open PySem PySem.Spec PyProof.Rows L2
def argT (l : Nat) (e : Ex) (ts : List Str) : List Str := if levE e < l then oP :: (ts ++ [cP]) else ts
def tok0 : Ex → List Str
  | .nm s => [s]
  | .keys a => kW :: oP :: (tok0 a ++ [cP])
  | .bin w a b => match lvl w with
    | some i => argT i a (tok0 a) ++ w :: argT (i + 1) b (tok0 b)
    | none => w :: oP :: (tok0 a ++ cM :: (tok0 b ++ [cP]))

def plT (t : Str) : List Nat := if t ∈ ops5 then 32 :: (letters t ++ [32]) else letters t ++ (if t = cM then [32] else [])
def plL (ts : List Str) : List Nat := ts.flatMap plT
theorem plL_app (a b : List Str) : plL (a ++ b) = plL a ++ plL b := List.flatMap_append
theorem plL_cons (t : Str) (b : List Str) : plL (t :: b) = plT t ++ plL b := List.flatMap_cons
theorem plL_sp : ∀ ts : List Str, SpT ts (plL ts)
  | [] => .nil 0
  | t :: r => by
    have ih := plL_sp r
    rw [plL_cons]
    unfold plT
    by_cases h : t ∈ ops5
    · rw [if_pos h]
      have := SpT.cons 1 t ih.space
      show SpT (t :: r) (32 :: ((letters t ++ [32]) ++ plL r))
      rw [List.append_assoc]
      exact this
    · rw [if_neg h]
      by_cases c : t = cM
      · rw [if_pos c, List.append_assoc]
        exact SpT.cons 0 t ih.space
      · rw [if_neg c, List.append_nil]
        exact SpT.cons 0 t ih
theorem plT_par : plT oP = [40] ∧ plT cP = [41] ∧ plT cM = [44, 32] ∧ plT kW = letters kW ∧ plT lW = letters lW := by decide +kernel
theorem plT_name {s : Str} (h : nameOk s = true) : plT s = letters s := by
  unfold plT
  have h1 : s ∉ ops5 := fun z => by
    have : ∀ w ∈ ops5, nameOk w = false := by decide +kernel
    rw [this s z] at h; cases h
  have h2 : s ≠ cM := fun z => by
    rw [z, show nameOk cM = false from by decide +kernel] at h; cases h
  rw [if_neg h1, if_neg h2, List.append_nil]
theorem plT_op {w : Str} (h : w ∈ ops5) : plT w = 32 :: (letters w ++ [32]) := if_pos h
theorem let_lits : letters "(" = [40] ∧ letters ")" = [41] ∧ letters ", " = [44, 32] ∧ letters " " = [32] ∧ letters Str.empty = [] := by decide +kernel
theorem plL_parens (ts : List Str) : plL (oP :: (ts ++ [cP])) = 40 :: (plL ts ++ [41]) := by
  rw [plL_cons, plL_app, plT_par.1]
  show [40] ++ (plL ts ++ plL [cP]) = _
  rw [show plL [cP] = [41] by rw [plL_cons, plT_par.2.1]; rfl]
  rfl
theorem closed_letters {p : Pt} {e : Ex} {ts : List Str} (h : letters p.1 = plL ts) (hl : p.2 = levE e) (l : Nat) : letters (closed p l) = plL (argT l e ts) := by
  unfold closed argT
  by_cases q : l ≤ p.2
  · rw [if_pos q, if_neg (by omega), h]
  · rw [if_neg q, if_pos (by omega), plL_parens, let_app, let_app, let_app, let_lits.1, let_lits.2.1, let_lits.2.2.2.2, h]
    rfl
theorem show_letters : ∀ {e : Ex}, e.Ok → letters (showE e).1 = plL (tok0 e) ∧ (showE e).2 = levE e
  | .nm s, h => ⟨by
    show letters s = plT s ++ []
    rw [plT_name h, List.append_nil], rfl⟩
  | .keys a, h => by
    obtain ⟨ih, _⟩ := show_letters (e := a) h
    refine ⟨?_, rfl⟩
    show letters (shownCall kW [showE a]).1 = plL (kW :: oP :: (tok0 a ++ [cP]))
    rw [plL_cons, plL_parens, plT_par.2.2.2.1]
    show letters (Str.empty ++ kW ++ "(" ++ Txt.join ", " [(showE a).1] ++ ")") = _
    rw [join_eq, show Str.join ", " [(showE a).1] = (showE a).1 from rfl, let_app, let_app, let_app, let_app, let_lits.1, let_lits.2.1, let_lits.2.2.2.2, ih]
    simp
  | .bin w a b, h => by
    obtain ⟨iha, la⟩ := show_letters (e := a) h.2.1
    obtain ⟨ihb, lb⟩ := show_letters (e := b) h.2.2
    show letters (match lvl w with | some i => shownOp i w (showE a) (showE b) | none => shownCall w [showE a, showE b]).1 = plL (match lvl w with | some i => argT i a (tok0 a) ++ w :: argT (i + 1) b (tok0 b) | none => w :: oP :: (tok0 a ++ cM :: (tok0 b ++ [cP]))) ∧ (match lvl w with | some i => shownOp i w (showE a) (showE b) | none => shownCall w [showE a, showE b]).2 = (lvl w).getD 5
    cases hw : lvl w with
    | some i =>
      obtain ⟨_, hat⟩ := lvl_at hw
      refine ⟨?_, rfl⟩
      show letters (Str.empty ++ closed (showE a) i ++ " " ++ w ++ " " ++ closed (showE b) (i + 1)) = plL (argT i a (tok0 a) ++ w :: argT (i + 1) b (tok0 b))
      rw [let_app, let_app, let_app, let_app, let_app, closed_letters iha la, closed_letters ihb lb, let_lits.2.2.2.1, let_lits.2.2.2.2, plL_app, plL_cons, plT_op (List.mem_of_getElem? hat)]
      simp
    | none =>
      refine ⟨?_, rfl⟩
      have hlk : w = lW := by
        rcases h.1 with z | z
        · have : ∀ w ∈ ops5, (lvl w).isSome = true := by decide
          have := this w z
          rw [hw] at this
          cases this
        · exact z
      subst hlk
      show letters (Str.empty ++ lW ++ "(" ++ Txt.join ", " [(showE a).1, (showE b).1] ++ ")") = plL (lW :: oP :: (tok0 a ++ cM :: (tok0 b ++ [cP])))
      have e : oP :: (tok0 a ++ cM :: (tok0 b ++ [cP])) = oP :: ((tok0 a ++ cM :: tok0 b) ++ [cP]) := by simp
      rw [e, plL_cons, plL_parens, plT_par.2.2.2.2, plL_app, plL_cons, plT_par.2.2.1, join_eq, show Str.join ", " [(showE a).1, (showE b).1] = (showE a).1 ++ ", " ++ (showE b).1 from rfl, let_app, let_app, let_app, let_app, let_app, let_app, let_lits.1, let_lits.2.1, let_lits.2.2.1, let_lits.2.2.2.2, iha, ihb]
      simp
theorem sqT_extT {K : PySem.W.Frag} {H H' : Hp} (x : ExtT H H') {a : Addr} {xs : List V} (h : SqT K H a xs) : SqT K H' a xs := by
  rcases h with (h | ⟨o, h⟩) | h
  · exact .inl (.inl (x.1 _ _ h))
  · exact .inl (.inr ⟨o, x.2 _ _ _ h⟩)
  · exact .inr h
def szB : Nat → Nat
  | 0 => 1
  | j + 1 => 2 * szB j + 1
theorem szB_pos : ∀ j, 1 ≤ szB j
  | 0 => Nat.le_refl _
  | j + 1 => by have := szB_pos j; show 1 ≤ 2 * szB j + 1; omega
theorem Ex.In.size : ∀ {j : Nat} {e : Ex}, Ex.In j e → e.size ≤ szB j
  | j, .nm _, _ => szB_pos j
  | 0, .keys _, h => h.elim
  | 0, .bin _ _ _, h => h.elim
  | j + 1, .keys a, h => by
    have := Ex.In.size (j := j) (e := a) h
    show a.size + 1 ≤ 2 * szB j + 1
    omega
  | j + 1, .bin w a b, h => by
    have h1 := Ex.In.size (j := j) (e := a) h.2.1
    have h2 := Ex.In.size (j := j) (e := b) h.2.2
    show a.size + b.size + 1 ≤ 2 * szB j + 1
    omega
theorem name_in {s : Str} (h : s ∈ (["a", "b", "key", "zzzz", "lo"] : List Str)) : nameOk s = true := by
  have : ∀ s ∈ (["a", "b", "key", "zzzz", "lo"] : List Str), nameOk s = true := by decide +kernel
  exact this s h
theorem Ex.In.ok : ∀ {j : Nat} {e : Ex}, Ex.In j e → e.Ok
  | 0, .nm _, h => name_in h
  | _ + 1, .nm _, h => name_in h
  | 0, .keys _, h => h.elim
  | 0, .bin _ _ _, h => h.elim
  | j + 1, .keys a, h => Ex.In.ok (j := j) (e := a) h
  | j + 1, .bin w a b, h => ⟨h.1, Ex.In.ok (j := j) (e := a) h.2.1, Ex.In.ok (j := j) (e := b) h.2.2⟩
def spLevL (K : PySem.W.Frag) : Sp := fun vs H Q _ => ∃ (v : V) (e : Ex), vs = [v] ∧ DE K H v e ∧ e.Ok ∧ ∀ H', Same H H' → Q (.int (levE e : Nat)) H'
def spToks (K : PySem.W.Frag) (j : Nat) : Sp := fun vs H Q _ => ∃ (a : Addr) (v : V) (way n : Nat) (e : Ex), vs = [.ref a, v, .int (way : Int)] ∧ Bag H a n ∧ n + 2 * szB j < 900000 ∧ way ≤ 2 ∧ j ≤ 4 ∧ DE K H v e ∧ Ex.In j e ∧
  ∀ (p : Addr) (ts : List Str) (d : Nat) (H' : Hp) (n' : Nat), H p = none → H' p = some (.lst (ts.map V.str)) → Dk d (levE e) e ts → (way = 0 → ts = tok0 e) → ts.length ≤ 5 * e.size → n' ≤ n + 2 * szB j → Bag H' a n' → Ext a H H' → Q (.ref p) H'
theorem fresh_ext {a p : Addr} {H H' : Hp} {n : Nat} (e : Ext a H H') (b : Bag H' a n) (h : H' p = none) : H p = none := by
  cases q : H p with
  | none => rfl
  | some o =>
    have ne : p ≠ a := b.ne h
    rw [e p o ne q] at h
    cases h
theorem fresh_same {p : Addr} {H H' : Hp} (e : Same H H') (h : H' p = none) : H p = none := by
  cases q : H p with
  | none => rfl
  | some o => rw [e _ _ q] at h; cases h

def LT (σ : L2.St) (G : Hp) (t : TE) (ts : List Str) : Prop := ∀ (H : Hp) (Q : VK), Same G H → (∀ q H', Same H H' → H' q = some (.lst (ts.map V.str)) → Q (.ref q) H') → t σ H Q

def LN (σ : L2.St) (G : Hp) (t : TE) (ts : List Str) : Prop := ∀ (H : Hp) (Q : VK), Same G H → (∀ q H', Same H H' → H q = none → H' q = some (.lst (ts.map V.str)) → Q (.ref q) H') → t σ H Q
section
variable {σ : L2.St} {G : Hp} {t u : TE} {ts us : List Str} {K : PySem.W.Frag}
theorem LN.lt (h : LN σ G t ts) : LT σ G t ts := fun H Q s k => h H Q s fun q H' s' _ e => k q H' s' e
theorem lt_var {i : Nat} {q : Addr} (e : σ[i]? = some (some (.ref q))) (h : G q = some (.lst (ts.map V.str))) : LT σ G (tVar i) ts := fun H Q s k => ⟨_, e, k q H (Same.refl H) (s _ _ h)⟩
theorem ln_one (x : Str) : LN σ G (tLst (tCons (tC (.str x)) tNil)) [x] := fun H Q s k => ⟨by show 1 ≤ sizeLine; rw [sizeLine_eq]; decide, fun p hp => k p _ (same_new hp) hp upd_same⟩
theorem ln_two (x y : Str) : LN σ G (tLst (tCons (tC (.str x)) (tCons (tC (.str y)) tNil))) [x, y] := fun H Q s k => ⟨by show 2 ≤ sizeLine; rw [sizeLine_eq]; decide, fun p hp => k p _ (same_new hp) hp upd_same⟩
theorem ln_ix {i : Nat} {a : Addr} {x : Str} {xs : List V} (e : σ[i]? = some (some (.ref a))) (h : SqT K G a (.str x :: xs)) : LN σ G (tLst (tCons (tOp (rIxT K) (tVar i) (tC (.int 0))) tNil)) [x] := fun H Q s k =>
  ⟨_, e, a, _, 0, .str x, rfl, rfl, sqT_same s h, at_nat (i := 0) rfl, by show 1 ≤ sizeLine; rw [sizeLine_eq]; decide, fun p hp => k p _ (same_new hp) hp upd_same⟩
theorem ln_cat (h : LT σ G t ts) (g : LT σ G u us) (hl : ts.length + us.length ≤ 10000) : LN σ G (tOp rCat t u) (ts ++ us) := fun H Q s k => by
  refine h H _ s fun p H1 s1 h1 => ?_
  refine g H1 _ (s.trans s1) fun q H2 s2 h2 => ?_
  refine ⟨p, q, _, _, rfl, rfl, s2 _ _ h1, h2, by rw [List.length_map, List.length_map, sizeLine_eq]; omega, fun r hr => ?_⟩
  exact k r _ ((s1.trans s2).trans (same_new hr)) (fresh_same (s1.trans s2) hr) (by rw [upd_same, List.map_append])
end
theorem set_same {α : Type} : ∀ {l : List α} {i : Nat} {x : α}, l[i]? = some x → l.set i x = l
  | [], _, _, h => by cases h
  | y :: l, 0, x, h => by cases h; rfl
  | y :: l, i + 1, x, h => by rw [List.set_cons_succ, set_same (by simpa using h)]

theorem if_par {K : PySem.W.Frag} {r : Int → Int → Bool} {m : Int} {sl : Nat} {σ : L2.St} {H : Hp} {D : L2.Ends} {a ra q : Addr} {xs : List V} {v : V} {e : Ex} {way : Nat} {n : Nat} {lv : Int} {ts : List Str}
    (h0 : σ[0]? = some (some (.ref a))) (h1 : σ[1]? = some (some (.ref ra))) (h2 : σ[2]? = some (some (.int (way : Int)))) (h5 : σ[5]? = some (some (.int lv))) (hs : σ[sl]? = some (some (.ref q)))
    (hsq : SqT K H ra xs) (hat : atI xs m = some v) (hv : DE K H v e) (hok : e.Ok) (hq : H q = some (.lst (ts.map V.str))) (nq : q ≠ a) (hb : Bag H a n) (hn : n < 900000) (hl : ts.length ≤ 1000)
    (k : ∀ (q' : Addr) (par : Bool) (H' : Hp) (n' : Nat), H' q' = some (.lst ((if par = true then oP :: (ts ++ [cP]) else ts).map V.str)) → (way = 0 → par = r (levE e) lv) → (par = false → r (levE e) lv = false) → n' ≤ n + 1 → Bag H' a n' → Ext a H H' → q' ≠ a → D.nx (σ.set sl (some (.ref q'))) H') :
    tIfS (tOr (tTest (tOp (rI0 fun i j => V.bl (r i j)) (tCall (spLevL K) [] E0 (tCons (tOp (rIxT K) (tVar 1) (tC (V.int m))) tNil)) (tVar 5)))
      (tAnd (tTest (tOp (rI0 fun i j => V.bl (decide (j < i))) (tVar 2) (tC (V.int 0)))) (tTest (tOp (rI0 fun i j => V.bl (decide (i < j))) (tCall spTake [] E0 (tCons (tVar 0) (tCons (tC (V.int 3)) tNil))) (tVar 2)))))
      (tAsg (tOp rCat (tOp rCat (tLst (tCons (tC (V.str "(")) tNil)) (tVar sl)) (tLst (tCons (tC (V.str ")")) tNil))) (gName sl)) tNext D σ H := by
  have put : ∀ (G : Hp) (n' : Nat), Bag G a n' → n' ≤ n + 1 → Ext a H G → (way = 0 → r (levE e) lv = true) →
      (tAsg (tOp rCat (tOp rCat (tLst (tCons (tC (V.str "(")) tNil)) (tVar sl)) (tLst (tCons (tC (V.str ")")) tNil))) (gName sl)) D σ G := by
    intro G n' bg hn' ex hr
    have hqG : G q = some (.lst (ts.map V.str)) := ex _ _ nq hq
    refine ln_cat (ln_cat (ln_one "(").lt (lt_var hs hqG) (by simp; omega)).lt (ln_one ")").lt (by simp; omega) G _ (Same.refl G) fun p G2 s2 hp h2 => ?_
    exact k p true G2 n' (by rw [h2]; simp) (fun z => (hr z).symm) (fun z => nomatch z) hn' (bg.same s2) (fun b o nb eb => s2 _ _ (ex b o nb eb)) (bg.ne hp)
  have skip : ∀ (G : Hp) (n' : Nat), Bag G a n' → n' ≤ n + 1 → Ext a H G → r (levE e) lv = false → D.nx σ G := by
    intro G n' bg hn' ex hr
    have := k q false G n' (ex _ _ nq hq) (fun _ => hr.symm) (fun _ => hr) hn' bg ex nq
    rwa [set_same hs] at this
  refine ⟨_, h1, ra, xs, m, v, rfl, rfl, hsq, hat, v, e, rfl, hv, hok, fun G1 s1 => ⟨_, h5, _, _, rfl, rfl, _, rfl, ?_⟩⟩
  cases hr : r (levE e) lv with
  | true => exact iteT (iteT (put G1 n (hb.same s1) (by omega) (Ext.of s1) fun _ => hr))
  | false =>
    refine iteF ⟨_, h2, _, _, rfl, rfl, _, rfl, ?_⟩
    by_cases hw : (0 : Int) < (way : Int)
    · rw [decide_eq_true hw]
      refine iteT ⟨_, h0, a, 3, n, rfl, hb.same s1, by omega, by decide, by decide, fun u G2 u0 u1 bt bag2 => ⟨_, h2, _, _, rfl, rfl, _, rfl, ?_⟩⟩
      have ex2 : Ext a H G2 := fun b o nb eb => (bt b nb).trans (s1 _ _ eb)
      by_cases hu : u < (way : Int)
      · rw [decide_eq_true hu]
        exact iteT (put G2 (n + 1) bag2 (Nat.le_refl _) ex2 fun z => absurd hw (by omega))
      · rw [decide_eq_false hu]
        exact iteF (skip G2 (n + 1) bag2 (Nat.le_refl _) ex2 hr)
    · rw [decide_eq_false hw]
      exact iteF (iteF (skip G1 n (hb.same s1) (by omega) (Ext.of s1) hr))
end My
set_option Elab.async false
set_option linter.all false
set_option maxRecDepth 100000
set_option maxHeartbeats 4000000

namespace My
open PySem PySem.Spec PyProof.Rows L2
theorem SpT.snoc (k : Nat) (t : Str) : ∀ {ts : List Str} {T : List Nat}, SpT ts T → SpT (ts ++ [t]) (T ++ letters t ++ List.replicate k 32)
  | _, _, .nil m => by
    have := SpT.cons m t (.nil k)
    rw [List.append_assoc]
    exact this
  | _, _, @SpT.cons m u ts T h => by
    have := SpT.cons m u (SpT.snoc k t h)
    rw [List.append_assoc, List.append_assoc, List.append_assoc]
    rw [List.append_assoc] at this
    exact this
theorem spaces_letters {n : Int} (h0 : 0 ≤ n) (h : n ≤ 3) : letters (repS " " n.toNat) = List.replicate n.toNat 32 ∧ (repS " " n.toNat).length = n.toNat := by
  have : n = 0 ∨ n = 1 ∨ n = 2 ∨ n = 3 := by omega
  rcases this with rfl | rfl | rfl | rfl <;> exact ⟨by decide +kernel, by decide +kernel⟩
theorem take_end {α : Type} {l : List α} {i : Nat} {x : α} (h : l[i]? = some x) : l.take (i + 1) = l.take i ++ [x] := by rw [List.take_add_one, h]; rfl
theorem max_if (i j : Int) : (if j > i then j else i) = max i j := by
  by_cases h : j > i
  · rw [if_pos h]; omega
  · rw [if_neg h]; omega
theorem if_str (t u : Str) : (if decide (V.str t = V.str u) = true then (1 : Int) else 0) = if t = u then 1 else 0 := by
  by_cases c : t = u
  · rw [decide_eq_true (show V.str t = V.str u from congrArg V.str c), if_pos rfl, if_pos c]
  · rw [decide_eq_false (show ¬ V.str t = V.str u from fun z => c (by injection z)), if_neg (by simp), if_neg c]
theorem opF_eq (dm : Int × Int) (t : Str) {x : Int} (hx : (dm.1 + if decide (V.str t = V.str "(") = true then (1 : Int) else 0) - (if decide (V.str t = V.str ")") = true then (1 : Int) else 0) = x) : opF dm t = (x, if x > dm.2 then x else dm.2) := by
  rw [max_if]
  unfold opF
  rw [if_str, if_str] at hx
  show (dm.1 + (if t = oP then 1 else 0) - (if t = cP then 1 else 0), max dm.2 (dm.1 + (if t = oP then 1 else 0) - (if t = cP then 1 else 0))) = _
  rw [hx]
def spOpen (K : PySem.W.Frag) : Sp := fun vs H Q _ => ∃ (p : Addr) (ts : List Str), vs = [.ref p] ∧ H p = some (.lst (ts.map V.str)) ∧ ts.length ≤ 1000 ∧ ∀ H', Same H H' → Q (.int (ts.foldl opF (0, 0)).2) H'
def spSpacedE : Sp := fun vs H Q _ => ∃ (a p : Addr) (n : Nat) (ts : List Str), vs = [.ref a, .ref p] ∧ Bag H a n ∧ n + 2000 < 900000 ∧ H p = some (.lst (ts.map V.str)) ∧ p ≠ a ∧ ts.length ≤ 1000 ∧ (∀ t ∈ ts, t.length ≤ 4) ∧
  ∀ (x : Str) (H' : Hp) (n' : Nat), SpT ts (letters x) → x.length ≤ 2 + 7 * ts.length → n' ≤ n + 1 + ts.length → Bag H' a n' → Ext a H H' → Q (.str x) H'
def spPlainE : Sp := fun vs H Q _ => ∃ (p : Addr) (ts : List Str), vs = [.ref p] ∧ H p = some (.lst (ts.map V.str)) ∧ ts.length ≤ 1000 ∧ (∀ t ∈ ts, t.length ≤ 4) ∧
  ∀ (x : Str) (H' : Hp), letters x = plL ts → x.length ≤ 6 * ts.length → Same H H' → Q (.str x) H'
end My
set_option Elab.async false
set_option linter.all false
set_option maxRecDepth 100000

namespace My
open PySem PySem.Spec PyProof.Rows L2

structure FnTG (n : Nat) (P : Program) (w : World) (K : PySem.W.Frag) (mg : Str → Option Value) (base : Heap) (CX : CXT) (k : Nat) (f : Addr) (fd : FuncData) (ps : List Str) (sp : Sp) : Prop where
  len : ∀ vs H Q E, sp vs H Q E → vs.length = ps.length
  run : ∀ (A : Around) (outer : List Env) (s : Shared) (H : Hp) (args : Args) (us : List Value) (vs : List V) (Q : VK) (E : XK), n ≤ s.toks → A.guards = some [] → Room k A → Env0 P w K mg base A outer s H → BindsTo s fd args (ps.zip us) → Vals vs us → sp vs H Q E →
    codeAny (model P w) A (.call (.ref f) args) (CR CX outer P w H s Q E) s
section
variable {n : Nat} {P : Program} {w : World} {K : PySem.W.Frag} {mg : Str → Option Value} {base : Heap}
theorem fnTG_of {CX : CXT} {x qual : Str} {st : Stmt} {f : Addr} {fd : FuncData} {N ps : List Str} {k : Nat} {sp : Sp} (F : Fun K x qual st f fd) (S : FnScope N ps (defScope st)) (len : ∀ vs H Q E, sp vs H Q E → vs.length = ps.length)
    (hbody : ∀ (cdv : Value) (A : Around) (outer : List Env) (s : Shared) (H : Hp) (vs : List V) (Q : VK) (E : XK), (A.deeper (envOfC qual (defScope st) s.heap.objs.size f cdv)).guards = some [] → Room k (A.deeper (envOfC qual (defScope st) s.heap.objs.size f cdv)) → sp vs H Q E →
      ∃ t, PSsn n (cxOf CX P w K mg base N qual (defScope st) f cdv A outer s H E) (defBody st) t ∧ t { nx := fun _ H' => Q .non H', rt := Q } (start N vs) H) : FnTG n P w K mg base CX (k + 1) f fd ps sp := by
  obtain ⟨oc, od, kV, doc, pm, an, cdv, ct, osl, rfl, lk, hcd⟩ := F.ex
  refine ⟨len, fun A outer s H args us vs Q E hn hgd hr e0 hb r hsp => ?_⟩
  have KX : K.In s.heap := e0.mod.kin.keeps fun b o e => (e0.bs b o e).1
  have lim : s.heap.NoLimit := e0.mod.nolimit.keeps fun b o e => (e0.bs b o e).1
  have hkind : ∀ y ∈ ps.zip us, (defScope st).names.lookup y.1 = some .local ∨ ((defScope st).names.lookup y.1 = some .cell ∧ ((cellsFrom (s.heap.objs.size + 1) (defScope st).names []).lookup y.1).isSome = true) := by
    rintro ⟨m, v⟩ hy
    rcases S.par m (List.of_mem_zip hy).1 with q | q
    · exact .inl q
    · exact .inr ⟨q, PySem.W.cellsFrom_some _ _ _ (.inl q)⟩
  refine codeAny_call_function hr.depth (KX _ _ lk) rfl S.co S.gen rfl (PySem.W.codeRec_of KX hcd) (hb _ _ _ _ ?_)
  refine PySem.wpAny_with_toks hn (wpAny_newFunctionEnv_cells S.kind hkind fun env he s1 x hn1 => ?_)
  subst he
  refine ⟨lim.keeps x.toInCall.keep, codeAny_func ?_⟩
  obtain ⟨t, ht, hq⟩ := hbody cdv A outer s H vs Q E (deeper_guards A _ hgd) (hr.deeper _) hsp
  have I := inv_start (CX := CX) (E := E) S hr.hd e0 (len _ _ _ _ hsp) r x
  refine wpAny_mono (ht.run [] s1 (start N vs) H _ hn1 I hq) (fun fl s' hs => ?_) fun e s' hs => hs
  match fl, hs with
  | .ret u, ⟨v, σ', H', J, rv, q⟩ => exact ⟨v, H', J.os, J.bare, J.base, J.hok, rv, q⟩
  | .next, ⟨σ', H', J, q⟩ => exact ⟨.non, H', J.os, J.bare, J.base, J.hok, rfl, q⟩
  | .brk, ⟨_, _, _, q⟩ => exact q.elim
  | .cont, ⟨_, _, _, q⟩ => exact q.elim
end
section
variable {P : Program} {w : World} {K : PySem.W.Frag}
theorem callTG {n : Nat} {mg mb : Str → Option Value} {CX : CXT} {k : Nat} {fa a : Addr} {fd : FuncData} {x : Str} {sp : Sp}
    {s : Shared} {vs : List Value} {ns : List Int}
    (hn : n ≤ s.toks) (KX : K.In s.heap) (h1 : s.heap.Ns mainGlobals mg) (h2 : s.heap.Ns builtinsNs mb)
    (h3 : ∀ x : Str, x ≠ "__name__" → mb x = bootBuiltins x) (h4 : s.heap.NoLimit) (h5 : s.gens = #[])
    (ha : s.heap.get? a = some { cls := .type "list", data := .seq vs.toArray }) (hi : IntsAre vs ns)
    (hl : ns.length ≤ sizeLine) (hr : Room k callerA)
    (F : ∀ base : Heap, K.In base → base.Ns mainGlobals mg → FnTG n P w K mg base CX k fa fd [x] sp)
    (hb : ∀ (s : Shared) (u : Value), BindsTo s fd ⟨[u], []⟩ [(x, u)])
    (hsp : ∀ H : Hp, Only H → SqL K H a (ns.map V.int) → sp [.ref a] H (fun v _ => v = .bl true) fun _ _ _ => False)
    (hCX : ∀ H e s', CX [] H s (fun _ _ _ => False) e s' → False) :
    codeAny (model P w) callerA (.call (.ref fa) ⟨[.ref a], []⟩)
      (fun r s' => r = .ok (.ret (.bool true)) ∧ OldK s.heap s'.heap ∧ s'.os = s.os ∧ AllBare s'.gens) s := by
  have rv := vals_ints hi
  have main : ∀ H : Hp, Only H → SqL K H a (ns.map V.int) → HOk P w H s.heap →
      (∀ b u, H b = some u → b = a ∧ K.lookup a = none) →
      codeAny (model P w) callerA (.call (.ref fa) ⟨[.ref a], []⟩)
        (fun r s' => r = .ok (.ret (.bool true)) ∧ OldK s.heap s'.heap ∧ s'.os = s.os ∧ AllBare s'.gens) s := by
    intro H hO hS hok hA
    have isL : ∀ {b : Addr} {o : Obj} {u : HO}, s.heap.get? b = some o → H b = some u →
        o = { cls := .type "list", data := .seq vs.toArray } := by
      intro b o u e q
      obtain rfl := (hA b u q).1
      exact Option.some.inj (e.symm.trans ha)
    have up : ∀ {b : Addr} {o : Obj} {es : Array DictEntry} {n : Nat}, s.heap.get? b = some o →
        o.data = .dict es n → (hidT s.heap H).get? b = some o := by
      intro b o es n e d
      refine hidT_get e ?_
      cases q : H b with
      | none => rfl
      | some u => rw [isL e q] at d; cases d
    have upN : ∀ {b : Addr} {m : Str → Option Value}, s.heap.Ns b m → (hidT s.heap H).Ns b m := by
      rintro b m ⟨o, es, n, e, d, r⟩
      exact ⟨o, es, n, up e d, d, r⟩
    have KH : K.In (hidT s.heap H) := by
      intro b o e
      refine hidT_get (KX b o e) ?_
      cases q : H b with
      | none => rfl
      | some u =>
        obtain ⟨rfl, z⟩ := hA b u q
        rw [z] at e; cases e
    have M : Mod K mg (hidT s.heap H) := by
      refine ⟨KH, upN h1, ⟨mb, upN h2, h3⟩, ?_⟩
      obtain ⟨mc, l1, l2⟩ := h4
      exact ⟨mc, upN l1, l2⟩
    have e0 : Env0 P w K mg (hidT s.heap H) callerA [] s H :=
      { frames := rfl, mod := M, bs := fun b o e => of_hidT e, bsz := Nat.le_of_eq (hidT_size _ _)
        funs := trivial, frf := fun b z => absurd z (List.not_mem_nil), hok := hok, bare := .of_eq h5 }
    have run := (F _ KH (upN h1)).run callerA [] s H ⟨[.ref a], []⟩ [.ref a] [.ref a] _ _
      hn rfl hr e0 (hb s (.ref a)) (.cons rfl .nil) (hsp H hO hS)
    refine codeAny_mono run ?_
    intro r s' h
    match r, h with
    | .error e, h => exact (hCX H e s' h).elim
    | .ok .next, h => exact h.elim
    | .ok .brk, h => exact h.elim
    | .ok .cont, h => exact h.elim
    | .ok (.ret u), h =>
      obtain ⟨v, H', os, bare, un, hok', r', q⟩ := h
      obtain rfl : v = .bl true := q
      obtain rfl : u = Value.bool true := r'
      refine ⟨rfl, OldK.of_keep ?_, os, bare⟩
      intro b o e
      cases q : H b with
      | none => exact un.keep b o e q (fun z => absurd z (List.not_mem_nil)) (List.not_mem_nil)
      | some u =>
        rcases hO b with z | ⟨ob, xs, z⟩
        · rw [q] at z; cases z
        · obtain ⟨g1, _⟩ := hok b _ z
          obtain ⟨g2, _⟩ := hok' b _ (un.frzs b ob _ z)
          rw [e] at g1; cases g1
          exact g2
  cases hk : K.lookup a with
  | some o =>
    obtain rfl := Option.some.inj ((KX a o hk).symm.trans ha)
    refine main (fun _ => none) (fun _ => Or.inl rfl) (Or.inr ?_) (fun b u z => ?_) fun b u z => ?_
    · exact ⟨_, vs.toArray, _, hk, rfl, rfl, rfl, by rw [List.size_toArray, hi.length]; exact hl, by simpa using rv⟩
    · cases (show (none : Option HO) = some u from z)
    · cases (show (none : Option HO) = some u from z)
  | none =>
    refine main (only1 a { cls := .type "list", data := .seq vs.toArray } (.lst (ns.map V.int))) (fun b => ?_)
      (Or.inl (Or.inr ⟨_, only1_at⟩)) (fun b u z => ?_) fun b u z => ?_
    · by_cases e : b = a
      · subst e; exact Or.inr ⟨_, _, only1_at⟩
      · exact Or.inl (only1_ne e)
    · by_cases e : b = a
      · subst e
        obtain rfl := Option.some.inj (only1_at.symm.trans z)
        exact ⟨ha, by rw [List.length_map]; exact hl, vs, _, rv, ha⟩
      · rw [only1_ne e] at z; cases z
    · by_cases e : b = a
      · exact ⟨e, hk⟩
      · rw [only1_ne e] at z; cases z
end
theorem walkTG {l : PySem.W.OpenLaw} {n k N t : Nat} {q : Program} {loose : List Str} {XP : (Str → Option Value) → Heap → Prop} {as : List Addr} {K : Params → PySem.W.Frag} {d : DefRec} {sp : World → Sp} {x : Str}
    (he : ∀ P, as = (K P).map (·.1)) (hn : l.most = some n) (hn2 : n ≤ sizeLine) (hdf : d.params.defaults = []) (hr : Room k callerA)
    (F : ∀ (w : World) (mg : Str → Option Value) (fa : Addr) (h : Heap), (K w.params).In h → h.Ns mainGlobals mg → mg d.name = some (.ref fa) → ∃ fd : FuncData, (∀ (s : Shared) (u : Value), BindsTo s fd ⟨[u], []⟩ [(x, u)]) ∧
      ∀ base : Heap, (K w.params).In base → base.Ns mainGlobals mg → FnTG t l.prog w (K w.params) mg base CX0 k fa fd [x] (sp w))
    (hsp : ∀ (w : World) (H : Hp) (a : Addr) (ns : List Int), ns.length ≤ n → Only H → SqL (K w.params) H a (ns.map V.int) → sp w [.ref a] H (fun v _ => v = .bl true) fun _ _ _ => False) :
    PySem.W.WalkX q loose XP (PySem.W.X.obsZ as) (PySem.W.X.valZ K N t) l.row.toRowW d [] (fun f vs => PySem.call f vs) := by
  intro w s₀ s₁ mg mb G Y fa o pm cd doc dV kV ho hd hcd hD hmg hg args vals as' hL hpre hlay hrd hwl hlo
  obtain ⟨Z1, ZI, ZN, ZT⟩ := PySem.W.X.z_facts he Y
  obtain rfl : dV = .none := PySem.W.Dflts.none hD hdf
  obtain rfl : kV = .none := PySem.W.Dflts.noKw hD
  obtain ⟨a, vs, ns, rfl, rfl, hobj, hints, hlen⟩ := Att.script_of hn hpre hwl
  have ht : t ≤ s₁.toks := PySem.W.X.script_toks (by rw [ofPy_ints]; exact hL) ZT
  have KX : (K w.params).In s₁.heap := PySem.W.InK.keeps w s₀.heap s₁.heap ZI hL.keeps
  obtain ⟨fd, hb, hF⟩ := F w mg fa _ KX G.T.g hmg
  refine PySem.W.enter_call (codeAny_mono (callTG ht KX G.T.g G.T.b G.T.builtins G.T.nolimit hg hobj hints (Nat.le_trans hlen hn2) hr hF hb (fun H hO hS => hsp w H a ns hlen hO hS) fun H e s' z => z) fun r s' hq => ?_)
  obtain ⟨rfl, h2, h3, h4⟩ := hq
  exact ⟨.inl ⟨.bool true, .bool true, [], rfl, fun _ => rfl, .bool true, Att.post_true l _, fun _ => ⟨List.Pairwise.nil, fun _ hm => (nomatch hm)⟩⟩, h2, h3, h4⟩

def FnTk (n : Nat) (P : Program) (w : World) (K : PySem.W.Frag) (mg : Str → Option Value) (base : Heap) (CX : CXT) (k : Nat) (x : Str) (ps ks : List Str) (sp : Sp) : Prop :=
  ∃ f fd, mg x = some (.ref f) ∧ FnT n P w K mg base CX k f fd ps sp ∧ PySem.W.keepIn K (.ref f) = true ∧ KBn K fd ps 0 ks (fun us ws => us ++ ws) (fun vs zs => vs ++ zs)
def tCallK (m : Nat) (sp : Sp) (E : XK) (tk : TA) : TE := fun σ H Q => tk σ H fun zs H2 => zs.length = m ∧ sp zs H2 Q E
theorem pen_fnK {n : Nat} {X : Cx} {CX : CXT} {k : Nat} {ps ks : List Str} {sp : Sp} {E : XK} {x : Str} {p pos : Pos} {kws : List Keyword} {tk : TA} (D : FnTk n X.prog X.w X.K X.mg X.base CX k x ps ks sp) (hr : Room k X.A) (hg : Gl X x) (hx : Passes CX X E)
    (hkw : PK X kws tk) (hall : (backToKw pos (keywordEach kws X.env)).all (·.1.isSome) = true := by rfl) (hks : (backToKw pos (keywordEach kws X.env)).filterMap (·.1) = ks := by rfl)
    (hdb : (x == ("__debug__" : Str)) = false := by decide)
    (hpl : ((backTo pos (starEach [] X.env)).any (·.1) || (backToKw pos (keywordEach kws X.env)).any (·.1.isNone)) = false := by rfl) :
    PEn n X (.Call (.Name x p) [] kws pos) (tCallK ks.length sp E tk) := by
  obtain ⟨f, fd, hm, F, kp, hb⟩ := D
  refine ⟨fun pins s σ H Q hn I h => ?_⟩
  refine wpAny_Call_Name_kw (ld_glob I hg hm ?_ hdb)
  refine PySem.W.callWith_KW0 (h₀ := X.base) I.ok.mod.kin kp hall (thnK hn (hkw.run pos pins s σ H _ I h) fun ws s2 hn2 ⟨zs, H2, I2, rz, l2, q2⟩ => ⟨I2.kIn, ?_⟩) hpl
  rw [hks]
  have r2 : Vals zs ([] ++ ws) := rz
  refine wpAny_call (codeAny_mono (F.run X.A X.stack s2 H2 ⟨[], ks.zip ws⟩ ([] ++ ws) zs Q E hn2 hr I2.env0 (hb.to s2 [] ws I2.kIn rfl (rz.length.symm.trans l2)) r2 q2) fun r s' hq => ?_)
  match r, hq with
  | .error e, hq => exact hx pins σ H2 s2 e s' I2 hq
  | .ok (.ret u), hq => exact I2.after hq
  | .ok .next, hq => exact hq.elim
  | .ok .brk, hq => exact hq.elim
  | .ok .cont, hq => exact hq.elim
end My
set_option Elab.async false
set_option linter.all false
set_option maxRecDepth 100000
set_option maxHeartbeats 4000000

namespace My
open PySem PySem.Spec PyProof.Rows L2
theorem exP_name : ∀ s ∈ (["a", "b", "key", "zzzz", "lo"] : List Str), (PyData.str s).showable = true ∧ (PyData.str s).leavesShort 100 = true ∧ (PyData.str s).weight ≤ 20 ∧ (PyData.str s).depth ≤ 1 ∧ (PyData.str s).canLay0 = true := by decide +kernel
theorem exP_word : ∀ s ∈ (["keys", "look", "|", "^", "&", "-", "@"] : List Str), (PyData.str s).showable = true ∧ (PyData.str s).leavesShort 100 = true ∧ (PyData.str s).weight ≤ 20 ∧ (PyData.str s).depth ≤ 1 ∧ (PyData.str s).canLay0 = true := by decide +kernel
def exW : Nat → Nat
  | 0 => 20
  | j + 1 => 3 * (exW j + 1)
theorem exW_ge : ∀ j, 20 ≤ exW j
  | 0 => Nat.le_refl _
  | j + 1 => by have := exW_ge j; show 20 ≤ 3 * (exW j + 1); omega
theorem Ex.In.okP : ∀ {j : Nat} {e : Ex}, Ex.In j e → My.okP (exW j) (j + 1) e.d
  | j, .nm s, h => by
    have h' : s ∈ (["a", "b", "key", "zzzz", "lo"] : List Str) := by cases j <;> exact h
    obtain ⟨a, b, c, d, e⟩ := exP_name s h'
    exact ⟨a, b, Nat.le_trans c (exW_ge j), Nat.le_trans d (by omega), e⟩
  | 0, .keys _, h => h.elim
  | 0, .bin _ _ _, h => h.elim
  | j + 1, .keys a, h => by
    have ih := Ex.In.okP (j := j) (e := a) h
    obtain ⟨a1, b1, c1, d1, e1⟩ := exP_word "keys" (by decide)
    refine okP_tup (W := exW j) (D := j + 1) (fun d hd => ?_) (show 2 * (exW j + 1) ≤ 3 * (exW j + 1) by omega) (Nat.le_refl _)
    rcases List.mem_cons.mp hd with rfl | hd
    · exact ⟨a1, b1, Nat.le_trans c1 (exW_ge j), Nat.le_trans d1 (by omega), e1⟩
    · rw [List.mem_singleton.mp hd]; exact ih
  | j + 1, .bin w a b, h => by
    have ih1 := Ex.In.okP (j := j) (e := a) h.2.1
    have ih2 := Ex.In.okP (j := j) (e := b) h.2.2
    obtain ⟨a1, b1, c1, d1, e1⟩ := exP_word w (by
      rcases h.1 with q | rfl
      · have : ∀ w ∈ ops5, w ∈ (["keys", "look", "|", "^", "&", "-", "@"] : List Str) := by decide
        exact this w q
      · decide)
    refine okP_tup (W := exW j) (D := j + 1) (fun d hd => ?_) (show 3 * (exW j + 1) ≤ 3 * (exW j + 1) by omega) (Nat.le_refl _)
    rcases List.mem_cons.mp hd with rfl | hd
    · exact ⟨a1, b1, Nat.le_trans c1 (exW_ge j), Nat.le_trans d1 (by omega), e1⟩
    · rcases List.mem_cons.mp hd with rfl | hd
      · exact ih1
      · rw [List.mem_singleton.mp hd]; exact ih2
theorem Ex.In.mono : ∀ {j k : Nat} {e : Ex}, Ex.In j e → j ≤ k → Ex.In k e
  | 0, 0, .nm _, h, _ => h
  | 0, _ + 1, .nm _, h, _ => h
  | _ + 1, 0, .nm _, h, _ => h
  | _ + 1, _ + 1, .nm _, h, _ => h
  | 0, _, .keys _, h, _ => h.elim
  | 0, _, .bin _ _ _, h, _ => h.elim
  | _ + 1, 0, _, _, q => absurd q (by omega)
  | j + 1, k + 1, .keys a, h, q => Ex.In.mono (j := j) (k := k) (e := a) h (by omega)
  | j + 1, k + 1, .bin w a b, h, q => ⟨h.1, Ex.In.mono (j := j) (k := k) (e := a) h.2.1 (by omega), Ex.In.mono (j := j) (k := k) (e := b) h.2.2 (by omega)⟩

theorem Ex.In.show4 {j : Nat} {e : Ex} (h : Ex.In j e) (hj : j ≤ 4) : e.d.showable = true ∧ e.d.depth ≤ 60 ∧ e.d.shown.length ≤ sizeLine ∧ SeqAt.shaped e.d = true ∧ PyData.eqv e.d e.d = true := by
  have g := (h.mono hj).okP
  have t : okT e.d := okT_of (okP_mono g (by decide) (by decide))
  obtain ⟨a, b, c, d, l⟩ := g
  refine ⟨a, Nat.le_trans d (by decide), okT_len t, ?_, SeqAt.eqv_refl _ l⟩
  unfold SeqAt.shaped
  rw [l, decide_eq_true (Nat.le_trans d (by decide))]
  rfl
theorem join_total (ts : List Str) : (Txt.join "" ts).length = total ts := by
  rw [join_eq]
  induction ts with
  | nil => rfl
  | cons t r ih =>
    cases r with
    | nil => exact (Nat.add_zero _).symm
    | cons u r =>
      show (t ++ "" ++ Str.join "" (u :: r)).length = t.length + total (u :: r)
      rw [app_len, app_len, ih]
      rfl
def spDrawnA (K : PySem.W.Frag) : Sp := fun vs H Q E => ∃ j, j ≤ 4 ∧ spDrawn K j vs H Q E
def spToksA (K : PySem.W.Frag) : Sp := fun vs H Q E => ∃ j, j ≤ 4 ∧ spToks K j vs H Q E

theorem fnOk_any {P : Program} {w : World} {K : PySem.W.Frag} {mg : Str → Option Value} {base : Heap} {CX : CXT} {k m : Nat} {f : Addr} {fd : FuncData} {ps : List Str} {sp : Nat → Sp} (h : ∀ j, j ≤ m → FnOk P w K mg base CX k f fd ps (sp j)) : FnOk P w K mg base CX k f fd ps (fun vs H Q E => ∃ j, j ≤ m ∧ sp j vs H Q E) :=
  ⟨fun vs H Q E ⟨j, hj, q⟩ => (h j hj).len vs H Q E q, fun A outer s H args us vs Q E hr e0 hb r ⟨j, hj, q⟩ => (h j hj).run A outer s H args us vs Q E hr e0 hb r q⟩
def dueE : Ex := .bin "|" (.bin "|" (.nm "a") (.bin "^" (.nm "b") (.bin "&" (.nm "a") (.bin "-" (.nm "b") (.bin "@" (.nm "a") (.nm "b")))))) (.nm "b")
def dueS : Str := "a|b^a&b-a@b|b"
def dueT : List Str := ["a", "|", "b", "^", "a", "&", "b", "-", "a", "@", "b", "|", "b"]
theorem spT_flat : ∀ ts : List Str, SpT ts (ts.flatMap letters)
  | [] => .nil 0
  | t :: r => by
    rw [List.flatMap_cons]
    exact SpT.cons 0 t (spT_flat r)
theorem due_read : readE dueS = some dueE.d := by
  have hn : nameOk "a" = true ∧ nameOk "b" = true := by decide +kernel
  have hl : letters dueS = dueT.flatMap letters := by decide +kernel
  have h : Dk 0 0 dueE dueT := .op (i := 0) (ta := ["a", "|", "b", "^", "a", "&", "b", "-", "a", "@", "b"]) rfl (Nat.le_refl _)
    (.op (i := 0) (ta := ["a"]) rfl (Nat.le_refl _) (.nm hn.1)
      (.op (i := 1) (ta := ["b"]) rfl (Nat.le_refl _) (.nm hn.2)
        (.op (i := 2) (ta := ["a"]) rfl (Nat.le_refl _) (.nm hn.1)
          (.op (i := 3) (ta := ["b"]) rfl (Nat.le_refl _) (.nm hn.2)
            (.op (i := 4) (ta := ["a"]) rfl (Nat.le_refl _) (.nm hn.1) (.nm hn.2))))))
    (.nm hn.2)
  exact says_of h (by decide) (by decide +kernel) (hl ▸ spT_flat dueT)
theorem due_lay : SeqAt.shaped dueE.d = true ∧ PyData.eqv dueE.d dueE.d = true := by decide +kernel
theorem total_le : ∀ {ts : List Str}, (∀ t ∈ ts, t.length ≤ 4) → total ts ≤ 4 * ts.length
  | [], _ => Nat.le_refl _
  | t :: r, h => by
    have := total_le (ts := r) fun u hu => h u (List.mem_cons_of_mem _ hu)
    have := h t List.mem_cons_self
    show t.length + total r ≤ 4 * (r.length + 1)
    omega
section
variable {X : Cx}
theorem op_neDK {K : PySem.W.Frag} (hK : X.K = K) (hu : X.A.units + 64 < cLine) : OpR X (compareOp .NotEq) (rNeD K) := by
  subst hK
  exact op_neD hu
theorem op_eqDK {K : PySem.W.Frag} (hK : X.K = K) (hu : X.A.units + 64 < cLine) : OpR X (compareOp .Eq) (rEqD K) := by
  subst hK
  exact op_eqD hu
theorem call_reprK {K : PySem.W.Frag} (hK : X.K = K) (g : X.A.guards = some []) (hu : X.A.units + 64 < cLine) : CallR X (.builtin "repr") (rRepr K) := by
  subst hK
  exact call_repr g hu
end
end My
set_option Elab.async false
set_option linter.all false
set_option maxRecDepth 100000
set_option maxHeartbeats 4000000

namespace My
open PySem PySem.Spec PyProof.Rows L2
def opNames : List Str := ["|", "^", "&", "-", "@", "keys", "look"]
theorem keys_mem {P : Params} {l : List DictEntry} {ks : List Str} (h : l.map He.keyOf = He.keysIn P ks) : ∀ e ∈ l, ∃ x t, e.key = .str x t ∧ x ∈ ks := by
  intro e he
  have m : He.keyOf e ∈ He.keysIn P ks := h ▸ List.mem_map_of_mem he
  obtain ⟨k, hk, q⟩ := List.mem_map.mp m
  unfold He.keyOf at q
  split at q
  · rename_i x t z
    have := Option.some.inj q
    obtain ⟨e1, _⟩ := Prod.mk.inj this
    exact ⟨x, t, z, e1 ▸ hk⟩
  · cases q
theorem dicW_no {K : PySem.W.Frag} {w : World} {a : Addr} {ks : List Str} (h : He.dicW K a = some (He.keysIn w.params ks)) {z : Str} (hz : z ∉ ks) : PySem.W.nsIn K a z = some none := by
  obtain ⟨es, n, D⟩ := He.dicW_ok h
  have m : es.toList.map He.keyOf = He.keysIn w.params ks := by
    unfold He.dicW at h
    rw [D.at_] at h
    have h1 : (match decide (("dict" : String) = "dict") && ((#[] : Array (Option Value)).isEmpty && !(a == sysModules)) with
      | true => some (es.toList.map He.keyOf)
      | false => none) = some (He.keysIn w.params ks) := h
    cases q : decide (("dict" : String) = "dict") && ((#[] : Array (Option Value)).isEmpty && !(a == sysModules)) with
    | false => rw [q] at h1; cases h1
    | true => rw [q] at h1; exact Option.some.inj h1
  have mem := keys_mem m
  have f : es.toList.find? (·.key.isStr z) = none := by
    rw [List.find?_eq_none]
    intro e he q
    obtain ⟨x, t, e1, hx⟩ := mem e he
    have : e.key.isStr x = true := by rw [e1, PySem.W.isStr_of]; unfold Value.isStrOf; simp
    exact hz (Value.isStr_inj _ _ _ this q ▸ hx)
  have r : es.toList.any (·.refKey) = false := by
    rw [List.any_eq_false]
    intro e he q
    obtain ⟨x, t, e1, hx⟩ := mem e he
    unfold DictEntry.refKey at q
    rw [e1] at q
    cases q
  unfold PySem.W.nsIn
  rw [D.at_]
  show (match es.toList.find? (·.key.isStr z) with
    | some e => some (some e.val)
    | none => if es.toList.any (·.refKey) then none else some none) = some none
  rw [f, r]
  rfl
theorem kdOps_of {K : PySem.W.Frag} {w : World} {r : Addr} {t0 t1 t2 t3 t4 t5 t6 : Tok} (h : He.dicW K r = some (He.keysIn w.params opNames))
    (h0 : PySem.W.nsIn K r "|" = some (some (.int 2 t0))) (h1 : PySem.W.nsIn K r "^" = some (some (.int 2 t1))) (h2 : PySem.W.nsIn K r "&" = some (some (.int 2 t2))) (h3 : PySem.W.nsIn K r "-" = some (some (.int 2 t3)))
    (h4 : PySem.W.nsIn K r "@" = some (some (.int 2 t4))) (h5 : PySem.W.nsIn K r "keys" = some (some (.int 1 t5))) (h6 : PySem.W.nsIn K r "look" = some (some (.int 2 t6))) : KdOps K w r := by
  refine ⟨He.dicW_ok h, fun z hz => dicW_no h fun m => ?_, fun z n hz => ?_⟩
  · have all : ∀ z ∈ opNames, arity z ≠ none := by decide
    exact all z m hz
  · unfold arity at hz
    split at hz
    · rename_i q
      cases hz
      rcases q with q | rfl
      · have ho : ∀ z ∈ ops5, z = "|" ∨ z = "^" ∨ z = "&" ∨ z = "-" ∨ z = "@" := by decide
        rcases ho z q with rfl | rfl | rfl | rfl | rfl
        · exact ⟨_, h0⟩
        · exact ⟨_, h1⟩
        · exact ⟨_, h2⟩
        · exact ⟨_, h3⟩
        · exact ⟨_, h4⟩
      · exact ⟨_, h6⟩
    · split at hz
      · rename_i q
        cases hz
        subst q
        exact ⟨_, h5⟩
      · cases hz

theorem fn_tie {P : Program} {w : World} {K : PySem.W.Frag} {mg : Str → Option Value} {base : Heap} {f : Addr} {fd : FuncData} {x : Str} {ps : List Str} {sp : Nat → Sp}
    (g : mg x = some (.ref f)) (kp : PySem.W.keepIn K (.ref f) = true) (b : Binds K fd ps [])
    (F : ∀ (k0 j : Nat) (spS : Sp), (∀ m, j = m + 1 → spS = sp m) → Fn P w K mg base (k0 + 1) x ps spS → FnOk P w K mg base CX0 (k0 + 2) f fd ps (sp j)) :
    Fn P w K mg base 6 x ps (fun vs H Q E => ∃ j, j ≤ 4 ∧ sp j vs H Q E) := by
  have all : ∀ j, FnOk P w K mg base CX0 (j + 2) f fd ps (sp j) := by
    intro j
    induction j with
    | zero => exact F 0 0 spNever (fun m z => nomatch z) ⟨f, fd, g, fn_never, kp, b⟩
    | succ j ih => exact F (j + 1) (j + 1) (sp j) (fun m z => by cases z; rfl) ⟨f, fd, g, ih, kp, b⟩
  exact ⟨f, fd, g, fnOk_any fun j hj => (all j).mono (by omega), kp, b⟩
end My
set_option Elab.async false
set_option linter.all false
set_option maxRecDepth 100000
set_option maxHeartbeats 4000000
namespace My
open PySem PySem.Spec PyProof.Rows L2
def top (i : Nat) : Stmt := PySem.Challenge.pw_equalunlike_k09_expressions_read_and_wri.main.body.getD i (.Pass ⟨0, 0, 0, 0⟩)
abbrev s_is_name : Stmt := top 4
abbrev s_BadRow_init : Stmt := inClass (top 6) 0
abbrev s_Reader_init : Stmt := inClass (top 23) 0
abbrev s_Reader_took : Stmt := inClass (top 23) 5
abbrev s_Reader_need : Stmt := inClass (top 23) 6
abbrev s_Reader_parts : Stmt := inClass (top 23) 4
abbrev s_Reader_single : Stmt := inClass (top 23) 3
abbrev s_Reader_level : Stmt := inClass (top 23) 2
abbrev s_Reader_whole : Stmt := inClass (top 23) 1
abbrev s_p_split : Stmt := top 20
abbrev s_p_check_size : Stmt := top 19
abbrev s_read_expression : Stmt := top 17
abbrev s_words_of : Stmt := top 9
abbrev s_evaluated : Stmt := top 10
abbrev s_p_closed : Stmt := top 22
abbrev s_p_shown : Stmt := top 21
abbrev s_show_expression : Stmt := top 18
abbrev s_l_bag : Stmt := top 25
abbrev s_l_take : Stmt := top 26
abbrev s_l_drawn : Stmt := top 27
abbrev s_l_level : Stmt := top 28
abbrev s_l_tokens : Stmt := top 29
abbrev s_l_open : Stmt := top 30
abbrev s_l_spaced : Stmt := top 31
abbrev s_l_plain : Stmt := top 32
abbrev s_law : Stmt := top 33
structure Txt (K : PySem.W.Frag) (mg : Str → Option Value) (C_Reader : Addr) (C_BadRow : Addr) : Prop where
  n_abs : mg "abs" = none
  n_all : mg "all" = none
  n_int : mg "int" = none
  n_isinstance : mg "isinstance" = none
  n_len : mg "len" = none
  n_max : mg "max" = none
  n_min : mg "min" = none
  n_range : mg "range" = none
  n_repr : mg "repr" = none
  n_str : mg "str" = none
  g_LETTERS : ∃ t, mg "LETTERS" = some (.str "abcdefghijklmnopqrstuvwxyz" t)
  g_MOST_LETTERS : ∃ t, mg "MOST_LETTERS" = some (.int 4 t)
  g_RESERVED : ∃ r, mg "RESERVED" = some (.ref r) ∧ ∀ H, SqT K H r [.str "keys", .str "look", .str "self"]
  g_OPERANDS : ∃ r, mg "OPERANDS" = some (.ref r)
  g_OPERATORS : ∃ r, mg "OPERATORS" = some (.ref r) ∧ ∀ H, SqT K H r [.str "|", .str "^", .str "&", .str "-", .str "@"]
  g_SIGNS : ∃ r, mg "SIGNS" = some (.ref r) ∧ ∀ H, SqT K H r [.str "|", .str "^", .str "&", .str "-", .str "@", .str "(", .str ")", .str ","]
  g_MOST_CHARACTERS : ∃ t, mg "MOST_CHARACTERS" = some (.int 200 t)
  g_MOST_OPEN : ∃ t, mg "MOST_OPEN" = some (.int 8 t)
  g_END : ∃ t, mg "END" = some (.str "" t)
  g_BadRow : mg "BadRow" = some (.ref C_BadRow)
  g_Reader : mg "Reader" = some (.ref C_Reader)
  ox_BadRow : OwnX K C_BadRow
  nv_BadRow : PySem.W.findIn K (.ref C_BadRow) "place" = some none
  cl_Reader : Cls K C_Reader
  nw_Reader : NoAttr K C_Reader "words"
  na_Reader : NoAttr K C_Reader "at"
  nd_Reader : NoAttr K C_Reader "depth"

section
variable {P : Program} {w : World} {K : PySem.W.Frag} {mg : Str → Option Value} {base : Heap} {C_Reader : Addr} {C_BadRow : Addr}
theorem sc_is_name : FnScope ["thing", "letter"] ["thing"] (defScope s_is_name) := ⟨rfl, rfl, rfl, by decide +kernel, rfl, by decide +kernel, by decide +kernel⟩
theorem ok_is_name {f : Addr} {fd : FuncData} (F : Fun K "is_name" "is_name" s_is_name f fd) (T : Txt K mg C_Reader C_BadRow)
    : FnOk P w K mg base CX0 (1) f fd ["thing"] (spIs K mName) := by
  obtain ⟨t_LETTERS, g_LETTERS⟩ := T.g_LETTERS
  obtain ⟨t_MOST_LETTERS, g_MOST_LETTERS⟩ := T.g_MOST_LETTERS
  obtain ⟨t_RESERVED, g_RESERVED, s_RESERVED⟩ := T.g_RESERVED
  refine F.ok sc_is_name (fun vs H Q E h => ?_) (fun cdv A outer s H vs Q E hr h => ?_)
  · obtain ⟨v, d, rfl, _⟩ := h; rfl
  · obtain ⟨v, d, rfl, hx, hs, k⟩ := h
    have hu := hu_of hr
    have hu64 := hr.units
    refine ⟨_, (pss_cons (ps_if (PW.pt (pw_or (pt_not (pt_val (pe_callB call_isi (by rfl) T.n_isinstance (by decide +kernel) (pa_cons (pv 0) (pa_cons (pe_bltn (v := .ty "str") (u := .type "str") (by rfl) T.n_str (by decide +kernel) rfl) pa_nil))))) (pw_or1 (pt_not (pt_chain op_le op_le pe_int (pe_callB call_len_str (by rfl) T.n_len PySem.boot_len (pa_cons (pv 0) pa_nil)) (pe_glob (v := .int 4) rfl g_MOST_LETTERS ⟨_, rfl⟩))))))
    (pss_one (ps_ret pe_bl))
    pss_nil)
  (pss_cons (ps_if (pt_cmpR op_in_seq (pv 0) (pe_glob (v := .ref t_RESERVED) rfl g_RESERVED rfl) (by rfl))
    (pss_one (ps_ret pe_bl))
    pss_nil)
  (pss_one (ps_ret (pe_callB (cr_all rfl) (by rfl) T.n_all (by decide +kernel) (pa_cons (pe_lc (own := [("letter", 1)]) (g := gName 1) (tt := tYes) rfl sc_is_name.nd (pi_str (pv 0)) (blkOk_by (own := [("letter", 1)]) (N := ["thing", "letter"]) (sc := defScope s_is_name) (by decide +kernel)) (fun _ _ _ _ _ => (pg_name (i := 1) sc_is_name.nd rfl (Or.inl rfl))) (fun _ _ _ _ _ => pts_nil) (fun _ _ _ _ _ => (pe_cmpR op_in_sign (pv 1) (pe_glob (v := .str "abcdefghijklmnopqrstuvwxyz") rfl g_LETTERS ⟨_, rfl⟩) (by rfl)))) pa_nil)))))), ?_⟩
    refine rd_isi rfl hx (by simp) ⟨_, rfl, ?_⟩
    rw [isD_str]
    cases d with
    | int i => exact iteT (iteT (k H (Same.refl H)))
    | bool b => exact iteT (iteT (k H (Same.refl H)))
    | none => exact iteT (iteT (k H (Same.refl H)))
    | list xs => exact iteT (iteT (k H (Same.refl H)))
    | tuple xs => exact iteT (iteT (k H (Same.refl H)))
    | dict kvs => exact iteT (iteT (k H (Same.refl H)))
    | str x =>
      obtain rfl := dx_str hx
      have hl := len_le hs
      have k : ∀ H', Same H H' → Q (.bl (nameOk x)) H' := k
      refine iteF ⟨_, rfl, _, rfl, size_ok (by omega), _, _, rfl, rfl, _, rfl, ?_⟩
      by_cases h1 : (1 : Int) ≤ x.length
      · rw [decide_eq_true h1]
        refine iteT ⟨_, _, rfl, rfl, _, rfl, ?_⟩
        by_cases h4 : (x.length : Int) ≤ 4
        · rw [decide_eq_true h4]
          refine iteF ⟨_, rfl, _, _, rfl, Or.inr (s_RESERVED _), rfl, rfl, inV (.str x) [.str "keys", .str "look", .str "self"], rfl, ?_⟩
          cases e : inV (.str x) [.str "keys", .str "look", .str "self"] with
          | true =>
            refine iteT ?_
            have := k H (Same.refl H)
            have e2 : nameOk x = false := by unfold nameOk; rw [e]; simp
            rw [e2] at this
            exact this
          | false =>
            refine iteF ⟨_, rfl, _, rfl, fun D hD => lc_text (fun i H' => H' = upd H D (.lst ((x.cps.toList.take i).map fun c => V.bl (inAbc c)))) rfl ?_ ?_⟩
            · rintro i c H' hc rfl
              refine ⟨rfl, _, rfl, _, _, rfl, rfl, _, upd_same, ?_, ?_⟩
              · refine size_lt ?_
                rw [List.length_map, List.length_take]
                have : x.cps.toList.length = x.length := rfl
                omega
              · show upd (upd _ _ _) _ _ = _
                rw [upd_upd, take_snoc hc, List.map_append]
                rfl
            · rintro H' rfl
              refine ⟨D, x.cps.toList.map inAbc, rfl, SqL.of (upd_same.trans ?_), ?_⟩
              · rw [List.map_map]
                congr 2
                have : x.cps.toList.take x.cps.size = x.cps.toList := List.take_of_length_le (Nat.le_of_eq Array.length_toList)
                rw [this]
                rfl
              · rw [all_ids]
                have := k _ (same_new hD (o := .lst ((x.cps.toList.take x.cps.size).map fun c => V.bl (inAbc c))))
                unfold nameOk at this
                rw [e, decide_eq_true (show 1 ≤ x.length ∧ x.length ≤ 4 by omega)] at this
                exact this
        · rw [decide_eq_false h4]
          have := k H (Same.refl H)
          unfold nameOk at this
          rw [decide_eq_false (show ¬ (1 ≤ x.length ∧ x.length ≤ 4) by omega)] at this
          exact this
      · rw [decide_eq_false h1]
        have := k H (Same.refl H)
        unfold nameOk at this
        rw [decide_eq_false (show ¬ (1 ≤ x.length ∧ x.length ≤ 4) by omega)] at this
        exact ⟨_, rfl, this⟩
theorem sc_BadRow_init : FnScope ["self", "place"] ["self", "place"] (defScope s_BadRow_init) := ⟨rfl, rfl, rfl, by decide +kernel, rfl, by decide +kernel, by decide +kernel⟩
theorem ok_BadRow_init {f : Addr} {fd : FuncData} (F : Fun K "__init__" "BadRow.__init__" s_BadRow_init f fd) (T : Txt K mg C_Reader C_BadRow)
    : FnOk P w K mg base CX0 (1) f fd ["self", "place"] (spInit1 K "place") := by
  refine F.ok sc_BadRow_init (fun vs H Q E h => ?_) (fun cdv A outer s H vs Q E hr h => ?_)
  · obtain ⟨a, C, y, rfl, _⟩ := h; rfl
  · obtain ⟨a, C, y, rfl, hT, hno, ha, k⟩ := h
    have hu := hu_of hr
    have hu64 := hr.units
    refine ⟨_, (pss_one (ps_putX (pv 0) (pv 1))), ?_⟩
    exact ⟨_, rfl, _, rfl, a, C, rfl, hT, hno, .inl ⟨ha, fun dx n ne => k dx n ne⟩⟩
theorem sc_Reader_init : FnScope ["self", "words"] ["self", "words"] (defScope s_Reader_init) := ⟨rfl, rfl, rfl, by decide +kernel, rfl, by decide +kernel, by decide +kernel⟩
theorem ok_Reader_init {f : Addr} {fd : FuncData} (F : Fun K "__init__" "Reader.__init__" s_Reader_init f fd) (T : Txt K mg C_Reader C_BadRow)
    : FnOk P w K mg base CX0 (1) f fd ["self", "words"] (spInitRd C_Reader) := by
  obtain ⟨t_END, g_END⟩ := T.g_END
  refine F.ok sc_Reader_init (fun vs H Q E h => ?_) (fun cdv A outer s H vs Q E hr h => ?_)
  · obtain ⟨x, dx, a, toks, rfl, _⟩ := h; rfl
  · obtain ⟨x, dx, a, toks, rfl, hx, ha, hl, hne, hsm, k⟩ := h
    have hu := hu_of hr
    have hu64 := hr.units
    refine ⟨_, (pss_cons (ps_fld (pv 0) (pe_lst (StX.pa_star (pv 1) (pa_cons (pe_glob (v := .str "") rfl g_END ⟨_, rfl⟩) pa_nil))) rfl)
  (pss_cons (ps_fld (pv 0) pe_int rfl)
  (pss_one (ps_fld (pv 0) pe_int rfl)))), ?_⟩
    refine ⟨_, rfl, a, toks.map V.str, rfl, .inr (SqL.of ha), size_ok (by simp; omega), fun p hp => ?_⟩
    generalize e_p : upd H p _ = H1
    have s_p := new_same e_p hp
    have h_p := new_at e_p
    have npx : p ≠ x := fun z => by rw [z, hx] at hp; cases hp
    refine ⟨_, rfl, x, C_Reader, dx, [], rfl, s_p _ _ hx, T.cl_Reader, T.nw_Reader, (show (0 : Nat) < 1000 by decide), ?_⟩
    refine ⟨_, rfl, x, C_Reader, dx, _, rfl, upd_same, T.cl_Reader, T.na_Reader, (show (1 : Nat) < 1000 by decide), ?_⟩
    refine ⟨_, rfl, x, C_Reader, dx, _, rfl, upd_same, T.cl_Reader, T.nd_Reader, (show (2 : Nat) < 1000 by decide), ?_⟩
    refine k p _ (Ext.tr (Ext.of s_p) (Ext.tr ext_upd (Ext.tr ext_upd ext_upd))) ⟨⟨?_, ?_, ?_⟩, ?_, Nat.le_refl _, hne, hsm⟩
    · rw [Nat.sub_self]; exact upd_same
    · rw [List.map_append]; exact (upd_ne npx).trans ((upd_ne npx).trans ((upd_ne npx).trans h_p))
    · rw [List.length_append]; exact hl
    · rw [Nat.sub_self]; rfl
theorem sc_Reader_took : FnScope ["self", "word"] ["self", "word"] (defScope s_Reader_took) := ⟨rfl, rfl, rfl, by decide +kernel, rfl, by decide +kernel, by decide +kernel⟩
theorem ok_Reader_took {f : Addr} {fd : FuncData} (F : Fun K "took" "Reader.took" s_Reader_took f fd) (T : Txt K mg C_Reader C_BadRow)
    : FnOk P w K mg base CX0 (1) f fd ["self", "word"] (spTook C_Reader) := by
  refine F.ok sc_Reader_took (fun vs H Q E h => ?_) (fun cdv A outer s H vs Q E hr h => ?_)
  · obtain ⟨r, dx, w, ws, i, dep, x, y, rfl, _⟩ := h; rfl
  · obtain ⟨r, dx, w, ws, i, dep, x, y, rfl, hR, hy, k1, k2⟩ := h
    have hu := hu_of hr
    have hu64 := hr.units
    refine ⟨_, (pss_cons (ps_if (pt_cmpR op_ne (pe_ix ix_list (pe_fld (pv 0) rfl) (pe_fld (pv 0) rfl) (fun _ _ => rfl)) (pv 1) (nomark _))
    (pss_one (ps_ret pe_bl))
    pss_nil)
  (pss_cons (ps_fldaug (pv 0) pe_int in_add)
  (pss_one (ps_ret pe_bl)))), ?_⟩
    refine ⟨_, rfl, r, _, _, _, _, rfl, hR.ins, T.cl_Reader, T.nw_Reader, rfl, _, rfl, r, _, _, _, _, rfl, hR.ins, T.cl_Reader, T.na_Reader, rfl, w, ws.map V.str, (i : Int), .str y, rfl, rfl, SqL.of hR.lst, hR.at hy, ?_⟩
    refine ⟨_, rfl, rfl, _, rfl, ?_⟩
    by_cases e : y = x
    · subst e
      refine iteNS rfl ?_
      refine ⟨_, rfl, r, _, _, _, _, rfl, hR.ins, T.cl_Reader, T.na_Reader, rfl, i, 1, rfl, rfl, dx, _, hR.ins, (show (3 : Nat) < 1000 by decide), k1 rfl⟩
    · show (if (!decide (V.str y = V.str x)) = true then _ else _)
      rw [decide_eq_false (fun z => e (by injection z))]
      exact iteT (k2 e)
theorem sc_Reader_need : FnScope ["self", "word"] ["self", "word"] (defScope s_Reader_need) := ⟨rfl, rfl, rfl, by decide +kernel, rfl, by decide +kernel, by decide +kernel⟩
theorem ok_Reader_need {f : Addr} {fd : FuncData} (F : Fun K "need" "Reader.need" s_Reader_need f fd) (T : Txt K mg C_Reader C_BadRow)
    (D_BadRow_init : Xc P w K mg base C_BadRow 1 ["self", "place"] (spInit1 K "place"))
    (D_Reader_took : Mt P w K mg base C_Reader "took" 1 ["self", "word"] (spTook C_Reader))
    : FnOk P w K mg base (L2.CX P w) (3) f fd ["self", "word"] (spNeed C_Reader C_BadRow) := by
  refine F.okX sc_Reader_need (fun vs H Q E h => ?_) (fun cdv A outer s H vs Q E hr h => ?_)
  · obtain ⟨r, dx, w, ws, i, dep, x, y, rfl, _⟩ := h; rfl
  · obtain ⟨r, dx, w, ws, i, dep, x, y, rfl, hR, hy, k1, k2⟩ := h
    have hu := hu_of hr
    have hu64 := hr.units
    refine ⟨_, (pss_one (ps_if (pt_not (pt_val (pe_mt D_Reader_took (hr.mono (by decide)) T.cl_Reader (pv 0) (pa_cons (pv 1) pa_nil))))
    (pss_one (ps_raise rfl (takes_of rfl rfl rfl rfl) (mk_xc D_BadRow_init (hr.mono (by decide)) (by rfl) T.g_BadRow (pa_cons pe_int pa_nil))))
    pss_nil)), ?_⟩
    refine ⟨_, rfl, r, _, _, rfl, hR.ins, rfl, _, rfl, r, dx, w, ws, i, dep, x, y, rfl, hR, hy, (fun e => ⟨_, rfl, iteF ?_⟩), fun e => ⟨_, rfl, iteT ?_⟩⟩
    · exact k1 e
    · exact mkO_one T.ox_BadRow T.nv_BadRow fun d G s2 hd2 hG => k2 e d G s2 hd2 hG
theorem sc_Reader_parts : FnScope ["self", "many", "found"] ["self", "many"] (defScope s_Reader_parts) := ⟨rfl, rfl, rfl, by decide +kernel, rfl, by decide +kernel, by decide +kernel⟩
theorem ok_Reader_parts {f : Addr} {fd : FuncData} (F : Fun K "parts" "Reader.parts" s_Reader_parts f fd) (T : Txt K mg C_Reader C_BadRow)
    (D_BadRow_init : Xc P w K mg base C_BadRow 1 ["self", "place"] (spInit1 K "place"))
    (D_Reader_need : MtX P w K mg base C_Reader "need" 3 ["self", "word"] (spNeed C_Reader C_BadRow))
    {k0 n : Nat} {spI : Sp} (hI : ∀ m, n = m + 1 → spI = spLevelR K C_Reader C_BadRow m 5) (D_Reader_level : MtX P w K mg base C_Reader "level" (k0 + 4) ["self", "at_least"] spI)
    : FnOk P w K mg base (L2.CX P w) (k0 + 5) f fd ["self", "many"] (spPartsR K C_Reader C_BadRow n) := by
  obtain ⟨t_MOST_OPEN, g_MOST_OPEN⟩ := T.g_MOST_OPEN
  refine F.okX sc_Reader_parts (fun vs H Q E h => ?_) (fun cdv A outer s H vs Q E hr h => ?_)
  · obtain ⟨r, dx, w, toks, ts, dep, many, rfl, _⟩ := h; rfl
  · obtain ⟨r, dx, w, toks, ts, dep, many, rfl, hR, hn, hq⟩ := h
    have hu := hu_of hr
    have hu64 := hr.units
    refine ⟨_, (pss_cons (ps_expr (pe_mtX D_Reader_need (hr.mono (by omega)) T.cl_Reader (L2.passes_call (takes_of rfl rfl rfl rfl) (fun _ _ _ _ z => z)) (pv 0) (pa_cons pe_str pa_nil)))
  (pss_cons (ps_fldaug (pv 0) pe_int in_add)
  (pss_cons (ps_if (pt_cmpR op_gt (pe_fld (pv 0) rfl) (pe_glob (v := .int 8) rfl g_MOST_OPEN ⟨_, rfl⟩) (nomark _))
    (pss_one (ps_raise rfl (takes_of rfl rfl rfl rfl) (mk_xc D_BadRow_init (hr.mono (by omega)) (by rfl) T.g_BadRow (pa_cons pe_int pa_nil))))
    pss_nil)
  (pss_cons (ps_set (i := 2) sc_Reader_parts.nd rfl (Or.inl rfl) (pe_lst (pa_cons (pe_mtX D_Reader_level (hr.mono (by omega)) T.cl_Reader (L2.passes_call (takes_of rfl rfl rfl rfl) (fun _ _ _ _ z => z)) (pv 0) (pa_cons pe_int pa_nil)) pa_nil)))
  (pss_cons (ps_while (passes_of rfl) (pt_cmpR op_lt (pe_callB call_len_seq (by rfl) T.n_len PySem.boot_len (pa_cons (pv 2) pa_nil)) (pv 1) (nomark _)) (pss_cons (ps_expr (pe_mtX D_Reader_need (hr.mono (by omega)) T.cl_Reader (L2.passes_call (takes_of rfl rfl rfl rfl) (fun _ _ _ _ z => z)) (pv 0) (pa_cons pe_str pa_nil)))
      (pss_one (ps_expr (pe_bm PySem.F.plainAttrs_list PySem.F.slot_list_append PySem.F.type_list_append mt_append (pv 2) (pa_cons (pe_mtX D_Reader_level (hr.mono (by omega)) T.cl_Reader (L2.passes_call (takes_of rfl rfl rfl rfl) (fun _ _ _ _ z => z)) (pv 0) (pa_cons pe_int pa_nil)) pa_nil))))))
  (pss_cons (ps_expr (pe_mtX D_Reader_need (hr.mono (by omega)) T.cl_Reader (L2.passes_call (takes_of rfl rfl rfl rfl) (fun _ _ _ _ z => z)) (pv 0) (pa_cons pe_str pa_nil)))
  (pss_cons (ps_fldaug (pv 0) pe_int in_sub)
  (pss_one (ps_ret (pv 2)))))))))), ?_⟩
    refine ⟨_, rfl, r, _, _, rfl, hR.rd.ins, rfl, r, dx, w, _, _, dep, "(", _, rfl, hR.rd, hR.at, (fun e => ?_), fun e e0 H' s h0 h1 => ?_⟩
    rotate_left
    · have no := RdT.no (ts := ts) (x := "(") (by decide) e
      rcases hq with ⟨_, _, k2⟩ | ⟨_, _, k2⟩
      · exact k2 (p1_a no) e0 H' (Ext.of s) h0 h1
      · exact k2 (p2_a no) e0 H' (Ext.of s) h0 h1
    obtain ⟨tl, rfl, ho, hR1⟩ := hR.step (by decide) e
    have x1 : Ext r H (upd H r _) := ext_upd (o := .ins C_Reader dx (rdF w ((toks.length - (("(" : Str) :: tl).length + 1 : Nat) : Int) dep))
    generalize upd H r _ = H1 at hR1 x1 ⊢
    refine ⟨_, rfl, r, _, _, _, _, rfl, hR1.rd.ins, T.cl_Reader, T.nd_Reader, rfl, dep, 1, rfl, rfl, dx, _, hR1.rd.ins, (show (3 : Nat) < 1000 by decide), ?_⟩
    generalize eH2 : upd H1 r _ = H2
    have hR2 : RdT C_Reader H2 r dx w toks tl (dep + 1) := by rw [← eH2]; exact hR1.deep (dep + 1)
    have x12 : Ext r H1 H2 := by rw [← eH2]; exact ext_upd
    have x02 := Ext.tr x1 x12
    clear eH2
    have nH : ∀ e0, H2 e0 = none → H e0 = none := fun e0 z => ext_none x02 hR2.some z
    refine ⟨_, rfl, r, _, _, _, _, rfl, hR2.rd.ins, T.cl_Reader, T.nd_Reader, rfl, ((dep + 1 : Nat) : Int), 8, rfl, rfl, _, rfl, ?_⟩
    cases n with
    | zero =>
      have d8 : dep = 8 := by omega
      subst d8
      refine iteT ?_
      refine mkO_one T.ox_BadRow T.nv_BadRow fun d G s2 hd2 hG => ?_
      rcases hq with ⟨_, _, k2⟩ | ⟨_, _, k2⟩
      · exact k2 (p1_b ho rfl) d G (Ext.tr x02 (Ext.of s2)) (nH d hd2) hG
      · exact k2 (p2_b ho rfl) d G (Ext.tr x02 (Ext.of s2)) (nH d hd2) hG
    | succ m =>
    obtain rfl := hI m rfl
    have d8 : ¬ ((8 : Int) < ((dep + 1 : Nat) : Int)) := by omega
    rw [decide_eq_false d8]
    refine iteF ?_
    refine ⟨_, rfl, r, _, _, rfl, hR2.rd.ins, rfl, r, dx, w, toks, tl, dep + 1, 0, rfl, by decide, by decide, hR2, by omega, ?_, ?_⟩
    rotate_left
    · intro no e0 H' x0 h0 h1
      rcases hq with ⟨_, _, k2⟩ | ⟨_, _, k2⟩
      · exact k2 (p1_b ho no) e0 H' (Ext.tr x02 x0) (nH e0 h0) h1
      · exact k2 (p2_b ho no) e0 H' (Ext.tr x02 x0) (nH e0 h0) h1
    intro d ts3 v H3 hp3 x3 hR3 hd3 ht3
    have hp3 : pIn (m + 1) tl = some (d, ts3) := hp3
    refine ⟨size_ok (by simp), fun p hp => ?_⟩
    generalize e_p : upd H3 p _ = H4
    have s_p := new_same e_p hp
    have h_p := new_at e_p
    have hR4 := hR3.same s_p
    have hd4 := dp_same s_p _ _ hd3
    have x04 := Ext.tr x02 (Ext.tr x3 (Ext.of s_p))
    have npr : p ≠ r := fun z => hR3.some (z ▸ hp)
    have npw : p ≠ w := fun z => by rw [z, hR3.rd.lst] at hp; cases hp
    have nH4 : ∀ e0, H4 e0 = none → H e0 = none := fun e0 z => ext_none x04 hR4.some z
    rcases hq with ⟨rfl, k1, k2⟩ | ⟨rfl, k1, k2⟩
    · refine ⟨fun q σ' G => q = 0 ∧ σ' = [some (.ref r), some (.int 1), some (.ref p)] ∧ G = H4, ⟨0, rfl, rfl, rfl⟩, ?_⟩
      rintro q σ' G ⟨rfl, rfl, rfl⟩
      refine ⟨_, rfl, p, [v], rfl, .inl (SqL.of h_p), _, rfl, 1, 1, rfl, rfl, ?_⟩
      refine ⟨_, rfl, iteF ?_⟩
      refine ⟨_, rfl, r, _, _, rfl, hR4.rd.ins, rfl, r, dx, w, _, _, _, ")", _, rfl, hR4.rd, hR4.at, (fun e => ?_), fun e e0 H' s h0 h1 => ?_⟩
      rotate_left
      · exact k2 (p1_c ho hp3 (RdT.no (by decide) e)) e0 H' (Ext.tr x04 (Ext.of s)) (nH4 e0 h0) h1
      obtain ⟨tlz, rfl, hoz, hRz⟩ := hR4.step (by decide) e
      generalize eHz : upd G r _ = Hz at hRz ⊢
      have xz : Ext r G Hz := by rw [← eHz]; exact ext_upd
      refine ⟨_, rfl, r, _, _, _, _, rfl, hRz.rd.ins, T.cl_Reader, T.nd_Reader, rfl, ((dep + 1 : Nat) : Int), 1, rfl, rfl, dx, _, hRz.rd.ins, (show (3 : Nat) < 1000 by decide), ?_⟩
      generalize eHy : upd Hz r _ = Hy
      have hRy : RdT C_Reader Hy r dx w toks tlz dep := by
        rw [← eHy]
        have z := hRz.deep dep
        have ed : ((dep + 1 : Nat) : Int) - 1 = (dep : Int) := by omega
        show RdT C_Reader (upd Hz r (.ins C_Reader dx (rdF w _ (((dep + 1 : Nat) : Int) - 1)))) r dx w toks tlz dep
        rw [ed]
        exact z
      have xy : Ext r G Hy := by rw [← eHy]; exact Ext.tr xz ext_upd
      exact ⟨_, rfl, k1 d tlz v p Hy (p1_d ho hp3 hoz) (Ext.tr x04 xy) hRy (extT_dp (.ext hR4.rd.ins xy) _ _ ht3 hd4) ht3 (xy _ _ npr h_p)⟩
    · refine ⟨fun q σ' G => (q = 1 ∧ σ' = [some (.ref r), some (.int 2), some (.ref p)] ∧ G = H4) ∨ (q = 0 ∧ σ' = [some (.ref r), some (.int 2), some (.ref p)] ∧ ∃ t4 ts5 d2 v2, pTok "," ts3 = some t4 ∧ pIn (m + 1) t4 = some (d2, ts5) ∧ Ext r H G ∧ RdT C_Reader G r dx w toks ts5 (dep + 1) ∧ Dp K G v d ∧ Dp K G v2 d2 ∧ tre d2 = true ∧ G p = some (.lst [v, v2])), ⟨1, .inl ⟨rfl, rfl, rfl⟩⟩, ?_⟩
      rintro q σ' G (⟨rfl, rfl, rfl⟩ | ⟨rfl, rfl, t4, ts5, d2, v2, h4, hp5, x05, hR5, hv5, hv25, ht5, h_p5⟩)
      · refine ⟨_, rfl, p, [v], rfl, .inl (SqL.of h_p), _, rfl, 1, 2, rfl, rfl, ?_⟩
        refine ⟨_, rfl, iteT ?_⟩
        refine ⟨fun σ' G => σ' = [some (.ref r), some (.int 2), some (.ref p)] ∧ ∃ t4 ts5 d2 v2, pTok "," ts3 = some t4 ∧ pIn (m + 1) t4 = some (d2, ts5) ∧ Ext r H G ∧ RdT C_Reader G r dx w toks ts5 (dep + 1) ∧ Dp K G v d ∧ Dp K G v2 d2 ∧ tre d2 = true ∧ G p = some (.lst [v, v2]), fun σ' G z => ⟨0, by decide, .inr ⟨rfl, z⟩⟩, ?_⟩
        refine ⟨_, rfl, r, _, _, rfl, hR4.rd.ins, rfl, r, dx, w, _, _, _, ",", _, rfl, hR4.rd, hR4.at, (fun e => ?_), fun e e0 H' s h0 h1 => ?_⟩
        rotate_left
        · exact k2 (p2_c ho hp3 (RdT.no (by decide) e)) e0 H' (Ext.tr x04 (Ext.of s)) (nH4 e0 h0) h1
        obtain ⟨t4, rfl, h4, hR5⟩ := hR4.step (by decide) e
        generalize eH5 : upd G r _ = H5 at hR5 ⊢
        have x45 : Ext r G H5 := by rw [← eH5]; exact ext_upd
        have x05 := Ext.tr x04 x45
        have h_p5 := x45 _ _ npr h_p
        refine ⟨_, rfl, .inl ⟨rfl, [v], SqL.of h_p5⟩, _, rfl, r, _, _, rfl, hR5.rd.ins, rfl, r, dx, w, toks, t4, dep + 1, 0, rfl, by decide, by decide, hR5, by omega, ?_, ?_⟩
        rotate_left
        · intro no e0 H' x0 h0 h1
          exact k2 (p2_d ho hp3 h4 no) e0 H' (Ext.tr x05 x0) (ext_none x05 hR5.some h0) h1
        intro d2 ts5 v2 H6 hp6 x6 hR6 hd6 ht6
        have hp6 : pIn (m + 1) t4 = some (d2, ts5) := hp6
        have h_p6 := x6 _ _ npr h_p5
        have hv6 := extT_dp (.ext hR5.rd.ins x6) _ _ ht3 (extT_dp (.ext hR4.rd.ins x45) _ _ ht3 hd4)
        refine ⟨p, [v], v2, rfl, rfl, h_p6, (show (1 : Nat) < sizeLine by decide), rfl, t4, ts5, d2, v2, h4, hp6, ?_, hR6.put npr npw, extT_dp (.lst h_p6) _ _ ht3 hv6, extT_dp (.lst h_p6) _ _ ht6 hd6, ht6, upd_same⟩
        intro b o nb e
        have nbp : b ≠ p := fun z => by
          have := nH4 b
          rw [z] at e
          have q := Ext.tr x02 x3 p o npr e
          rw [hp] at q
          cases q
        exact (upd_ne nbp).trans (x6 _ _ nb (x05 _ _ nb e))
      · refine ⟨_, rfl, p, [v, v2], rfl, .inl (SqL.of h_p5), _, rfl, 2, 2, rfl, rfl, ?_⟩
        refine ⟨_, rfl, iteF ?_⟩
        have nH5 : ∀ e0, G e0 = none → H e0 = none := fun e0 z => ext_none x05 hR5.some z
        refine ⟨_, rfl, r, _, _, rfl, hR5.rd.ins, rfl, r, dx, w, _, _, _, ")", _, rfl, hR5.rd, hR5.at, (fun e => ?_), fun e e0 H' s h0 h1 => ?_⟩
        rotate_left
        · exact k2 (p2_e ho hp3 h4 hp5 (RdT.no (by decide) e)) e0 H' (Ext.tr x05 (Ext.of s)) (nH5 e0 h0) h1
        obtain ⟨tlz, rfl, hoz, hRz⟩ := hR5.step (by decide) e
        generalize eHz : upd G r _ = Hz at hRz ⊢
        have xz : Ext r G Hz := by rw [← eHz]; exact ext_upd
        refine ⟨_, rfl, r, _, _, _, _, rfl, hRz.rd.ins, T.cl_Reader, T.nd_Reader, rfl, ((dep + 1 : Nat) : Int), 1, rfl, rfl, dx, _, hRz.rd.ins, (show (3 : Nat) < 1000 by decide), ?_⟩
        generalize eHy : upd Hz r _ = Hy
        have hRy : RdT C_Reader Hy r dx w toks tlz dep := by
          rw [← eHy]
          have z := hRz.deep dep
          have ed : ((dep + 1 : Nat) : Int) - 1 = (dep : Int) := by omega
          show RdT C_Reader (upd Hz r (.ins C_Reader dx (rdF w _ (((dep + 1 : Nat) : Int) - 1)))) r dx w toks tlz dep
          rw [ed]
          exact z
        have xy : Ext r G Hy := by rw [← eHy]; exact Ext.tr xz ext_upd
        exact ⟨_, rfl, k1 d d2 tlz v v2 p Hy (p2_f ho hp3 h4 hp5 hoz) (Ext.tr x05 xy) hRy (extT_dp (.ext hR5.rd.ins xy) _ _ ht3 hv5) ht3 (extT_dp (.ext hR5.rd.ins xy) _ _ ht5 hv25) ht5 (xy _ _ npr h_p5)⟩
theorem sc_Reader_single : FnScope ["self", "word", "first", "second"] ["self"] (defScope s_Reader_single) := ⟨rfl, rfl, rfl, by decide +kernel, rfl, by decide +kernel, by decide +kernel⟩
theorem ok_Reader_single {f : Addr} {fd : FuncData} (F : Fun K "single" "Reader.single" s_Reader_single f fd) (T : Txt K mg C_Reader C_BadRow)
    (D_is_name : Fn P w K mg base 1 "is_name" ["thing"] (spIs K mName))
    (D_Reader_took : Mt P w K mg base C_Reader "took" 1 ["self", "word"] (spTook C_Reader))
    {k0 n : Nat} (D_Reader_parts : MtX P w K mg base C_Reader "parts" (k0 + 4) ["self", "many"] (spPartsR K C_Reader C_BadRow n))
    : FnOk P w K mg base (L2.CX P w) (k0 + 5) f fd ["self"] (spSingleR K C_Reader C_BadRow n) := by
  refine F.okX sc_Reader_single (fun vs H Q E h => ?_) (fun cdv A outer s H vs Q E hr h => ?_)
  · obtain ⟨r, dx, w, toks, ts, dep, rfl, _⟩ := h; rfl
  · obtain ⟨r, dx, w, toks, ts, dep, rfl, hR, hn, k1, k2⟩ := h
    have hu := hu_of hr
    have hu64 := hr.units
    refine ⟨_, (pss_cons (ps_set (i := 1) sc_Reader_single.nd rfl (Or.inl rfl) (pe_ix ix_list (pe_fld (pv 0) rfl) (pe_fld (pv 0) rfl) (fun _ _ => rfl)))
  (pss_cons (ps_if (pt_val (pe_fn D_is_name (hr.mono (by omega)) rfl (pa_cons (pv 1) pa_nil)))
    (pss_cons (ps_fldaug (pv 0) pe_int in_add)
      (pss_one (ps_ret (pv 1))))
    pss_nil)
  (pss_cons (ps_if (pt_val (pe_mt D_Reader_took (hr.mono (by omega)) T.cl_Reader (pv 0) (pa_cons pe_str pa_nil)))
    (pss_one (ps_ret (pe_tup (pa_cons pe_str (pa_cons (pe_ix ix_list (pe_mtX D_Reader_parts (hr.mono (by omega)) T.cl_Reader (L2.passes_call (takes_of rfl rfl rfl rfl) (fun _ _ _ _ z => z)) (pv 0) (pa_cons pe_int pa_nil)) pe_int (fun _ _ => rfl)) pa_nil)))))
    pss_nil)
  (pss_cons (ps_if (pt_val (pe_mt D_Reader_took (hr.mono (by omega)) T.cl_Reader (pv 0) (pa_cons pe_str pa_nil)))
    (pss_cons (ps_asg (pe_mtX D_Reader_parts (hr.mono (by omega)) T.cl_Reader (L2.passes_call (takes_of rfl rfl rfl rfl) (fun _ _ _ _ z => z)) (pv 0) (pa_cons pe_int pa_nil)) (pg_lst rfl (pgs_cons (pg_name (i := 2) sc_Reader_single.nd rfl (Or.inl rfl)) (pgs_cons (pg_name (i := 3) sc_Reader_single.nd rfl (Or.inl rfl)) pgs_nil))))
      (pss_one (ps_ret (pe_tup (pa_cons pe_str (pa_cons (pv 2) (pa_cons (pv 3) pa_nil)))))))
    pss_nil)
  (pss_one (ps_ret (pe_ix ix_list (pe_mtX D_Reader_parts (hr.mono (by omega)) T.cl_Reader (L2.passes_call (takes_of rfl rfl rfl rfl) (fun _ _ _ _ z => z)) (pv 0) (pa_cons pe_int pa_nil)) pe_int (fun _ _ => rfl)))))))), ?_⟩
    refine ⟨_, rfl, r, _, _, _, _, rfl, hR.rd.ins, T.cl_Reader, T.nw_Reader, rfl, _, rfl, r, _, _, _, _, rfl, hR.rd.ins, T.cl_Reader, T.na_Reader, rfl, w, _, ((toks.length - ts.length : Nat) : Int), .str (ts.headD ""), rfl, rfl, SqL.of hR.rd.lst, hR.rd.at hR.at, ?_⟩
    refine ⟨_, rfl, .str (ts.headD ""), .str (ts.headD ""), rfl, .of (.str _), hR.smh, fun H1 s1 => ⟨_, rfl, ?_⟩⟩
    have hR1 := hR.same s1
    show (if nameOk (ts.headD "") = true then _ else _)
    cases q : nameOk (ts.headD "") with
    | true =>
      refine iteT ?_
      cases ts with
      | nil => rw [show (([] : List Str).headD "") = "" from rfl, no_end] at q; cases q
      | cons t tl =>
      have q : nameOk t = true := q
      have ht := hR.ne t (hR.mem t List.mem_cons_self)
      obtain ⟨tl2, e, _, hR2⟩ := hR1.step ht rfl
      cases e
      refine ⟨_, rfl, r, _, _, _, _, rfl, hR1.rd.ins, T.cl_Reader, T.na_Reader, rfl, ((toks.length - (t :: tl).length : Nat) : Int), 1, rfl, rfl, dx, _, hR1.rd.ins, (show (3 : Nat) < 1000 by decide), ?_⟩
      exact ⟨_, rfl, k1 (.str t) tl (.str t) _ (sg_name q) (Ext.tr (Ext.of s1) ext_upd) hR2 (.str t) rfl⟩
    | false =>
    refine iteF ?_
    have x1 : Ext r H H1 := Ext.of s1
    refine ⟨_, rfl, r, _, _, rfl, hR1.rd.ins, rfl, r, dx, w, _, _, dep, "keys", _, rfl, hR1.rd, hR1.at, (fun e => ⟨_, rfl, iteT ?_⟩), fun e => ⟨_, rfl, iteF ?_⟩⟩
    · obtain ⟨tl, rfl, _, hR2⟩ := hR1.step (by decide) e
      generalize eH2 : upd H1 r _ = H2 at hR2 ⊢
      have x2 : Ext r H H2 := Ext.tr x1 (by rw [← eH2]; exact ext_upd)
      refine ⟨_, rfl, r, _, _, rfl, hR2.rd.ins, rfl, r, dx, w, toks, tl, dep, 1, rfl, hR2, hn, .inl ⟨rfl, fun d rest v l H3 hpk x3 hR3 hd ht hl => ?_, fun hpk e0 H3 x3 h0 h1 => k2 (sg_keys0 hpk) e0 H3 (Ext.tr x2 x3) (ext_none x2 hR2.some h0) h1⟩⟩
      refine ⟨l, [v], 0, v, rfl, rfl, SqL.of hl, rfl, size_ok (by simp), fun p hp => ?_⟩
      generalize e_p : upd H3 p _ = H4
      have s_p := new_same e_p hp
      have h_p := new_at e_p
      exact k1 (.tuple [.str "keys", d]) rest (.ref p) H4 (sg_keys1 hpk) (Ext.tr x2 (Ext.tr x3 (Ext.of s_p))) (hR3.same s_p) (.tup (.of h_p) (.cons (.str _) (.cons (dp_same s_p _ _ hd) .nil))) (by unfold tre treAll treAll treAll; rw [ht]; rfl)
    refine ⟨_, rfl, r, _, _, rfl, hR1.rd.ins, rfl, r, dx, w, _, _, dep, "look", _, rfl, hR1.rd, hR1.at, (fun e2 => ⟨_, rfl, iteT ?_⟩), fun e2 => ⟨_, rfl, iteF ?_⟩⟩
    · obtain ⟨tl, rfl, _, hR2⟩ := hR1.step (by decide) e2
      generalize eH2 : upd H1 r _ = H2 at hR2 ⊢
      have x2 : Ext r H H2 := Ext.tr x1 (by rw [← eH2]; exact ext_upd)
      refine ⟨_, rfl, r, _, _, rfl, hR2.rd.ins, rfl, r, dx, w, toks, tl, dep, 2, rfl, hR2, hn, .inr ⟨rfl, fun d d2 rest v v2 l H3 hpk x3 hR3 hd ht hd2 ht2 hl => ?_, fun hpk e0 H3 x3 h0 h1 => k2 (sg_look0 hpk) e0 H3 (Ext.tr x2 x3) (ext_none x2 hR2.some h0) h1⟩⟩
      refine ⟨l, [v, v2], rfl, SqL.of hl, rfl, _, _, rfl, _, _, rfl, rfl, _, rfl, _, rfl, size_ok (by simp), fun p hp => ?_⟩
      generalize e_p : upd H3 p _ = H4
      have s_p := new_same e_p hp
      have h_p := new_at e_p
      exact k1 (.tuple [.str "look", d, d2]) rest (.ref p) H4 (sg_look1 hpk) (Ext.tr x2 (Ext.tr x3 (Ext.of s_p))) (hR3.same s_p) (.tup (.of h_p) (.cons (.str _) (.cons (dp_same s_p _ _ hd) (.cons (dp_same s_p _ _ hd2) .nil)))) (by unfold tre treAll treAll treAll treAll; rw [ht, ht2]; rfl)
    · have par := sg_par (inner := pIn n) q e e2
      refine ⟨_, rfl, r, _, _, rfl, hR1.rd.ins, rfl, r, dx, w, toks, ts, dep, 1, rfl, hR1, hn, .inl ⟨rfl, fun d rest v l H3 hpk x3 hR3 hd ht hl => ?_, fun hpk e0 H3 x3 h0 h1 => k2 (par.trans hpk) e0 H3 (Ext.tr x1 x3) (ext_none x1 hR1.some h0) h1⟩⟩
      exact ⟨l, [v], 0, v, rfl, rfl, SqL.of hl, rfl, k1 d rest v H3 (par.trans hpk) (Ext.tr x1 x3) hR3 hd ht⟩
theorem sc_Reader_level : FnScope ["self", "at_least", "operator", "left", "right"] ["self", "at_least"] (defScope s_Reader_level) := ⟨rfl, rfl, rfl, by decide +kernel, rfl, by decide +kernel, by decide +kernel⟩
theorem ok_Reader_level {f : Addr} {fd : FuncData} (F : Fun K "level" "Reader.level" s_Reader_level f fd) (T : Txt K mg C_Reader C_BadRow)
    (D_Reader_took : Mt P w K mg base C_Reader "took" 1 ["self", "word"] (spTook C_Reader))
    {k0 n m : Nat} {spS spL : Sp} (hS : m = 0 → spS = spSingleR K C_Reader C_BadRow n) (hL : ∀ q, m = q + 1 → spL = spLevelR K C_Reader C_BadRow n q) (D_Reader_single : MtX P w K mg base C_Reader "single" (k0 + 4) ["self"] spS) (D_Reader_level : MtX P w K mg base C_Reader "level" (k0 + 4) ["self", "at_least"] spL)
    : FnOk P w K mg base (L2.CX P w) (k0 + 5) f fd ["self", "at_least"] (spLevelR K C_Reader C_BadRow n m) := by
  obtain ⟨t_OPERATORS, g_OPERATORS, s_OPERATORS⟩ := T.g_OPERATORS
  refine F.okX sc_Reader_level (fun vs H Q E h => ?_) (fun cdv A outer s H vs Q E hr h => ?_)
  · obtain ⟨r, dx, w, toks, ts, dep, j, rfl, _⟩ := h; rfl
  · obtain ⟨r, dx, w, toks, ts, dep, j, rfl, hj, hm, hR, hn, k1, k2⟩ := h
    have hu := hu_of hr
    have hu64 := hr.units
    refine ⟨_, (pss_cons (ps_if (pt_cmpR op_eq (pv 1) (pe_callB call_len_seq (by rfl) T.n_len PySem.boot_len (pa_cons (pe_glob (v := .ref t_OPERATORS) rfl g_OPERATORS rfl) pa_nil)) (nomark _))
    (pss_one (ps_ret (pe_mtX0 D_Reader_single (hr.mono (by omega)) T.cl_Reader (L2.passes_call (takes_of rfl rfl rfl rfl) (fun _ _ _ _ z => z)) (pv 0))))
    pss_nil)
  (pss_cons (ps_set (i := 2) sc_Reader_level.nd rfl (Or.inl rfl) (pe_ix ix_tup (pe_glob (v := .ref t_OPERATORS) rfl g_OPERATORS rfl) (pv 1) (fun _ _ => rfl)))
  (pss_cons (ps_set (i := 3) sc_Reader_level.nd rfl (Or.inl rfl) (pe_mtX D_Reader_level (hr.mono (by omega)) T.cl_Reader (L2.passes_call (takes_of rfl rfl rfl rfl) (fun _ _ _ _ z => z)) (pv 0) (pa_cons (pe_op op_add (pv 1) pe_int) pa_nil)))
  (pss_cons (ps_while (passes_of rfl) (pt_val (pe_mt D_Reader_took (hr.mono (by omega)) T.cl_Reader (pv 0) (pa_cons (pv 2) pa_nil))) (pss_cons (ps_set (i := 4) sc_Reader_level.nd rfl (Or.inl rfl) (pe_mtX D_Reader_level (hr.mono (by omega)) T.cl_Reader (L2.passes_call (takes_of rfl rfl rfl rfl) (fun _ _ _ _ z => z)) (pv 0) (pa_cons (pe_op op_add (pv 1) pe_int) pa_nil)))
      (pss_one (ps_set (i := 3) sc_Reader_level.nd rfl (Or.inl rfl) (pe_tup (pa_cons (pv 2) (pa_cons (pv 3) (pa_cons (pv 4) pa_nil))))))))
  (pss_one (ps_ret (pv 3))))))), ?_⟩
    refine ⟨_, rfl, t_OPERATORS, _, rfl, .inr (s_OPERATORS _), rfl, _, rfl, ?_⟩
    cases m with
    | zero =>
      subst hj
      obtain rfl := hS rfl
      refine iteT ?_
      exact ⟨_, rfl, r, _, _, rfl, hR.rd.ins, rfl, r, dx, w, toks, ts, dep, rfl, hR, hn, k1, k2⟩
    | succ q =>
    obtain rfl := hL q rfl
    show (if decide (V.int j = V.int 5) = true then _ else _)
    rw [decide_eq_false (fun z => by injection z with z; omega)]
    refine iteF ?_
    have hop : atI [V.str "|", .str "^", .str "&", .str "-", .str "@"] j = some (.str (opAt q)) := by
      have : q = 0 ∨ q = 1 ∨ q = 2 ∨ q = 3 ∨ q = 4 := by omega
      rcases this with rfl | rfl | rfl | rfl | rfl <;> subst hj <;> rfl
    have hne : opAt q ≠ "" := by
      have : q = 0 ∨ q = 1 ∨ q = 2 ∨ q = 3 ∨ q = 4 := by omega
      rcases this with rfl | rfl | rfl | rfl | rfl <;> decide
    refine ⟨_, rfl, t_OPERATORS, _, j, .str (opAt q), rfl, rfl, s_OPERATORS _, hop, ?_⟩
    generalize eop : opAt q = op at hop hne ⊢
    refine ⟨_, rfl, r, _, _, rfl, hR.rd.ins, rfl, _, rfl, j, 1, rfl, rfl, r, dx, w, toks, ts, dep, j + 1, rfl, by omega, by omega, hR, hn, ?_, ?_⟩
    rotate_left
    · intro no e0 H' x0 h0 h1
      exact k2 (lev_none no) e0 H' x0 h0 h1
    intro d0 ts0 v0 H0 hp0 x0 hR0 hd0 ht0
    have hlev := lev_go hp0
    rw [eop] at hlev
    have hless := less_lev (less_single (less_in n)) q
    generalize esub : pLev (pSingle (pIn n)) q = sub at hp0 hlev hless
    refine ⟨fun k σ' G => ∃ tsl vl v4 dl, tsl.length ≤ k ∧ σ' = [some (.ref r), some (.int j), some (.str op), some vl, v4] ∧ Ext r H G ∧ RdT C_Reader G r dx w toks tsl dep ∧ Dp K G vl dl ∧ tre dl = true ∧ pLoop op sub k dl tsl = pLev (pSingle (pIn n)) (q + 1) ts, ⟨ts0.length, ts0, v0, none, d0, Nat.le_refl _, rfl, x0, hR0, hd0, ht0, hlev.symm⟩, ?_⟩
    rintro k σ' G ⟨tsl, vl, v4, dl, hk, rfl, xl, hRl, hdl, htl, hpl⟩
    refine ⟨_, rfl, r, _, _, rfl, hRl.rd.ins, rfl, _, rfl, r, dx, w, _, _, dep, op, _, rfl, hRl.rd, hRl.at, (fun e => ⟨_, rfl, iteT ?_⟩), fun e => ⟨_, rfl, iteF ?_⟩⟩
    rotate_left
    · have no := RdT.no (ts := tsl) (x := op) hne e
      rw [loop_no no] at hpl
      exact ⟨_, rfl, k1 dl tsl vl G hpl.symm xl hRl hdl htl⟩
    obtain ⟨tl, rfl, ho, hR1⟩ := hRl.step hne e
    generalize eH1 : upd G r _ = H1 at hR1 ⊢
    have xg1 : Ext r G H1 := by rw [← eH1]; exact ext_upd
    clear eH1
    have x1 := Ext.tr xl xg1
    refine ⟨fun σ' G' => ∃ ts2 v2 d2, sub tl = some (d2, ts2) ∧ ∃ p, σ' = [some (.ref r), some (.int j), some (.str op), some (.ref p), some v2] ∧ Ext r H G' ∧ RdT C_Reader G' r dx w toks ts2 dep ∧ Dp K G' (.ref p) (.tuple [.str op, dl, d2]) ∧ tre d2 = true, ?_, ?_⟩
    · rintro σ' G' ⟨ts2, v2, d2, e2, p, rfl, xx, hRR, hdp, ht2⟩
      cases k with
      | zero => exact absurd hk (by simp)
      | succ k =>
      refine ⟨k, Nat.lt_succ_self k, ts2, .ref p, some v2, .tuple [.str op, dl, d2], ?_, rfl, xx, hRR, hdp, ?_, ?_⟩
      · have a := hless _ _ _ e2
        simp only [List.length_cons] at hk
        omega
      · unfold tre treAll treAll treAll treAll; rw [htl, ht2]; rfl
      · rw [← hpl, loop_go ho e2]
    refine ⟨_, rfl, r, _, _, rfl, hR1.rd.ins, rfl, _, rfl, j, 1, rfl, rfl, r, dx, w, toks, tl, dep, j + 1, rfl, by omega, by omega, hR1, hn, ?_, ?_⟩
    rotate_left
    · intro no e0 H' x0 h0 h1
      rw [esub] at no
      refine k2 ?_ e0 H' (Ext.tr x1 x0) (ext_none x1 hR1.some h0) h1
      cases k with
      | zero => exact absurd hk (by simp)
      | succ k => rw [← hpl, loop_none ho no]
    intro d2 ts2 v2 H2 hp2 x2 hR2 hd2 ht2
    rw [esub] at hp2
    refine ⟨_, rfl, _, rfl, _, rfl, size_ok (by simp), fun p hp => ?_⟩
    generalize e_p : upd H2 p _ = H3
    have s_p := new_same e_p hp
    have h_p := new_at e_p
    have hdl3 := dp_same s_p _ _ (extT_dp (.ext hR1.rd.ins x2) _ _ htl (extT_dp (.ext hRl.rd.ins xg1) _ _ htl hdl))
    exact ⟨ts2, v2, d2, hp2, p, rfl, Ext.tr x1 (Ext.tr x2 (Ext.of s_p)), hR2.same s_p, .tup (.of h_p) (.cons (.str _) (.cons hdl3 (.cons (dp_same s_p _ _ hd2) .nil))), ht2⟩
theorem sc_Reader_whole : FnScope ["self", "expression"] ["self"] (defScope s_Reader_whole) := ⟨rfl, rfl, rfl, by decide +kernel, rfl, by decide +kernel, by decide +kernel⟩
theorem ok_Reader_whole {f : Addr} {fd : FuncData} (F : Fun K "whole" "Reader.whole" s_Reader_whole f fd) (T : Txt K mg C_Reader C_BadRow)
    (D_Reader_need : MtX P w K mg base C_Reader "need" 3 ["self", "word"] (spNeed C_Reader C_BadRow))
    {k0 : Nat} (D_Reader_level : MtX P w K mg base C_Reader "level" (k0 + 4) ["self", "at_least"] (spLevelR K C_Reader C_BadRow 8 5))
    : FnOk P w K mg base (L2.CX P w) (k0 + 5) f fd ["self"] (spWholeR K C_Reader C_BadRow) := by
  obtain ⟨t_END, g_END⟩ := T.g_END
  refine F.okX sc_Reader_whole (fun vs H Q E h => ?_) (fun cdv A outer s H vs Q E hr h => ?_)
  · obtain ⟨r, dx, w, toks, rfl, _⟩ := h; rfl
  · obtain ⟨r, dx, w, toks, rfl, hR, k1, k2⟩ := h
    have hu := hu_of hr
    have hu64 := hr.units
    refine ⟨_, (pss_cons (ps_set (i := 1) sc_Reader_whole.nd rfl (Or.inl rfl) (pe_mtX D_Reader_level (hr.mono (by omega)) T.cl_Reader (L2.passes_call (takes_of rfl rfl rfl rfl) (fun _ _ _ _ z => z)) (pv 0) (pa_cons pe_int pa_nil)))
  (pss_cons (ps_expr (pe_mtX D_Reader_need (hr.mono (by omega)) T.cl_Reader (L2.passes_call (takes_of rfl rfl rfl rfl) (fun _ _ _ _ z => z)) (pv 0) (pa_cons (pe_glob (v := .str "") rfl g_END ⟨_, rfl⟩) pa_nil)))
  (pss_one (ps_ret (pv 1))))), ?_⟩
    refine ⟨_, rfl, r, _, _, rfl, hR.rd.ins, rfl, r, dx, w, toks, toks, 0, 0, rfl, by decide, by decide, hR, rfl, ?_, ?_⟩
    rotate_left
    · intro no e0 H' x0 h0 h1
      exact k2 (pE_none no) e0 H' x0 h0 h1
    intro d ts v H1 hp x1 hR1 hd ht
    refine ⟨_, rfl, r, _, _, rfl, hR1.rd.ins, rfl, r, dx, w, _, _, 0, "", _, rfl, hR1.rd, hR1.at, (fun e => ?_), fun e e0 H' s h0 h1 => ?_⟩
    · cases ts with
      | nil =>
        have xn : Ext r H1 (upd H1 r _) := ext_upd (o := .ins C_Reader dx (rdF w ((toks.length - ([] : List Str).length + 1 : Nat) : Int) ((0 : Nat) : Int)))
        exact ⟨_, rfl, k1 d v _ (pE_some hp) (Ext.tr x1 xn) (extT_dp (.ext hR1.rd.ins xn) _ _ ht hd) ht⟩
      | cons t tl => exact absurd e (hR1.ne t (hR1.mem t List.mem_cons_self))
    · cases ts with
      | nil => exact absurd rfl e
      | cons t tl => exact k2 (pE_more hp) e0 H' (Ext.tr x1 (Ext.of s)) (ext_none x1 hR1.some h0) h1
theorem sc_p_split : FnScope ["text", "spaced", "sign", "word"] ["text"] (defScope s_p_split) := ⟨rfl, rfl, rfl, by decide +kernel, rfl, by decide +kernel, by decide +kernel⟩
theorem okT_p_split {n m : Nat} {f r : Addr} {fd : FuncData} {d : Option Addr} {its : Array Value} {sl : Array (Option Value)} (F : Fun K "_split" "_split" s_p_split f fd) (T : Txt K mg C_Reader C_BadRow)
    (hS : K.lookup r = some ⟨.type "tuple", d, .seq its m, sl⟩) (g_S : mg "SIGNS" = some (.ref r)) (hv : Vals (signsOf.map V.str) its.toList) (ht : ∀ (j : Nat) (u : Value), its[j]? = some u → ∃ (y : Str) (t : Tok), u = .str y t ∧ t ≠ 0 ∧ t + 1 < n) :
    FnT n P w K mg base CX0 1 f fd ["text"] spSplit := by
  refine fnT_of F sc_p_split (fun vs H Q E h => ?_) (fun cdv A outer s H vs Q E hr h => ?_)
  · obtain ⟨_, rfl, _⟩ := h; rfl
  · obtain ⟨x, rfl, hx, k⟩ := h
    have hu := hu_of hr
    refine ⟨_, PSsn.nox (pssn_cons (.of (ps_set (i := 1) sc_p_split.nd rfl (Or.inl rfl) (pv 0))) (pssn_cons
      (psn_forK (i := 2) (tb := fun v D σ H => ∃ y, v = .str y ∧ tRepS 1 y [tC (.str " "), tFmt (tVar 2), tC (.str " ")] σ H fun z H1 => D.nx (σ.set 1 (some z)) H1) PassesOwn.never rfl sc_p_split.nd rfl rfl (pe_glob (v := .ref r) rfl g_S rfl) hS hv
        (fun j v u ev eu pins s2 σ H2 D hn I ra hq => ?_))
      (PSsn.of (pss_one (ps_ret (pe_lc (own := [("word", 3)]) (g := gName 3) (tt := tWord 3) rfl sc_p_split.nd (pi_list (pe_split (pv 1) pe_str)) (blkOk_by (own := [("word", 3)]) (N := ["text", "spaced", "sign", "word"]) (sc := defScope s_p_split) (by decide +kernel)) (fun _ _ _ _ _ => (pg_name (i := 3) sc_p_split.nd rfl (Or.inl rfl))) (fun _ _ _ _ _ => pts_word (i := 3) rfl (Or.inl rfl)) (fun _ _ _ _ _ => (pv 3)))))))), ?_⟩
    · obtain ⟨y, rfl, hq⟩ := hq
      obtain ⟨y', t, rfl, h0, hn'⟩ := ht j u eu
      obtain ⟨u', eu', ru⟩ := hv.get ev
      have e : Value.str y' t = u' := Option.some.inj (eu.symm.trans (by simpa using eu'))
      obtain ⟨t2, e2⟩ := ru
      rw [← e] at e2
      cases e2
      exact replS_asg (i := 1) sc_p_split.nd rfl (Or.inl rfl) rfl (.cons pe_str (.cons (pe_fmt (pv 2)) (.cons pe_str .nil))) hn I ra h0 hn' hq
    · refine ⟨_, rfl, fun j σ' H' => ∃ v2, σ' = [some (.str x), some (.str (spacedBy (signsOf.take j) x)), v2, none] ∧ H' = H, ⟨none, rfl, rfl⟩, ?_, ?_⟩
      · rintro j v σ' H' ev ⟨v2, rfl, rfl⟩
        rw [List.getElem?_map] at ev
        obtain ⟨y, ey, rfl⟩ := Option.map_eq_some_iff.mp ev
        have hj : j < 8 := (List.getElem?_eq_some_iff.mp ey).1
        have hy : y.length = 1 := by
          have : ∀ y ∈ signsOf, y.length = 1 := by decide
          exact this y (List.mem_of_getElem? ey)
        have lz : (Str.empty ++ " " ++ y ++ " " : Str).length = 3 := by rw [Str.length_append, Str.length_append, Str.length_append, hy]; rfl
        have lx := spaced_fit hx j (by omega)
        have l3 := pow3 (show j ≤ 7 by omega)
        have sz : sizeLine = 16777216 := sizeLine_eq
        refine ⟨y, rfl, _, rfl, " ", rfl, (by rw [sz]; decide), ?_⟩
        refine ⟨.str y, rfl, ?_⟩
        refine .inl ⟨y, rfl, (by rw [sz, hy]; decide), y, rfl, (by rw [Str.length_append, Str.length_append, hy, sz]; decide), " ", rfl, (by rw [lz, sz]; decide), ?_, ?_, some (.str y), ?_, rfl⟩
        · cases q : (y == (Str.empty ++ " " ++ y ++ " " : Str)) with
          | false => rfl
          | true =>
            have e := congrArg Str.length (eq_of_beq q)
            rw [lz, hy] at e
            cases e
        · have lx2 := Nat.le_trans lx (Nat.mul_le_mul_right 1900 l3)
          rw [lz]
          omega
        · rw [spaced_step ey]; rfl
      · rintro σ' H' ⟨v2, rfl, rfl⟩
        have lx := spaced_fit hx 8 (Nat.le_refl _)
        have lx : (spacedBy signsOf x).length ≤ 3 ^ 8 * 1900 := lx
        have sz : sizeLine = 16777216 := sizeLine_eq
        have l8 : (3 : Nat) ^ 8 * 1900 = 12465900 := by decide
        refine ⟨_, rfl, ⟨_, rfl⟩, spacedBy signsOf x, " ", rfl, rfl, rfl, (by omega), fun p hp => ?_⟩
        have s1 : Same H' (upd H' p (.lst ((Txt.split (spacedBy signsOf x) " ").map V.str))) := same_new hp
        have h1 : upd H' p (.lst ((Txt.split (spacedBy signsOf x) " ").map V.str)) p = _ := upd_same
        generalize upd H' p _ = H1 at s1 h1 ⊢
        refine ⟨p, rfl, ⟨_, SqL.of h1⟩, fun D hD => ?_⟩
        have sl := PyProof.Rows.split_le (spacedBy signsOf x) " "
        refine lc_big (walk_list (K := K) (xs := (Txt.split (spacedBy signsOf x) " ").map V.str)) (Txt.split (spacedBy signsOf x) " ") (fun t => if ((t.length : Int) != 0) = true then some (V.str t) else none) (by rw [List.length_map]) (by rw [List.length_map]; omega) hD (fun H7 s7 => SqL.of (s7 _ _ h1)) ?_ ?_
        · rintro i t v H7 H8 R hi s7 ⟨rfl, hv⟩ hR
          rw [List.getElem?_map, hi] at hv
          cases hv
          have ps := PyProof.Rows.part_short (List.mem_of_getElem? hi)
          refine ⟨rfl, t, rfl, (by omega), ?_⟩
          have hR2 := hR _ (Same.refl _)
          by_cases e : ((t.length : Int) != 0) = true
          · rw [e] at hR2 ⊢
            exact iteT ⟨_, rfl, hR2⟩
          · rw [Bool.not_eq_true] at e
            rw [e] at hR2 ⊢
            exact iteF hR2
        · intro H2 s2 h2
          rw [tokens_fm] at h2
          exact k D H2 (s1.trans s2) (by cases q : H' D with | none => rfl | some o => rw [s1 _ _ q] at hD; cases hD) h2

theorem sc_p_check_size : FnScope ["text"] ["text"] (defScope s_p_check_size) := ⟨rfl, rfl, rfl, by decide +kernel, rfl, by decide +kernel, by decide +kernel⟩
theorem okT_p_check_size {f : Addr} {fd : FuncData} (F : Fun K "_check_size" "_check_size" s_p_check_size f fd) (T : Txt K mg C_Reader C_BadRow)
    (D_BadRow_init : Xc P w K mg base C_BadRow 1 ["self", "place"] (spInit1 K "place")) : FnT 1 P w K mg base (L2.CX P w) 3 f fd ["text"] (spCheck C_BadRow) := by
  obtain ⟨t_MOST_CHARACTERS, g_MOST_CHARACTERS⟩ := T.g_MOST_CHARACTERS
  refine fnT_of F sc_p_check_size (fun vs H Q E h => ?_) (fun cdv A outer s H vs Q E hr h => ?_)
  · obtain ⟨_, rfl, _⟩ := h; rfl
  · obtain ⟨x, rfl, hx, k1, k2⟩ := h
    refine ⟨_, pssn_one (psn_if (PWn.pt (pwn_or (PTn.of (pt_not (pt_val (pe_callB call_isi (by rfl) T.n_isinstance (by decide +kernel) (pa_cons (pv 0) (pa_cons (pe_bltn (v := .ty "str") (u := .type "str") (by rfl) T.n_str (by decide +kernel) rfl) pa_nil))))))
        (pwn_or1 (ptn_cmp op_gt (pen_callB call_len_str (by rfl) T.n_len PySem.boot_len (pan_cons (pen_replL (pv 0)) pan_nil)) (PEn.of (pe_glob (v := .int 200) rfl g_MOST_CHARACTERS ⟨_, rfl⟩)) (nomark _)))))
      (PSsn.of (pss_one (ps_raise rfl (takes_of rfl rfl rfl rfl) (mk_xc D_BadRow_init (hr.mono (by decide)) (by rfl) T.g_BadRow (pa_cons pe_int pa_nil)))))
      (PSsn.of pss_nil)), ?_⟩
    refine rd_isi rfl (.of (.str x)) (by simp) ⟨_, rfl, ?_⟩
    rw [isD_str]
    refine iteF ?_
    have sz : sizeLine = 16777216 := sizeLine_eq
    have z0 : ("" : Str).length = 0 := rfl
    have zl : (Txt.replace x " " "").length ≤ sizeLine := by
      have := TK.replace_len x " " ""
      rw [z0] at this
      omega
    refine ⟨_, rfl, x, rfl, (by rw [z0]; omega), _, rfl, zl, _, _, rfl, rfl, ?_⟩
    refine ⟨_, rfl, ?_⟩
    by_cases e : 200 < (noSpace x).length
    · rw [decide_eq_true (show (200 : Int) < ((Txt.replace x " " "").length : Int) by exact Int.ofNat_lt.mpr e)]
      refine iteT ?_
      exact mkO_one T.ox_BadRow T.nv_BadRow fun d G s2 hd2 hG => k2 e d G s2 hd2 hG
    · rw [decide_eq_false (show ¬ (200 : Int) < ((Txt.replace x " " "").length : Int) from fun z => e (Int.ofNat_lt.mp z))]
      exact iteF (k1 (Nat.le_of_not_lt e) H (Same.refl H))

theorem sc_read_expression : FnScope ["text"] ["text"] (defScope s_read_expression) := ⟨rfl, rfl, rfl, by decide +kernel, rfl, by decide +kernel, by decide +kernel⟩
theorem okT_read_expression {n : Nat} (h1n : 1 ≤ n) (hfit : ∀ x : Str, legal x → (noSpace x).length ≤ 200 → Fits x) {f : Addr} {fd : FuncData} (F : Fun K "read_expression" "read_expression" s_read_expression f fd) (T : Txt K mg C_Reader C_BadRow)
    (D_check : FnTb 1 P w K mg base (L2.CX P w) 3 "_check_size" ["text"] (spCheck C_BadRow)) (D_split : FnTb n P w K mg base CX0 1 "_split" ["text"] spSplit)
    (D_init : Mk1 P w K mg base C_Reader 1 ["self", "words"] (spInitRd C_Reader)) (D_whole : MtX P w K mg base C_Reader "whole" 77 ["self"] (spWholeR K C_Reader C_BadRow)) : FnT n P w K mg base (L2.CX P w) 78 f fd ["text"] (spReadE K C_BadRow) := by
  refine fnT_of F sc_read_expression (fun vs H Q E h => ?_) (fun cdv A outer s H vs Q E hr h => ?_)
  · obtain ⟨_, rfl, _⟩ := h; rfl
  · obtain ⟨x, rfl, hx, hg, k1, k2⟩ := h
    refine ⟨_, pssn_cons (psn_expr (PEn.le (pen_fn (E := E) D_check (hr.mono (by decide)) rfl (L2.passes_call (takes_of rfl rfl rfl rfl) (fun _ _ _ _ z => z)) (pan_cons (PEn.of (pv 0)) pan_nil)) h1n))
      (pssn_one (psn_ret (pen_mtX0 (E := E) D_whole (hr.mono (by decide)) T.cl_Reader (L2.passes_call (takes_of rfl rfl rfl rfl) (fun _ _ _ _ z => z)) (pen_mk1 D_init (hr.mono (by decide)) rfl T.g_Reader (pan_cons (pen_fn (E := E0) D_split (hr.mono (by decide)) rfl pass0 (pan_cons (PEn.of (pv 0)) pan_nil)) pan_nil))))), ?_⟩
    refine ⟨_, rfl, x, rfl, hx, fun le H1 s1 => ?_, fun gt e0 H1 s1 h0 h1 => k2 (by unfold readE; rw [if_neg (by omega)]) e0 H1 s1 h0 h1⟩
    have hE : readE x = pE (tokensOf x) := by unfold readE; rw [if_pos le]
    rw [hE] at k1 k2
    obtain ⟨hlt, hsm⟩ := hfit x hg le
    refine ⟨_, rfl, x, rfl, hx, fun p H2 s2 hp h2 => ?_⟩
    intro r dx hr hdx hne
    have n2 : ∀ {b : Addr} {o : HO}, H2 b = some o → b ≠ r := fun e z => by rw [z, hr] at e; cases e
    have m2 : ∀ {b : Addr} {o : HO}, H2 b = some o → b ≠ dx := fun e z => by rw [z, hdx] at e; cases e
    have x2 : ∀ b o, H2 b = some o → upd (upd H2 dx (.own r)) r (.ins C_Reader dx []) b = some o := fun b o e => (upd_ne (n2 e)).trans ((upd_ne (m2 e)).trans e)
    refine ⟨r, dx, p, tokensOf x, rfl, upd_same, x2 _ _ h2, hlt, fun t ht => tokens_ne ht, hsm, fun w H3 x3 hR => ⟨rfl, ?_⟩⟩
    have s3 : Same H H3 := fun b o e => x3 b o (n2 (s2 _ _ (s1 _ _ e))) (x2 _ _ (s2 _ _ (s1 _ _ e)))
    have s4 : ∀ {H4 : Hp}, Ext r H3 H4 → Same H H4 := fun x4 b o e => x4 b o (n2 (s2 _ _ (s1 _ _ e))) (s3 b o e)
    exact ⟨r, dx, _, rfl, hR.rd.ins, rfl, r, dx, w, tokensOf x, rfl, hR, fun d v H4 hp x4 hd ht => k1 d v H4 hp (s4 x4) hd ht,
      fun no e0 H4 x4 h0 h1 => k2 no e0 H4 (s4 x4) (by cases q : H e0 with | none => rfl | some o => rw [s3 _ _ q] at h0; cases h0) h1⟩

theorem sc_words_of : FnScope ["expression", "waiting", "backwards", "part", "word", "operands"] ["expression"] (defScope s_words_of) := ⟨rfl, rfl, rfl, by decide +kernel, rfl, by decide +kernel, by decide +kernel⟩
theorem ok_words_of {f : Addr} {fd : FuncData} (F : Fun K "words_of" "words_of" s_words_of f fd) (T : Txt K mg C_Reader C_BadRow)
    : FnOk P w K mg base CX0 (1) f fd ["expression"] (spWords K) := by
  refine F.ok sc_words_of (fun vs H Q E h => ?_) (fun cdv A outer s H vs Q E hr h => ?_)
  · obtain ⟨_, _, rfl, _⟩ := h; rfl
  · obtain ⟨v, e, rfl, hv, hs, k⟩ := h
    have hu := hu_of hr
    have hu64 := hr.units
    refine ⟨_, (pss_cons (ps_set (i := 1) sc_words_of.nd rfl (Or.inl rfl) (pe_lst (pa_cons (pv 0) pa_nil)))
  (pss_cons (ps_set (i := 2) sc_words_of.nd rfl (Or.inl rfl) (pe_lst pa_nil))
  (pss_cons (ps_while PassesOwn.never (pt_truth (pv 1) (by intro _; rfl)) (pss_cons (ps_set (i := 3) sc_words_of.nd rfl (Or.inl rfl) (pe_bm0 PySem.F.plainAttrs_list PySem.F.slot_list_pop PySem.F.type_list_pop mt_pop (pv 1)))
      (pss_one (ps_if (pt_val (pe_callB call_isi (by rfl) T.n_isinstance (by decide +kernel) (pa_cons (pv 3) (pa_cons (pe_bltn (v := .ty "str") (u := .type "str") (by rfl) T.n_str (by decide +kernel) rfl) pa_nil))))
        (pss_one (ps_expr (pe_bm PySem.F.plainAttrs_list PySem.F.slot_list_append PySem.F.type_list_append mt_append (pv 2) (pa_cons (pv 3) pa_nil))))
        (pss_cons (ps_asg (pv 3) (pg_star rfl (pgs_cons (pg_name (i := 4) sc_words_of.nd rfl (Or.inl rfl)) (pgs_cons (pg_name (i := 5) sc_words_of.nd rfl (Or.inl rfl)) pgs_nil))))
          (pss_cons (ps_expr (pe_bm PySem.F.plainAttrs_list PySem.F.slot_list_append PySem.F.type_list_append mt_append (pv 2) (pa_cons (pv 4) pa_nil)))
          (pss_one (ps_expr (pe_bm PySem.F.plainAttrs_list PySem.F.slot_list_extend PySem.F.type_list_extend mt_extend (pv 1) (pa_cons (pv 5) pa_nil))))))))))
  (pss_one (ps_ret (pe_revL (pv 2))))))), ?_⟩
    refine ⟨_, rfl, size_ok (by simp), fun p hp => ?_⟩
    generalize e_p : upd H p _ = H1
    have s_p := new_same e_p hp
    have h_p := new_at e_p
    refine ⟨size_ok (by simp), fun q hq => ?_⟩
    generalize e_q : upd H1 q _ = H2
    have s_q := new_same e_q hq
    have h_q := new_at e_q
    have npq : p ≠ q := ne_of_none h_p hq
    have sz : sizeLine = 16777216 := sizeLine_eq
    refine ⟨fun m σ G => ∃ (es : List Ex) (vs : List V) (bs : List Str) (v3 v4 v5 : Option V), σ = [some v, some (.ref p), some (.ref q), v3, v4, v5] ∧ m = Ex.sum es ∧ G p = some (.lst vs) ∧ DEs K G vs es ∧ G q = some (.lst (bs.map V.str)) ∧ bs ++ Ex.bws es = e.bw ∧ Same H G, ⟨e.size, [e], [v], [], none, none, none, rfl, by unfold Ex.sum; simp, s_q _ _ h_p, .cons (dp_same (s_p.trans s_q) _ _ hv) .nil, h_q, by unfold Ex.bws; simp, s_p.trans s_q⟩, ?_⟩
    rintro m σ G ⟨es, vs, bs, v3, v4, v5, rfl, rfl, hp1, hde, hq1, hb, same⟩
    have lv := dpAll_len hde
    rw [List.length_map] at lv
    have lb : bs.length + (Ex.bws es).length = e.size := by rw [← Ex.bw_len, ← hb, List.length_append]
    refine ⟨_, rfl, _, .inl ⟨vs, SqL.of hp1, rfl⟩, ?_⟩
    rcases List.eq_nil_or_concat es with rfl | ⟨es2, e2, ec⟩
    · cases hde
      refine iteF ⟨_, rfl, q, _, rfl, SqL.of hq1, fun u hu => ?_⟩
      generalize e_u : upd G u _ = G1
      have s_u := new_same e_u hu
      have h_u := new_at e_u
      refine k u G1 (same.trans s_u) (by cases z : H u with | none => rfl | some o => rw [same _ _ z] at hu; cases hu) ?_
      rw [h_u, ← List.map_reverse]
      have : bs = e.bw := by rw [← hb]; unfold Ex.bws; simp
      rw [this]
      rfl
    rw [List.concat_eq_append] at ec
    subst ec
    obtain ⟨ws, v2, rfl, hde2, hd2⟩ := dpAll_snoc hde
    have e1 : (!(ws ++ [v2]).isEmpty) = true := by cases ws <;> rfl
    refine iteTS e1 ⟨fun σ' G' => ∃ m' < Ex.sum (es2 ++ [e2]), ∃ (es : List Ex) (vs : List V) (bs : List Str) (v3 v4 v5 : Option V), σ' = [some v, some (.ref p), some (.ref q), v3, v4, v5] ∧ m' = Ex.sum es ∧ G' p = some (.lst vs) ∧ DEs K G' vs es ∧ G' q = some (.lst (bs.map V.str)) ∧ bs ++ Ex.bws es = e.bw ∧ Same H G', fun σ' G' z => z, ?_⟩
    have el : (ws ++ [v2])[(ws ++ [v2]).length - 1]? = some v2 := by simp
    refine ⟨_, rfl, .inl ⟨rfl, _, SqL.of hp1⟩, p, ws ++ [v2], v2, rfl, rfl, hp1, el, ?_⟩
    rw [List.dropLast_concat]
    have nGp : ∀ {b : Addr} {o : HO}, H b = some o → b ≠ p := fun eb z => by rw [z, hp] at eb; cases eb
    have nGq : ∀ {b : Addr} {o : HO}, H b = some o → b ≠ q := fun eb z => by rw [z] at eb; rw [s_p _ _ eb] at hq; cases hq
    have tx : ExtT G (upd G p (.lst ws)) := .lst hp1
    have g1p : upd G p (.lst ws) p = some (.lst ws) := upd_same
    have g1q : upd G p (.lst ws) q = some (.lst (bs.map V.str)) := (upd_ne npq.symm).trans hq1
    have same1 : Same H (upd G p (.lst ws)) := fun b o eb => (upd_ne (nGp eb)).trans (same _ _ eb)
    have hde3 := extT_dps tx hde2
    have hd3 := extT_de tx hd2
    generalize upd G p (.lst ws) = G1 at tx g1p g1q same1 hde3 hd3 ⊢
    rw [Ex.bws_snoc] at hb lb
    rw [List.length_append, Ex.bw_len] at lb
    rw [Ex.sum_snoc]
    refine rd_isi rfl (.of hd3) (by simp) ⟨_, rfl, ?_⟩
    rw [isD_str]
    rcases Ex.cases2 e2 with ⟨x, rfl⟩ | ⟨x, as, las, ed, ebw, esz⟩
    · cases hd3
      refine iteT ⟨_, rfl, .inl ⟨rfl, _, SqL.of g1q⟩, _, rfl, q, _, _, rfl, rfl, g1q, by rw [List.length_map, sz]; omega, ?_⟩
      refine ⟨_, by have := Ex.size_pos (.nm x); omega, es2, ws, bs ++ [x], _, _, _, rfl, rfl, (upd_ne npq).trans g1p, extT_dps (.lst g1q) hde3, ?_, ?_, fun b o eb => (upd_ne (nGq eb)).trans (same1 _ _ eb)⟩
      · rw [upd_same, List.map_append]; rfl
      · rw [← hb, List.append_assoc]; rfl
    · have hd4 : Dp K G1 v2 (.tuple (.str x :: as.map Ex.d)) := ed ▸ hd3
      rw [ed]
      cases hd4 with
      | tup hsq hall =>
      cases hall with
      | cons hx hall =>
      cases hx
      rename_i a2 vs2
      have hall : DEs K G1 vs2 as := hall
      have lvs := dpAll_len hall
      rw [List.length_map] at lvs
      refine iteF ⟨_, rfl, a2, _, vs2, rfl, hsq, by omega, fun D hD => ?_⟩
      generalize e_D : upd G1 D _ = G2
      have s_D := new_same e_D hD
      have h_D := new_at e_D
      refine ⟨_, _, rfl, _, _, rfl, rfl, ?_⟩
      have npD : p ≠ D := ne_of_none g1p hD
      have nqD : q ≠ D := ne_of_none g1q hD
      have g2p := s_D _ _ g1p
      have g2q := s_D _ _ g1q
      refine ⟨_, rfl, .inl ⟨rfl, _, SqL.of g2q⟩, _, rfl, q, _, _, rfl, rfl, g2q, by rw [List.length_map, sz]; omega, ?_⟩
      have g3p : upd G2 q (.lst (bs.map V.str ++ [.str x])) p = some (.lst ws) := (upd_ne npq).trans g2p
      have g3D : upd G2 q (.lst (bs.map V.str ++ [.str x])) D = some (.lst vs2) := (upd_ne nqD.symm).trans h_D
      have g3q : upd G2 q (.lst (bs.map V.str ++ [.str x])) q = some (.lst (bs.map V.str ++ [.str x])) := upd_same
      have x3 : ExtT G2 (upd G2 q (.lst (bs.map V.str ++ [.str x]))) := .lst g2q
      have same3 : Same H (upd G2 q (.lst (bs.map V.str ++ [.str x]))) := fun b o eb => (upd_ne (nGq eb)).trans (s_D _ _ (same1 _ _ eb))
      generalize upd G2 q (.lst (bs.map V.str ++ [.str x])) = G3 at g3p g3D g3q x3 same3 ⊢
      refine ⟨_, rfl, .inl ⟨rfl, _, SqL.of g3p⟩, _, rfl, p, D, _, _, rfl, rfl, g3p, g3D, by have l1 := dpAll_len hde2; rw [List.length_map] at l1; rw [Ex.bws_len] at lb; have l2 := Ex.sum_len es2; rw [sz]; omega, ?_⟩
      have tr := extT_dps (ExtT.same s_D) (hde3)
      have tr2 := extT_dps (ExtT.same s_D) hall
      refine ⟨_, ?_, es2 ++ as, ws ++ vs2, bs ++ [x], _, _, _, rfl, rfl, upd_same, ?_, ?_, ?_, fun b o eb => (upd_ne (nGp eb)).trans (same3 _ _ eb)⟩
      · rw [Ex.sum_app]; omega
      · show DpAll K _ _ ((es2 ++ as).map Ex.d)
        rw [List.map_append]
        exact dpAll_app (extT_dps (.lst g3p) (extT_dps x3 tr)) (extT_dps (.lst g3p) (extT_dps x3 tr2))
      · rw [List.map_append]; exact (upd_ne npq.symm).trans g3q
      · rw [← hb, ebw, Ex.bws_app]; simp
theorem sc_evaluated : FnScope ["words", "values", "step", "stack", "word", "first", "operands"] ["words", "values", "step"] (defScope s_evaluated) := ⟨rfl, rfl, rfl, by decide +kernel, rfl, by decide +kernel, by decide +kernel⟩
theorem ok_evaluated {f : Addr} {fd : FuncData} (F : Fun K "evaluated" "evaluated" s_evaluated f fd) (T : Txt K mg C_Reader C_BadRow)
    {α : Type} {Rl : Hp → V → α → Prop} {stp : Str → List α → Option α} {kS : Nat} {fS : Addr} {fdS : FuncData} {psS : List Str} (kRl : Keeps Rl) (hFS : FnOk P w K mg base CX0 kS fS fdS psS (spStepE Rl stp)) (hkS : PySem.W.keepIn K (.ref fS) = true) (hbS : Binds K fdS psS []) (kdO : ∀ r, mg "OPERANDS" = some (.ref r) → KdOps K w r)
    : FnOk P w K mg base CX0 (kS + 1) f fd ["words", "values", "step"] (spEval K Rl stp fS) := by
  obtain ⟨t_OPERANDS, g_OPERANDS⟩ := T.g_OPERANDS
  refine F.ok sc_evaluated (fun vs H Q E h => ?_) (fun cdv A outer s H vs Q E hr h => ?_)
  · obtain ⟨_, _, _, _, _, _, rfl, _⟩ := h; rfl
  · obtain ⟨wa, d, ws, kvs, env, z, rfl, hw, hl, hd, henv, hev, k⟩ := h
    obtain ⟨⟨es0, n0, kd0⟩, kno, kyes⟩ := kdO _ g_OPERANDS
    have hu := hu_of hr
    have hu64 := hr.units
    refine ⟨_, (pss_cons (ps_set (i := 3) sc_evaluated.nd rfl (Or.inl rfl) (pe_lst pa_nil))
  (pss_cons (ps_for PassesOwn.never rfl (pi_or (pi_list (pv 0)) (pi_tup (pv 0))) (pg_name (i := 4) sc_evaluated.nd rfl (Or.inl rfl))
    (pss_one (ps_if (pt_cmpR (op_in_kd kd0) (pv 4) (pe_glob (v := .ref t_OPERANDS) rfl g_OPERANDS rfl) (by rfl))
        (pss_cons (ps_set (i := 5) sc_evaluated.nd rfl (Or.inl rfl) (pe_op op_sub (pe_callB call_len_seq (by rfl) T.n_len PySem.boot_len (pa_cons (pv 3) pa_nil)) (pe_ix ix_kdict (pe_glob (v := .ref t_OPERANDS) rfl g_OPERANDS rfl) (pv 4) (fun _ _ => rfl))))
          (pss_cons (ps_set (i := 6) sc_evaluated.nd rfl (Or.inl rfl) (pe_slice sl_list (pv 3) (po_some (pv 5)) po_none))
          (pss_cons (ps_delSl (pv 3) (pv 5))
          (pss_one (ps_expr (pe_bm PySem.F.plainAttrs_list PySem.F.slot_list_append PySem.F.type_list_append mt_append (pv 3) (pa_cons (pe_callL (i := 2) (dvs := []) hFS hr rfl (Or.inl rfl) hkS hbS .nil pass0 (pa_cons (pv 4) (pa_cons (pv 6) pa_nil))) pa_nil)))))))
        (pss_one (ps_expr (pe_bm PySem.F.plainAttrs_list PySem.F.slot_list_append PySem.F.type_list_append mt_append (pv 3) (pa_cons (pe_dget hu (pv 1) (pv 4) (fun _ _ => rfl)) pa_nil)))))))
  (pss_one (ps_ret (pe_bm0 PySem.F.plainAttrs_list PySem.F.slot_list_pop PySem.F.type_list_pop mt_pop (pv 3)))))), ?_⟩
    have sz : sizeLine = 16777216 := sizeLine_eq
    refine ⟨size_ok (by simp), fun p hp => ?_⟩
    generalize e_p : upd H p _ = H1
    have s_p := new_same e_p hp
    have h_p := new_at e_p
    have nHp : ∀ {b : Addr} {o : HO}, H b = some o → b ≠ p := fun eb z => by rw [z, hp] at eb; cases eb
    refine for_either (xs := ws.map V.str) (L := fun G => Same H G) (fun Q z => ⟨_, rfl, z⟩) ?_ (fun i σ G => ∃ (v4 v5 v6 : Option V) (vs : List V) (st : List _), σ = [some (.ref wa), some (.ref d), some (.ref fS), some (.ref p), v4, v5, v6] ∧ G p = some (.lst vs) ∧ All2 (Rl G) vs st ∧ ev env stp (ws.drop i) st = some [z] ∧ Same H G ∧ vs.length ≤ i)
      ⟨none, none, none, [], [], rfl, h_p, .nil, hev, s_p, Nat.le_refl _⟩ ?_ ?_ ?_
    · rcases hw with hw | hw
      · exact .inl fun G s => s.seq hw
      · exact .inr fun G s => sqT_same s hw
    · rintro i σ G hi ⟨_, _, _, _, _, _, _, _, _, s, _⟩
      exact s
    · rintro i v σ G hv ⟨v4, v5, v6, vs, st, rfl, hpG, hst, hevi, same, hli⟩
      rw [List.getElem?_map] at hv
      obtain ⟨wd, ewd, rfl⟩ := Option.map_eq_some_iff.mp hv
      have hi : i < ws.length := (List.getElem?_eq_some_iff.mp ewd).1
      have edr : ws.drop i = wd :: ws.drop (i + 1) := by
        obtain ⟨h1, h2⟩ := List.getElem?_eq_some_iff.mp ewd
        rw [← h2]
        exact List.drop_eq_getElem_cons h1
      rw [edr] at hevi
      have hlen := hst.len
      cases ha : arity wd with
      | none =>
        obtain ⟨y, ey, hevn⟩ := ev_name ha hevi
        obtain ⟨v, ev0, rv⟩ := henv _ _ ey
        refine ⟨_, rfl, wd, none, rfl, rfl, kno _ ha, _, rfl, iteF ?_⟩
        refine ⟨_, rfl, .inl ⟨rfl, _, SqL.of hpG⟩, _, rfl, _, rfl, d, v, rfl, .inl ⟨_, .inr wd, .inl (same _ _ hd), rfl, ev0.symm⟩, p, vs, v, rfl, rfl, hpG, by rw [sz]; omega, ?_⟩
        exact ⟨_, _, _, _, _, rfl, upd_same, (hst.mono fun _ _ h => kRl.lst hpG h).app (.cons (kRl.lst hpG (kRl.same same rv)) .nil), hevn, fun b o eb => (upd_ne (nHp eb)).trans (same _ _ eb), by rw [List.length_append]; show vs.length + 1 ≤ i + 1; omega⟩
      | some n =>
        obtain ⟨hn, y, ey, hevn⟩ := ev_op ha hevi
        obtain ⟨tk, etk⟩ := kyes _ _ ha
        refine ⟨_, rfl, wd, some _, rfl, rfl, etk, _, rfl, iteT ?_⟩
        refine ⟨_, rfl, p, vs, rfl, .inl (SqL.of hpG), _, rfl, t_OPERANDS, wd, .int (n : Int), rfl, rfl, ⟨es0, n0, _, kd0.at_, kd0.lit, etk, ⟨_, rfl⟩⟩, rI0_to (v := .int ((vs.length - n : Nat) : Int)) (congrArg V.int (by omega)) ?_⟩
        refine ⟨_, rfl, _, rfl, _, rfl, p, vs, rfl, SqL.of hpG, fun D hD => ?_⟩
        have ecut : cutV vs (some ((vs.length - n : Nat) : Int)) none = vs.drop (vs.length - n) := cut_up vs (Nat.sub_le _ _)
        rw [ecut]
        generalize e_D : upd G D _ = G1
        have s_D := new_same e_D hD
        have h_D := new_at e_D
        have npD : p ≠ D := ne_of_none hpG hD
        refine ⟨_, rfl, _, rfl, p, vs, vs.length - n, rfl, rfl, s_D _ _ hpG, Nat.sub_le _ _, ?_⟩
        have g2D : upd G1 p (.lst (vs.take (vs.length - n))) D = some (.lst (vs.drop (vs.length - n))) := (upd_ne npD.symm).trans h_D
        have g2p : upd G1 p (.lst (vs.take (vs.length - n))) p = some (.lst (vs.take (vs.length - n))) := upd_same
        have same2 : Same H (upd G1 p (.lst (vs.take (vs.length - n)))) := fun b o eb => (upd_ne (nHp eb)).trans (s_D _ _ (same _ _ eb))
        have st2 : All2 (Rl (upd G1 p (.lst (vs.take (vs.length - n))))) vs st := (hst.mono fun _ _ h => kRl.lst (s_D _ _ hpG) (kRl.same s_D h))
        generalize upd G1 p (.lst (vs.take (vs.length - n))) = G2 at g2D g2p same2 st2 ⊢
        refine ⟨_, rfl, .inl ⟨rfl, _, SqL.of g2p⟩, rfl, _, rfl, _, rfl, ?_⟩
        rw [hlen] at g2D g2p
        refine ⟨wd, D, _, _, y, rfl, g2D, hlen ▸ st2.drop (vs.length - n), ?_, ey, fun v3 G3 s3 r3 => ⟨p, _, v3, rfl, rfl, s3 _ _ g2p, ?_, ?_⟩⟩
        · rw [List.length_drop, show st.length - (st.length - n) = n by omega]; exact ha
        · rw [List.length_take, sz]; omega
        · refine ⟨_, _, _, _, _, rfl, upd_same, ((hlen ▸ st2.take (vs.length - n)).mono fun _ _ h => kRl.lst (s3 _ _ g2p) (kRl.same s3 h)).app (.cons (kRl.lst (s3 _ _ g2p) r3) .nil), hevn, fun b o eb => (upd_ne (nHp eb)).trans (s3 _ _ (same2 _ _ eb)), ?_⟩
          rw [List.length_append, List.length_take]
          show _ + 1 ≤ i + 1
          omega
    · rintro σ G ⟨v4, v5, v6, vs, st, rfl, hpG, hst, hevi, same, hli⟩
      rw [List.length_map, List.drop_length] at hevi
      have hst1 : st = [z] := Option.some.inj hevi
      subst hst1
      cases hst with
      | cons rv r0 =>
      cases r0
      refine ⟨_, rfl, .inl ⟨rfl, _, SqL.of hpG⟩, p, _, _, rfl, rfl, hpG, rfl, ?_⟩
      exact k _ _ (fun b o eb => (upd_ne (nHp eb)).trans (same _ _ eb)) (kRl.lst hpG rv)
theorem sc_p_closed : FnScope ["part", "level", "text", "own"] ["part", "level"] (defScope s_p_closed) := ⟨rfl, rfl, rfl, by decide +kernel, rfl, by decide +kernel, by decide +kernel⟩
theorem ok_p_closed {f : Addr} {fd : FuncData} (F : Fun K "_closed" "_closed" s_p_closed f fd) (T : Txt K mg C_Reader C_BadRow)
    : FnOk P w K mg base CX0 (1) f fd ["part", "level"] (spClosed K) := by
  refine F.ok sc_p_closed (fun vs H Q E h => ?_) (fun cdv A outer s H vs Q E hr h => ?_)
  · obtain ⟨_, _, _, rfl, _⟩ := h; rfl
  · obtain ⟨v, p, l, rfl, ⟨r, rfl, hr1, hl⟩, k⟩ := h
    have hu := hu_of hr
    have hu64 := hr.units
    refine ⟨_, (pss_cons (ps_asg (pv 0) (pg_tup rfl (pgs_cons (pg_name (i := 2) sc_p_closed.nd rfl (Or.inl rfl)) (pgs_cons (pg_name (i := 3) sc_p_closed.nd rfl (Or.inl rfl)) pgs_nil))))
  (pss_one (ps_ret (pe_ifExp (pt_cmpR op_ge (pv 3) (pv 1) (nomark _)) (pv 2) (pe_joined (.cons pe_str (.cons (pe_fmt (pv 2)) (.cons pe_str .nil)))))))), ?_⟩
    have sz : sizeLine = 16777216 := sizeLine_eq
    have h1 : ("(" : Str).length = 1 := rfl
    have h2 : (")" : Str).length = 1 := rfl
    have h3 : Str.empty.length = 0 := rfl
    refine ⟨_, rfl, r, _, rfl, hr1, rfl, _, _, rfl, _, _, rfl, rfl, _, rfl, _, rfl, _, _, rfl, rfl, _, rfl, ?_⟩
    unfold closed at k
    by_cases e : l ≤ p.2
    · rw [if_pos e] at k
      rw [decide_eq_true (show (l : Int) ≤ (p.2 : Int) by omega)]
      exact iteT ⟨_, rfl, k⟩
    · rw [if_neg e] at k
      rw [decide_eq_false (show ¬ (l : Int) ≤ (p.2 : Int) by omega)]
      refine iteF ⟨_, rfl, by rw [app_len]; omega, _, rfl, .inl ⟨p.1, rfl, by omega, _, rfl, by rw [app_len, app_len]; omega, _, rfl, by rw [app_len, app_len, app_len]; omega, k⟩⟩
theorem sc_p_shown : FnScope ["word", "parts", "inside", "text", "_", "level", "left", "right"] ["word", "parts"] (defScope s_p_shown) := ⟨rfl, rfl, rfl, by decide +kernel, rfl, by decide +kernel, by decide +kernel⟩
theorem ok_p_shown {f : Addr} {fd : FuncData} (F : Fun K "_shown" "_shown" s_p_shown f fd) (T : Txt K mg C_Reader C_BadRow)
    (D_p_closed : Fn P w K mg base 1 "_closed" ["part", "level"] (spClosed K))
    (kO : ∀ r, mg "OPERATORS" = some (.ref r) → ∃ o, K.lookup r = some o ∧ o.cls = .type "tuple" ∧ o.dict = none)
    : FnOk P w K mg base CX0 (2) f fd ["word", "parts"] (spStepE (RP K) stpShowF) := by
  obtain ⟨t_OPERATORS, g_OPERATORS, s_OPERATORS⟩ := T.g_OPERATORS
  refine F.ok sc_p_shown (fun vs H Q E h => ?_) (fun cdv A outer s H vs Q E hr h => ?_)
  · obtain ⟨_, _, _, _, _, rfl, _⟩ := h; rfl
  · obtain ⟨wd, l, us, xs, y, rfl, hl, hst, ha, ey, k⟩ := h
    have hu := hu_of hr
    have hu64 := hr.units
    refine ⟨_, (pss_cons (ps_if (pt_cmpR op_notIn_seq (pv 0) (pe_glob (v := .ref t_OPERATORS) rfl g_OPERATORS rfl) (by rfl))
    (pss_cons (ps_set (i := 2) sc_p_shown.nd rfl (Or.inl rfl) (pe_join pe_str (pe_lc (own := [("text", 3), ("_", 4)]) (g := gTup K 2 (gCons (gName 3) (gCons (gName 4) gNil))) (tt := tYes) rfl sc_p_shown.nd (pi_list (pv 1)) (blkOk_by (own := [("text", 3), ("_", 4)]) (N := ["word", "parts", "inside", "text", "_", "level", "left", "right"]) (sc := defScope s_p_shown) (by decide +kernel)) (fun _ _ _ _ _ => (pg_tup rfl (pgs_cons (pg_name (i := 3) sc_p_shown.nd rfl (Or.inl rfl)) (pgs_cons (pg_name (i := 4) sc_p_shown.nd rfl (Or.inl rfl)) pgs_nil)))) (fun _ _ _ _ _ => pts_nil) (fun _ _ _ _ _ => (pv 3)))))
      (pss_one (ps_ret (pe_tup (pa_cons (pe_joined (.cons (pe_fmt (pv 0)) (.cons pe_str (.cons (pe_fmt (pv 2)) (.cons pe_str .nil))))) (pa_cons (pe_callB call_len_seq (by rfl) T.n_len PySem.boot_len (pa_cons (pe_glob (v := .ref t_OPERATORS) rfl g_OPERATORS rfl) pa_nil)) pa_nil))))))
    pss_nil)
  (pss_cons (ps_set (i := 5) sc_p_shown.nd rfl (Or.inl rfl) (pe_bm PySem.F.plainAttrs_tuple PySem.F.slot_tuple_index PySem.F.type_tuple_index mt_tup_index (pe_glob (v := .ref t_OPERATORS) rfl g_OPERATORS rfl) (pa_cons (pv 0) pa_nil)))
  (pss_cons (ps_asg (pv 1) (pg_lst rfl (pgs_cons (pg_name (i := 6) sc_p_shown.nd rfl (Or.inl rfl)) (pgs_cons (pg_name (i := 7) sc_p_shown.nd rfl (Or.inl rfl)) pgs_nil))))
  (pss_one (ps_ret (pe_tup (pa_cons (pe_joined (.cons (pe_fmt (pe_fn D_p_closed (hr.mono (by decide)) rfl (pa_cons (pv 6) (pa_cons (pv 5) pa_nil)))) (.cons pe_str (.cons (pe_fmt (pv 0)) (.cons pe_str (.cons (pe_fmt (pe_fn D_p_closed (hr.mono (by decide)) rfl (pa_cons (pv 7) (pa_cons (pe_op op_add (pv 5) pe_int) pa_nil)))) .nil)))))) (pa_cons (pv 5) pa_nil)))))))), ?_⟩
    have sz : sizeLine = 16777216 := sizeLine_eq
    have h1 : ("(" : Str).length = 1 := rfl
    have h2 : (")" : Str).length = 1 := rfl
    have h3 : Str.empty.length = 0 := rfl
    have h4 : (", " : Str).length = 2 := rfl
    have h5 : (" " : Str).length = 1 := rfl
    obtain ⟨lw, lp, hp9, ey2⟩ := shown_fit ey
    have lu := hst.len
    refine ⟨_, rfl, t_OPERATORS, _, rfl, .inr (s_OPERATORS _), rfl, rfl, ?_⟩
    rw [inV_ops]
    unfold stpShow at ey2
    cases hlv : lvl wd with
    | none =>
      rw [hlv] at ey2
      cases ey2
      refine ⟨_, rfl, iteT ⟨⟨_, rfl⟩, _, rfl, l, rfl, ⟨_, SqL.of hl⟩, fun D hD => ?_⟩⟩
      refine lc_w (walk_list (K := K) (xs := us)) xs (fun p => some (.str p.1)) lu.symm (by omega) hD (fun H3 s3 => s3.seq (SqL.of hl)) ?_ ?_
      · rintro i p x H3 H' R hpi s3 ⟨rfl, hx⟩ hR
        obtain ⟨r, rfl, hr1, _⟩ := hst.at' hx hpi
        exact ⟨r, _, rfl, sqT_same s3 hr1, rfl, _, _, rfl, _, _, rfl, rfl, rfl, _, rfl, hR _ (Same.refl _)⟩
      · intro H3 s3 hD3
        rw [filterMap_some] at hD3
        have hsum : ((xs.map (·.1)).map (·.length)).sum ≤ 9000 * xs.length := by
          clear hD3 ey hst lu
          exact sum_9000 xs hp9
        refine ⟨", ", D, xs.map (·.1), rfl, rfl, .inl (SqL.of (by rw [List.map_map]; exact hD3)), ?_, ?_⟩
        · rw [List.length_map, h4]; omega
        have lj : (Txt.join ", " (xs.map (·.1))).length ≤ 18004 := by
          have := join_le ", " (xs.map (·.1))
          rw [List.length_map, h4] at this
          omega
        refine ⟨_, rfl, .inl ⟨wd, rfl, by omega, _, rfl, by rw [app_len]; omega, _, rfl, by rw [app_len, app_len]; omega, _, rfl, .inl ⟨_, rfl, by omega, _, rfl, by rw [app_len, app_len, app_len]; omega, _, rfl, by rw [app_len, app_len, app_len, app_len]; omega, ?_⟩⟩⟩
        refine ⟨t_OPERATORS, _, rfl, .inr (s_OPERATORS _), size_ok (by simp), fun u hu => ?_⟩
        generalize e_u : upd H3 u _ = H4
        have s_u := new_same e_u hu
        have h_u := new_at e_u
        exact k _ H4 (s3.trans s_u) ⟨u, rfl, .inl (.inl h_u), by show (shownCall wd xs).1.length ≤ 20000; unfold shownCall; rw [app_len, app_len, app_len, app_len]; omega⟩
    | some i =>
      rw [hlv] at ey2
      obtain ⟨hi, hat⟩ := lvl_at hlv
      refine ⟨_, rfl, iteF ?_⟩
      match xs, ey2, hst with
      | [a, b], ey2, hst =>
      have ey3 : y = shownOp i wd a b := (Option.some.inj ey2).symm
      subst ey3
      refine ⟨.inr (.inl ⟨rfl, kO _ g_OPERATORS⟩), _, rfl, t_OPERATORS, ops5, wd, i, rfl, rfl, s_OPERATORS _, hat, ?_, ?_⟩
      · intro m hm q
        exact absurd (ops5_inj hat q) (by omega)
      cases hst with
      | cons ra hst =>
      cases hst with
      | cons rb hst =>
      cases hst
      have la := hp9 a List.mem_cons_self
      have lb := hp9 b (List.mem_cons_of_mem _ List.mem_cons_self)
      have lca := closed_len a i
      have lcb := closed_len b (i + 1)
      refine ⟨_, rfl, l, _, rfl, SqL.of hl, rfl, _, _, rfl, _, _, rfl, rfl, ?_⟩
      refine ⟨_, rfl, _, rfl, _, a, i, rfl, ra, .inl ⟨_, rfl, by omega, _, rfl, by rw [app_len]; omega, _, rfl, by rw [app_len, app_len]; omega, _, rfl, .inl ⟨wd, rfl, by omega, _, rfl, by rw [app_len, app_len, app_len]; omega, _, rfl, by rw [app_len, app_len, app_len, app_len]; omega, ?_⟩⟩⟩
      refine ⟨_, rfl, _, rfl, (i : Int), 1, rfl, rfl, _, b, i + 1, rfl, rb, .inl ⟨_, rfl, by omega, _, rfl, by rw [app_len, app_len, app_len, app_len, app_len]; omega, ?_⟩⟩
      refine ⟨_, rfl, size_ok (by simp), fun u hu => ?_⟩
      generalize e_u : upd H u _ = H4
      have s_u := new_same e_u hu
      have h_u := new_at e_u
      exact k _ H4 s_u ⟨u, rfl, .inl (.inl h_u), by show (shownOp i wd a b).1.length ≤ 20000; unfold shownOp; rw [app_len, app_len, app_len, app_len, app_len]; omega⟩
theorem sc_show_expression : FnScope ["expression", "words", "names", "word", "text", "_"] ["expression"] (defScope s_show_expression) := ⟨rfl, rfl, rfl, by decide +kernel, rfl, by decide +kernel, by decide +kernel⟩
theorem ok_show_expression {f : Addr} {fd : FuncData} (F : Fun K "show_expression" "show_expression" s_show_expression f fd) (T : Txt K mg C_Reader C_BadRow)
    (D_is_name : Fn P w K mg base 1 "is_name" ["thing"] (spIs K mName))
    (D_words_of : Fn P w K mg base 1 "words_of" ["expression"] (spWords K))
    {fS : Addr} (gS : mg "_shown" = some (.ref fS)) (D_evaluated : Fn P w K mg base 3 "evaluated" ["words", "values", "step"] (spEval K (RP K) stpShowF fS))
    : FnOk P w K mg base CX0 (4) f fd ["expression"] (spShowE K) := by
  obtain ⟨t_OPERATORS, g_OPERATORS, s_OPERATORS⟩ := T.g_OPERATORS
  refine F.ok sc_show_expression (fun vs H Q E h => ?_) (fun cdv A outer s H vs Q E hr h => ?_)
  · obtain ⟨_, _, rfl, _⟩ := h; rfl
  · obtain ⟨v, e, rfl, hv, ho, hs, k⟩ := h
    have hu := hu_of hr
    have hu64 := hr.units
    refine ⟨_, (pss_cons (ps_set (i := 1) sc_show_expression.nd rfl (Or.inl rfl) (pe_fn D_words_of (hr.mono (by decide)) rfl (pa_cons (pv 0) pa_nil)))
  (pss_cons (ps_setDc (i := 2) (own := [("word", 3)]) (g := gName 3) rfl sc_show_expression.nd rfl rfl (sw_trueD rfl rfl rfl (by decide +kernel)) (pi_list (pv 1)) (blkOk_by (own := [("word", 3)]) (N := ["expression", "words", "names", "word", "text", "_"]) (sc := defScope s_show_expression) (by decide +kernel)) (fun _ _ _ _ _ => (pg_name (i := 3) sc_show_expression.nd rfl (Or.inl rfl))) (fun _ _ _ _ _ => (pts_one (pt_val (pe_fn D_is_name (hr.mono (by decide)) rfl (pa_cons (pv 3) pa_nil))))) (fun _ _ _ _ _ => (pv 3)) (fun _ _ _ _ _ => (pe_tup (pa_cons (pv 3) (pa_cons (pe_callB (call_len_seqQ (K := K) rfl) (by rfl) T.n_len PySem.boot_len (pa_cons (pe_glob (v := .ref t_OPERATORS) rfl g_OPERATORS rfl) pa_nil)) pa_nil)))))
  (pss_cons (ps_asg (pe_fn D_evaluated (hr.mono (by decide)) rfl (pa_cons (pv 1) (pa_cons (pv 2) (pa_cons (pe_glob (v := .ref fS) rfl gS rfl) pa_nil)))) (pg_tup rfl (pgs_cons (pg_name (i := 4) sc_show_expression.nd rfl (Or.inl rfl)) (pgs_cons (pg_name (i := 5) sc_show_expression.nd rfl (Or.inl rfl)) pgs_nil))))
  (pss_one (ps_ret (pv 4)))))), ?_⟩
    have sz : sizeLine = 16777216 := sizeLine_eq
    refine ⟨_, rfl, v, e, rfl, hv, by omega, fun p H1 s1 hp1 h1 => ?_⟩
    refine ⟨_, rfl, p, rfl, ⟨_, SqL.of h1⟩, fun D hD => ?_⟩
    refine dc_list (xs := e.words.map V.str) (fun i G => ∃ kvs, G D = some (.dK kvs) ∧ kvs.length ≤ i ∧ Same H1 G ∧ ∀ x y, x ∈ e.words.take i → envN x = some y → ∃ v, valV kvs (.inr x) = some v ∧ RP K G v y) ?_ ?_ ?_ ?_
    · exact ⟨[], upd_same, Nat.le_refl _, fun b o eb => (upd_ne (ne_of_none eb hD)).trans eb, fun x y hx => absurd hx (by simp)⟩
    · rintro i G hi ⟨kvs, hk0, hl, s, _⟩
      exact s.seq (SqL.of h1)
    · rintro i x G hx ⟨kvs, hk0, hl, s, hall⟩
      rw [List.getElem?_map] at hx
      obtain ⟨wd, ewd, rfl⟩ := Option.map_eq_some_iff.mp hx
      have hmem := List.mem_of_getElem? ewd
      have hi : i < e.words.length := (List.getElem?_eq_some_iff.mp ewd).1
      rw [Ex.words_len] at hi
      have etk : ∀ x, x ∈ e.words.take (i + 1) → x ∈ e.words.take i ∨ x = wd := by
        intro x hx
        rw [List.take_add_one, ewd] at hx
        rcases List.mem_append.mp hx with q | q
        · exact .inl q
        · exact .inr (by simpa using q)
      refine ⟨rfl, _, rfl, .str wd, .str wd, rfl, .of (.str _), Ex.words_sm ho wd hmem, fun G1 g1 => ⟨_, rfl, ?_⟩⟩
      show if nameOk wd = true then _ else _
      cases hn : nameOk wd with
      | false =>
        refine iteF ⟨kvs, g1 _ _ hk0, by omega, s.trans g1, fun x y hx hy => ?_⟩
        rcases etk x hx with q | rfl
        · obtain ⟨v, e1, e2⟩ := hall x y q hy
          exact ⟨v, e1, keeps_RP.same g1 e2⟩
        · unfold envN at hy
          rw [hn] at hy
          cases hy
      | true =>
        refine iteT ⟨_, rfl, _, rfl, t_OPERATORS, _, rfl, .inr (s_OPERATORS _), size_ok (by simp), fun u hu => ?_⟩
        have nuD : D ≠ u := ne_of_none (g1 _ _ hk0) hu
        generalize e_u : upd G1 u _ = G2
        have s_u := new_same e_u hu
        have h_u := new_at e_u
        have hkG := s_u _ _ (g1 _ _ hk0)
        refine ⟨kvs, .inr wd, rfl, hkG, by rw [sz]; omega, _, upd_same, ?_, fun b o eb => ?_, fun x y hx hy => ?_⟩
        · exact Nat.le_trans (putK_len _ _ _) (by omega)
        · exact (upd_ne (ne_of_none eb hD)).trans (s_u _ _ (g1 _ _ (s _ _ eb)))
        · have keepR : ∀ {v y}, RP K G2 v y → RP K (upd G2 D (.dK (putK kvs (.inr wd) (.ref u)))) v y := fun {v y} ⟨r, e1, h, lx⟩ => ⟨r, e1, sqT_put hkG h, lx⟩
          rw [valV_put]
          by_cases ex : x = wd
          · subst ex
            rw [if_pos rfl]
            unfold envN at hy
            rw [hn] at hy
            cases hy
            exact ⟨_, rfl, keepR ⟨u, rfl, .inl (.inl h_u), by have := name_len hn; show x.length ≤ 20000; omega⟩⟩
          · rw [if_neg (by intro z; exact ex (by injection z))]
            rcases etk x hx with q | q
            · obtain ⟨v, e1, e2⟩ := hall x y q hy
              exact ⟨v, e1, keepR (keeps_RP.same s_u (keeps_RP.same g1 e2))⟩
            · exact absurd q ex
    · rintro G ⟨kvs, hk0, hl, s, hall⟩
      rw [List.length_map, List.take_length] at hall
      refine ⟨_, rfl, _, rfl, p, D, e.words, kvs, (fun x => if x ∈ e.words then envN x else none), showE e, rfl, .inl (s.seq (SqL.of h1)), by rw [Ex.words_len]; omega, hk0, fun x y hxy => ?_, ?_, fun v2 H2 s2 r2 => ?_⟩
      · have hxy : (if x ∈ e.words then envN x else none) = some y := hxy
        by_cases q : x ∈ e.words
        · rw [if_pos q] at hxy
          exact hall x y q hxy
        · rw [if_neg q] at hxy
          cases hxy
      · have := ev_show (env := fun x => if x ∈ e.words then envN x else none) [] [] ho hs fun s hs hn => by
          rw [if_pos hs]
          unfold envN
          rw [if_pos hn]
        rw [List.append_nil, List.nil_append] at this
        rw [this]
        rfl
      · obtain ⟨r, rfl, hr1, _⟩ := r2
        exact ⟨r, _, rfl, hr1, rfl, _, _, rfl, _, _, rfl, rfl, _, rfl, k _ ((s1.trans s).trans s2)⟩
theorem sc_l_bag : FnScope ["_law_script", "_law_at", "_law_cell", "_law_far"] ["_law_script", "_law_at"] (defScope s_l_bag) := ⟨rfl, rfl, rfl, by decide +kernel, rfl, by decide +kernel, by decide +kernel⟩
theorem ok_l_bag {f : Addr} {fd : FuncData} (F : Fun K "_law_bag" "_law_bag" s_l_bag f fd) (T : Txt K mg C_Reader C_BadRow)
    : FnOk P w K mg base CX0 (1) f fd ["_law_script", "_law_at"] (spBag K) := by
  refine F.ok sc_l_bag (fun vs H Q E h => ?_) (fun cdv A outer s H vs Q E hr h => ?_)
  · obtain ⟨p, ns, i, rfl, _⟩ := h; rfl
  · obtain ⟨p, ns, i, rfl, hS, hi, k⟩ := h
    have hu := hu_of hr
    have hu64 := hr.units
    refine ⟨_, (pss_cons (ps_set (i := 2) sc_l_bag.nd rfl (Or.inl rfl) (pe_ifExp (pt_cmpR op_lt (pv 1) (pe_callB call_len_seq (by rfl) T.n_len PySem.boot_len (pa_cons (pv 0) pa_nil)) (nomark _)) (pe_ix ix_list (pv 0) (pv 1) (fun _ _ => rfl)) pe_int))
  (pss_cons (ps_set (i := 3) sc_l_bag.nd rfl (Or.inl rfl) (pe_ifExp (pt_cmpR op_ge (pe_callB call_abs (by rfl) T.n_abs (by decide +kernel) (pa_cons (pv 2) pa_nil)) (pe_op op_pow pe_int pe_int) (nomark _)) (pe_callB call_abs (by rfl) T.n_abs (by decide +kernel) (pa_cons (pv 2) pa_nil)) pe_int))
  (pss_one (ps_ret (pe_lst (pa_cons (pv 3) (pa_cons (pe_op op_modN (pe_op op_mul (pe_op op_add (pe_op op_add (pe_op op_modN (pv 2) pe_int) (pe_op op_mul pe_int (pv 1))) pe_int) pe_int) pe_int) (pa_cons pe_int pa_nil)))))))), ?_⟩
    have go : ∀ (c far : Int), ∀ a, H a = none → Q (.ref a) (upd H a (.lst [.int far, .int ((((c.fmod 2305843009213693951) + 7919 * (i : Int) + 31) * 48271).fmod 2305843009213693951), .int 0])) := by
      intro c far a ha
      refine k a _ ha ⟨_, _, _, upd_same, ?_, ?_, Int.le_refl _, Int.le_refl _⟩
      · rw [Int.fmod_eq_emod_of_nonneg _ (by decide)]; exact Int.emod_nonneg _ (by decide)
      · rw [Int.fmod_eq_emod_of_nonneg _ (by decide)]; exact Int.emod_lt_of_pos _ (by decide)
    refine ⟨_, rfl, _, rfl, _, _, rfl, Or.inl hS, _, _, rfl, rfl, _, rfl, ?_⟩
    rw [List.length_map]
    refine ite2 (fun c => ?_) (fun c => ?_)
    · have hlt : i < ns.length := by simpa using c
      refine ⟨_, rfl, _, rfl, _, _, _, .int (ns[i]), rfl, rfl, hS, at_of rfl (by simp [hlt]), ?_⟩
      refine ⟨_, rfl, _, rfl, _, _, rfl, rfl, ⟨by decide, by decide, by decide⟩, _, _, rfl, rfl, _, rfl, ?_⟩
      refine ite2 (fun c => ?_) (fun c => ?_)
      · refine ⟨_, rfl, _, rfl, ?_⟩
        refine ⟨_, rfl, _, rfl, _, _, rfl, rfl, (by omega), _, rfl, _, _, rfl, rfl, Or.inl ⟨by decide, by decide⟩, _, _, rfl, rfl, _, _, rfl, rfl, _, _, rfl, rfl, Or.inr ⟨by decide, by decide⟩, _, _, rfl, rfl, (by omega), size_ok (by simp), fun a ha => go _ _ a ha⟩
      · refine ⟨_, rfl, _, rfl, _, _, rfl, rfl, (by omega), _, rfl, _, _, rfl, rfl, Or.inl ⟨by decide, by decide⟩, _, _, rfl, rfl, _, _, rfl, rfl, _, _, rfl, rfl, Or.inr ⟨by decide, by decide⟩, _, _, rfl, rfl, (by omega), size_ok (by simp), fun a ha => go _ _ a ha⟩
    · refine ⟨_, rfl, _, rfl, _, _, rfl, rfl, ⟨by decide, by decide, by decide⟩, _, _, rfl, rfl, _, rfl, ?_⟩
      refine ite2 (fun c => ?_) (fun c => ?_)
      · refine ⟨_, rfl, _, rfl, ?_⟩
        refine ⟨_, rfl, _, rfl, _, _, rfl, rfl, (by omega), _, rfl, _, _, rfl, rfl, Or.inl ⟨by decide, by decide⟩, _, _, rfl, rfl, _, _, rfl, rfl, _, _, rfl, rfl, Or.inr ⟨by decide, by decide⟩, _, _, rfl, rfl, (by omega), size_ok (by simp), fun a ha => go _ _ a ha⟩
      · refine ⟨_, rfl, _, rfl, _, _, rfl, rfl, (by omega), _, rfl, _, _, rfl, rfl, Or.inl ⟨by decide, by decide⟩, _, _, rfl, rfl, _, _, rfl, rfl, _, _, rfl, rfl, Or.inr ⟨by decide, by decide⟩, _, _, rfl, rfl, (by omega), size_ok (by simp), fun a ha => go _ _ a ha⟩
theorem sc_l_take : FnScope ["_law_bag_here", "_law_many", "_law_digit", "_law_mixed"] ["_law_bag_here", "_law_many"] (defScope s_l_take) := ⟨rfl, rfl, rfl, by decide +kernel, rfl, by decide +kernel, by decide +kernel⟩
theorem ok_l_take {f : Addr} {fd : FuncData} (F : Fun K "_law_take" "_law_take" s_l_take f fd) (T : Txt K mg C_Reader C_BadRow)
    : FnOk P w K mg base CX0 (1) f fd ["_law_bag_here", "_law_many"] spTake := by
  refine F.ok sc_l_take (fun vs H Q E h => ?_) (fun cdv A outer s H vs Q E hr h => ?_)
  · obtain ⟨a, m, n, rfl, _⟩ := h; rfl
  · obtain ⟨a, m, n, rfl, ⟨x, y, z, hb, y0, y1, z0, z1⟩, hn, m0, m1, k⟩ := h
    have hu := hu_of hr
    have hu64 := hr.units
    refine ⟨_, (pss_cons (ps_if (pt_cmpR op_gt (pe_ix ix_list (pv 0) pe_int (fun _ _ => rfl)) pe_int (nomark _))
    (pss_cons (ps_set (i := 2) sc_l_take.nd rfl (Or.inl rfl) (pe_op op_modN (pe_ix ix_list (pv 0) pe_int (fun _ _ => rfl)) (pv 1)))
      (pss_cons (ps_asg (pe_op op_fdivN (pe_ix ix_list (pv 0) pe_int (fun _ _ => rfl)) (pv 1)) (pg_sub (pv 0) pe_int set_list))
      (pss_one (ps_ret (pv 2)))))
    pss_nil)
  (pss_cons (ps_asg (pe_op op_add (pe_ix ix_list (pv 0) pe_int (fun _ _ => rfl)) pe_int) (pg_sub (pv 0) pe_int set_list))
  (pss_cons (ps_set (i := 3) sc_l_take.nd rfl (Or.inl rfl) (pe_op op_modN (pe_op op_pow (pe_op op_add (pe_ix ix_list (pv 0) pe_int (fun _ _ => rfl)) (pe_op op_mul pe_int (pe_ix ix_list (pv 0) pe_int (fun _ _ => rfl)))) pe_int) pe_int))
  (pss_cons (ps_set (i := 3) sc_l_take.nd rfl (Or.inl rfl) (pe_op op_modN (pe_op op_pow (pe_op op_add (pv 3) (pe_op op_mul pe_int (pe_ix ix_list (pv 0) pe_int (fun _ _ => rfl)))) pe_int) pe_int))
  (pss_one (ps_ret (pe_op op_modN (pe_op op_fdivN (pv 3) pe_int) (pv 1)))))))), ?_⟩
    refine ⟨_, rfl, _, _, _, _, rfl, rfl, SqL.of hb, rfl, _, _, rfl, rfl, _, rfl, ite2 (fun c => ?_) (fun c => ?_)⟩
    · refine ⟨_, rfl, _, _, _, _, rfl, rfl, SqL.of hb, rfl, _, rfl, _, _, rfl, rfl, (by omega), ?_⟩
      refine ⟨_, rfl, _, _, _, _, rfl, rfl, SqL.of hb, rfl, _, rfl, _, _, rfl, rfl, ⟨by omega, by omega⟩, _, rfl, _, _, _, _, rfl, rfl, hb, rfl, ?_⟩
      refine ⟨_, rfl, ?_⟩
      refine k _ _ ?_ ?_ But.upd ⟨_, y, z, upd_same, y0, y1, z0, by omega⟩
      · rw [Int.fmod_eq_emod_of_nonneg _ (by omega)]; exact Int.emod_nonneg _ (by omega)
      · rw [Int.fmod_eq_emod_of_nonneg _ (by omega)]; exact Int.emod_lt_of_pos _ (by omega)
    · refine ⟨_, rfl, _, _, _, _, rfl, rfl, SqL.of hb, rfl, _, _, rfl, rfl, _, rfl, _, _, _, _, rfl, rfl, hb, rfl, ?_⟩
      have hb2 := upd_same (H := H) (a := a) (o := .lst [.int x, .int y, .int (z + 1)])
      refine ⟨_, rfl, _, _, _, _, rfl, rfl, SqL.of hb2, rfl, _, rfl, _, _, _, _, rfl, rfl, SqL.of hb2, rfl, _, _, rfl, rfl, Or.inl ⟨by omega, by omega⟩, _, _, rfl, rfl, _, _, rfl, rfl, ⟨by decide, by decide, by omega⟩, _, _, rfl, rfl, (by omega), ?_⟩
      dsimp only
      generalize hg : Int.fmod _ 2305843009213693921 = mx
      have b1 : 0 ≤ mx ∧ mx < 2305843009213693921 := by
        rw [← hg, Int.fmod_eq_emod_of_nonneg _ (by decide)]
        exact ⟨Int.emod_nonneg _ (by decide), Int.emod_lt_of_pos _ (by decide)⟩
      refine ⟨_, rfl, _, rfl, _, _, _, _, rfl, rfl, SqL.of hb2, rfl, _, _, rfl, rfl, Or.inl ⟨by omega, by omega⟩, _, _, rfl, rfl, _, _, rfl, rfl, ⟨by decide, by decide, by omega⟩, _, _, rfl, rfl, (by omega), ?_⟩
      dsimp only
      generalize hg2 : Int.fmod _ 2305843009213693951 = my
      refine ⟨_, rfl, _, _, rfl, rfl, ⟨by decide, by decide⟩, _, rfl, _, _, rfl, rfl, (by omega), ?_⟩
      refine k _ _ ?_ ?_ But.upd ⟨x, y, z + 1, upd_same, y0, y1, by omega, by omega⟩
      · rw [Int.fmod_eq_emod_of_nonneg _ (by omega)]; exact Int.emod_nonneg _ (by omega)
      · rw [Int.fmod_eq_emod_of_nonneg _ (by omega)]; exact Int.emod_lt_of_pos _ (by omega)
theorem sc_l_drawn : FnScope ["_law_bag_here", "_law_deep", "_law_word"] ["_law_bag_here", "_law_deep"] (defScope s_l_drawn) := ⟨rfl, rfl, rfl, by decide +kernel, rfl, by decide +kernel, by decide +kernel⟩
theorem ok_l_drawn {f : Addr} {fd : FuncData} (F : Fun K "_law_drawn" "_law_drawn" s_l_drawn f fd) (T : Txt K mg C_Reader C_BadRow)
    (D_l_take : Fn P w K mg base 1 "_law_take" ["_law_bag_here", "_law_many"] spTake)
    {k0 j : Nat} {spS : Sp} (hS : ∀ m, j = m + 1 → spS = spDrawn K m) (D_l_drawn : Fn P w K mg base (k0 + 1) "_law_drawn" ["_law_bag_here", "_law_deep"] spS)
    : FnOk P w K mg base CX0 (k0 + 2) f fd ["_law_bag_here", "_law_deep"] (spDrawn K j) := by
  refine F.ok sc_l_drawn (fun vs H Q E h => ?_) (fun cdv A outer s H vs Q E hr h => ?_)
  · obtain ⟨_, _, rfl, _⟩ := h; rfl
  · obtain ⟨a, n, rfl, hb, hn, k⟩ := h
    have hu := hu_of hr
    have hu64 := hr.units
    refine ⟨_, (pss_cons (ps_if (PW.pt (pw_or (pt_cmpR op_eq (pv 1) pe_int (nomark _)) (pw_or1 (pt_cmpR op_eq (pe_fn D_l_take (hr.mono (by omega)) rfl (pa_cons (pv 0) (pa_cons pe_int pa_nil))) pe_int (nomark _)))))
    (pss_one (ps_ret (pe_ix ix_list (pe_lst (pa_cons pe_str (pa_cons pe_str (pa_cons pe_str (pa_cons pe_str (pa_cons pe_str pa_nil)))))) (pe_fn D_l_take (hr.mono (by omega)) rfl (pa_cons (pv 0) (pa_cons pe_int pa_nil))) (fun _ _ => rfl))))
    pss_nil)
  (pss_cons (ps_set (i := 2) sc_l_drawn.nd rfl (Or.inl rfl) (pe_ix ix_list (pe_lst (pa_cons pe_str (pa_cons pe_str (pa_cons pe_str (pa_cons pe_str (pa_cons pe_str (pa_cons pe_str (pa_cons pe_str (pa_cons pe_str (pa_cons pe_str (pa_cons pe_str pa_nil))))))))))) (pe_fn D_l_take (hr.mono (by omega)) rfl (pa_cons (pv 0) (pa_cons pe_int pa_nil))) (fun _ _ => rfl)))
  (pss_cons (ps_if (pt_cmpR op_eq (pv 2) pe_str (nomark _))
    (pss_one (ps_ret (pe_tup (pa_cons (pv 2) (pa_cons (pe_fn D_l_drawn (hr.mono (by omega)) rfl (pa_cons (pv 0) (pa_cons (pe_op op_sub (pv 1) pe_int) pa_nil))) pa_nil)))))
    pss_nil)
  (pss_one (ps_ret (pe_tup (pa_cons (pv 2) (pa_cons (pe_fn D_l_drawn (hr.mono (by omega)) rfl (pa_cons (pv 0) (pa_cons (pe_op op_sub (pv 1) pe_int) pa_nil))) (pa_cons (pe_fn D_l_drawn (hr.mono (by omega)) rfl (pa_cons (pv 0) (pa_cons (pe_op op_sub (pv 1) pe_int) pa_nil))) pa_nil))))))))), ?_⟩
    have leaf : ∀ (G : Hp) (m : Nat), Bag G a m → m ≤ n + 1 → Ext a H G → (tOp (rIxL K) (tLst (tCons (tC (V.str "a")) (tCons (tC (V.str "b")) (tCons (tC (V.str "key")) (tCons (tC (V.str "zzzz")) (tCons (tC (V.str "lo")) tNil)))))) (tCall spTake [] E0 (tCons (tVar 0) (tCons (tC (V.int 5)) tNil)))) [some (.ref a), some (.int (j : Int)), none] G Q := by
      intro G m bg hm ex
      have d2 : 2 ≤ drawsE j := by cases j with | zero => exact Nat.le_refl _ | succ j => show 2 ≤ 3 + 2 * drawsE j; omega
      refine ⟨size_ok (by simp), fun p hp => ?_⟩
      generalize e_p : upd G p _ = G1
      have s_p := new_same e_p hp
      have h_p := new_at e_p
      have npa := bg.ne hp
      refine ⟨_, rfl, a, 5, m, rfl, bg.same s_p, by omega, by decide, by decide, fun u G2 u0 u1 bt bag2 => ?_⟩
      obtain ⟨x, hx1, hx2⟩ := at_map (xs := (["a", "b", "key", "zzzz", "lo"] : List Str)) (f := V.str) u0 (by simpa using u1)
      refine ⟨p, _, u, _, rfl, rfl, SqL.of ((bt p npa).trans h_p), hx1, k (.str x) (.nm x) G2 (m + 1) (.str x) ?_ (by omega) bag2 fun b o nb eb => (bt b nb).trans (s_p _ _ (ex b o nb eb))⟩
      cases j <;> exact hx2
    refine ⟨_, rfl, rfl, _, rfl, ?_⟩
    cases j with
    | zero => exact iteT (iteT (leaf H n hb (by omega) fun _ _ _ e => e))
    | succ j =>
    rw [decide_eq_false (show ¬ V.int ((j + 1 : Nat) : Int) = V.int 0 from fun q => by injection q with q; omega)]
    have dE : drawsE (j + 1) = 3 + 2 * drawsE j := rfl
    have ej : ((j + 1 : Nat) : Int) - 1 = (j : Int) := by omega
    obtain rfl := hS j rfl
    refine iteF ⟨_, rfl, a, 6, n, rfl, hb, by omega, by decide, by decide, fun q H1 q0 q1 bt1 bag1 => ⟨rfl, _, rfl, ?_⟩⟩
    by_cases e0 : q = 0
    · rw [decide_eq_true (show V.int q = V.int 0 from congrArg V.int e0)]
      exact iteT (leaf H1 (n + 1) bag1 (Nat.le_refl _) bt1.ext)
    rw [decide_eq_false (show ¬ V.int q = V.int 0 from fun z => e0 (by injection z))]
    refine iteF ?_
    refine ⟨size_ok (by simp), fun p hp => ?_⟩
    generalize e_p : upd H1 p _ = H2
    have s_p := new_same e_p hp
    have h_p := new_at e_p
    have npa := bag1.ne hp
    refine ⟨_, rfl, a, 10, n + 1, rfl, bag1.same s_p, by omega, by decide, by decide, fun u H3 u0 u1 bt3 bag3 => ?_⟩
    obtain ⟨x, hx1, hx2⟩ := at_map (xs := (["|", "^", "&", "-", "@", "|", "-", "@", "keys", "look"] : List Str)) (f := V.str) u0 (by simpa using u1)
    have ex3 : Ext a H H3 := fun b o nb eb => (bt3 b nb).trans (s_p _ _ ((bt1 b nb).trans eb))
    refine ⟨p, _, u, _, rfl, rfl, SqL.of ((bt3 p npa).trans h_p), hx1, ?_⟩
    refine ⟨_, rfl, rfl, _, rfl, ?_⟩
    by_cases ek : x = "keys"
    · subst ek
      refine iteT ⟨_, rfl, _, rfl, _, rfl, (j + 1 : Nat), 1, rfl, rfl, a, n + 1 + 1, ?_, bag3, by omega, fun v e H4 n4 hv hin hn4 bag4 ex4 => ?_⟩
      · show [V.ref a, V.int (((j + 1 : Nat) : Int) - 1)] ++ [] = [V.ref a, V.int (j : Int)]
        rw [ej]; rfl
      refine ⟨size_ok (by simp), fun u hu => ?_⟩
      generalize e_u : upd H4 u _ = H5
      have s_u := new_same e_u hu
      have h_u := new_at e_u
      exact k (.ref u) (.keys e) H5 n4 (.tup (.of h_u) (.cons (.str _) (.cons (dp_same s_u _ _ hv) .nil))) hin (by omega) (bag4.same s_u) fun b o nb eb => s_u _ _ (ex4 b o nb (ex3 b o nb eb))
    · rw [decide_eq_false (show ¬ V.str x = V.str "keys" from fun z => ek (by injection z))]
      refine iteF ⟨_, rfl, _, rfl, _, rfl, (j + 1 : Nat), 1, rfl, rfl, a, n + 1 + 1, ?_, bag3, by omega, fun v e H4 n4 hv hin hn4 bag4 ex4 => ?_⟩
      · show [V.ref a, V.int (((j + 1 : Nat) : Int) - 1)] ++ [] = [V.ref a, V.int (j : Int)]
        rw [ej]; rfl
      refine ⟨_, rfl, _, rfl, (j + 1 : Nat), 1, rfl, rfl, a, n4, ?_, bag4, by omega, fun v2 e2 H5 n5 hv2 hin2 hn5 bag5 ex5 => ?_⟩
      · show [V.ref a, V.int (((j + 1 : Nat) : Int) - 1)] ++ [] = [V.ref a, V.int (j : Int)]
        rw [ej]; rfl
      refine ⟨size_ok (by simp), fun u hu => ?_⟩
      generalize e_u : upd H5 u _ = H6
      have s_u := new_same e_u hu
      have h_u := new_at e_u
      have hv5 := extT_de (bag4.extT ex5) hv
      have hw : x ∈ ops5 ∨ x = "look" := by
        simp only [List.mem_cons, List.not_mem_nil, or_false] at hx2
        rcases hx2 with rfl | rfl | rfl | rfl | rfl | rfl | rfl | rfl | rfl | rfl
        all_goals first | exact .inl (by decide) | exact absurd rfl ek | exact .inr rfl
      exact k (.ref u) (.bin x e e2) H6 n5 (.tup (.of h_u) (.cons (.str _) (.cons (dp_same s_u _ _ hv5) (.cons (dp_same s_u _ _ hv2) .nil)))) ⟨hw, hin, hin2⟩ (by omega) (bag5.same s_u) fun b o nb eb => s_u _ _ (ex5 b o nb (ex4 b o nb (ex3 b o nb eb)))
theorem sc_l_level : FnScope ["_law_expression"] ["_law_expression"] (defScope s_l_level) := ⟨rfl, rfl, rfl, by decide +kernel, rfl, by decide +kernel, by decide +kernel⟩
theorem ok_l_level {f : Addr} {fd : FuncData} (F : Fun K "_law_level" "_law_level" s_l_level f fd) (T : Txt K mg C_Reader C_BadRow)
    : FnOk P w K mg base CX0 (1) f fd ["_law_expression"] (spLevL K) := by
  refine F.ok sc_l_level (fun vs H Q E h => ?_) (fun cdv A outer s H vs Q E hr h => ?_)
  · obtain ⟨_, _, rfl, _⟩ := h; rfl
  · obtain ⟨v, e, rfl, hv, ho, k⟩ := h
    have hu := hu_of hr
    have hu64 := hr.units
    refine ⟨_, (pss_cons (ps_if (PW.pt (pw_or (pt_val (pe_callB call_isi (by rfl) T.n_isinstance (by decide +kernel) (pa_cons (pv 0) (pa_cons (pe_bltn (v := .ty "str") (u := .type "str") (by rfl) T.n_str (by decide +kernel) rfl) pa_nil)))) (pw_or1 (pt_cmpR op_in_seq (pe_ix ix_tup (pv 0) pe_int (fun _ _ => rfl)) (pe_lst (pa_cons pe_str (pa_cons pe_str pa_nil))) (by rfl)))))
    (pss_one (ps_ret pe_int))
    pss_nil)
  (pss_one (ps_ret (pe_bm PySem.F.plainAttrs_list PySem.F.slot_list_index PySem.F.type_list_index mt_index (pe_lst (pa_cons pe_str (pa_cons pe_str (pa_cons pe_str (pa_cons pe_str (pa_cons pe_str pa_nil)))))) (pa_cons (pe_ix ix_tup (pv 0) pe_int (fun _ _ => rfl)) pa_nil))))), ?_⟩
    refine rd_isi rfl (.of hv) (by simp) ⟨_, rfl, ?_⟩
    rw [isD_str]
    cases e with
    | nm s =>
      cases hv
      exact iteT (iteT (k H (Same.refl H)))
    | keys a =>
      cases hv with
      | tup hsq hall =>
      cases hall with
      | cons hx hall =>
      cases hx
      cases hall with
      | cons hy hall =>
      cases hall
      refine iteF ⟨_, rfl, _, _, 0, .str "keys", rfl, rfl, hsq, rfl, size_ok (by simp), fun p hp => ?_⟩
      generalize e_p : upd H p _ = H1
      have s_p := new_same e_p hp
      have h_p := new_at e_p
      refine ⟨p, _, rfl, .inl (SqL.of h_p), rfl, rfl, _, rfl, ?_⟩
      exact iteT (k H1 s_p)
    | bin x a b =>
      cases hv with
      | tup hsq hall =>
      cases hall with
      | cons hx hall =>
      cases hx
      cases hall with
      | cons hy hall =>
      cases hall with
      | cons hz hall =>
      cases hall
      refine iteF ⟨_, rfl, _, _, 0, .str x, rfl, rfl, hsq, rfl, size_ok (by simp), fun p hp => ?_⟩
      generalize e_p : upd H p _ = H1
      have s_p := new_same e_p hp
      have h_p := new_at e_p
      refine ⟨p, _, rfl, .inl (SqL.of h_p), rfl, rfl, _, rfl, ?_⟩
      rcases ho.1 with hx | rfl
      · obtain ⟨i, hi⟩ := Option.isSome_iff_exists.mp (show (lvl x).isSome = true by
          have : ∀ w ∈ ops5, (lvl w).isSome = true := by decide
          exact this x hx)
        obtain ⟨i5, hat⟩ := lvl_at hi
        have hk : levE (.bin x a b) = i := by show (lvl x).getD 5 = i; rw [hi]; rfl
        rw [hk] at k
        have hno : inV (V.str x) [V.str "keys", .str "look"] = false := by
          have : ∀ w ∈ ops5, inV (V.str w) [V.str "keys", .str "look"] = false := by decide
          exact this x hx
        show if inV (V.str x) [V.str "keys", .str "look"] = true then _ else _
        rw [hno]
        refine iteF ⟨size_ok (by simp), fun q hq => ?_⟩
        generalize e_q : upd H1 q _ = H2
        have s_q := new_same e_q hq
        have h_q := new_at e_q
        refine ⟨.inl ⟨rfl, _, SqL.of h_q⟩, _, rfl, _, _, 0, .str x, rfl, rfl, sqT_same (s_p.trans s_q) hsq, rfl, ?_⟩
        have hz : ([V.str "|", .str "^", .str "&", .str "-", .str "@"] : List V)[i]? = some (.str x) := by
          show (ops5.map V.str)[i]? = _
          rw [List.getElem?_map, hat]; rfl
        refine ⟨q, _, .str x, i, .str x, rfl, rfl, SqL.of h_q, rfl, rfl, hz, ?_, ?_, k H2 (s_p.trans s_q)⟩
        · show (x == x) = true
          exact beq_self_eq_true x
        · intro m z hm hz2
          have hz3 : (ops5.map V.str)[m]? = some z := hz2
          rw [List.getElem?_map] at hz3
          obtain ⟨y, hy, rfl⟩ := Option.map_eq_some_iff.mp hz3
          show (y == x) = false
          refine beq_eq_false_iff_ne.mpr fun q => ?_
          subst q
          exact absurd (ops5_inj hat hy) (by omega)
      · exact iteT (k H1 s_p)
theorem sc_l_tokens : FnScope ["_law_bag_here", "_law_expression", "_law_way", "_law_first", "_law_second", "_law_level_here"] ["_law_bag_here", "_law_expression", "_law_way"] (defScope s_l_tokens) := ⟨rfl, rfl, rfl, by decide +kernel, rfl, by decide +kernel, by decide +kernel⟩
theorem ok_l_tokens {f : Addr} {fd : FuncData} (F : Fun K "_law_tokens" "_law_tokens" s_l_tokens f fd) (T : Txt K mg C_Reader C_BadRow)
    (D_l_take : Fn P w K mg base 1 "_law_take" ["_law_bag_here", "_law_many"] spTake)
    (D_l_level : Fn P w K mg base 1 "_law_level" ["_law_expression"] (spLevL K))
    {k0 j : Nat} {spS : Sp} (hS : ∀ m, j = m + 1 → spS = spToks K m) (D_l_tokens : Fn P w K mg base (k0 + 1) "_law_tokens" ["_law_bag_here", "_law_expression", "_law_way"] spS)
    : FnOk P w K mg base CX0 (k0 + 2) f fd ["_law_bag_here", "_law_expression", "_law_way"] (spToks K j) := by
  refine F.ok sc_l_tokens (fun vs H Q E h => ?_) (fun cdv A outer s H vs Q E hr h => ?_)
  · obtain ⟨_, _, _, _, _, rfl, _⟩ := h; rfl
  · obtain ⟨a, v, way, n, e, rfl, hb, hn, hw, hj, hv, hin, k⟩ := h
    have hu := hu_of hr
    have hu64 := hr.units
    refine ⟨_, (pss_cons (ps_if (pt_val (pe_callB call_isi (by rfl) T.n_isinstance (by decide +kernel) (pa_cons (pv 1) (pa_cons (pe_bltn (v := .ty "str") (u := .type "str") (by rfl) T.n_str (by decide +kernel) rfl) pa_nil))))
    (pss_one (ps_ret (pe_lst (pa_cons (pv 1) pa_nil))))
    pss_nil)
  (pss_cons (ps_set (i := 3) sc_l_tokens.nd rfl (Or.inl rfl) (pe_fn D_l_tokens (hr.mono (by omega)) rfl (pa_cons (pv 0) (pa_cons (pe_ix ix_tup (pv 1) pe_int (fun _ _ => rfl)) (pa_cons (pv 2) pa_nil)))))
  (pss_cons (ps_if (pt_cmpR op_eq (pe_ix ix_tup (pv 1) pe_int (fun _ _ => rfl)) pe_str (nomark _))
    (pss_one (ps_ret (pe_op op_cat (pe_op op_cat (pe_lst (pa_cons pe_str (pa_cons pe_str pa_nil))) (pv 3)) (pe_lst (pa_cons pe_str pa_nil)))))
    pss_nil)
  (pss_cons (ps_set (i := 4) sc_l_tokens.nd rfl (Or.inl rfl) (pe_fn D_l_tokens (hr.mono (by omega)) rfl (pa_cons (pv 0) (pa_cons (pe_ix ix_tup (pv 1) pe_int (fun _ _ => rfl)) (pa_cons (pv 2) pa_nil)))))
  (pss_cons (ps_if (pt_cmpR op_eq (pe_ix ix_tup (pv 1) pe_int (fun _ _ => rfl)) pe_str (nomark _))
    (pss_one (ps_ret (pe_op op_cat (pe_op op_cat (pe_op op_cat (pe_op op_cat (pe_lst (pa_cons pe_str (pa_cons pe_str pa_nil))) (pv 3)) (pe_lst (pa_cons pe_str pa_nil))) (pv 4)) (pe_lst (pa_cons pe_str pa_nil)))))
    pss_nil)
  (pss_cons (ps_set (i := 5) sc_l_tokens.nd rfl (Or.inl rfl) (pe_fn D_l_level (hr.mono (by omega)) rfl (pa_cons (pv 1) pa_nil)))
  (pss_cons (ps_if (PW.pt (pw_or (pt_cmpR op_lt (pe_fn D_l_level (hr.mono (by omega)) rfl (pa_cons (pe_ix ix_tup (pv 1) pe_int (fun _ _ => rfl)) pa_nil)) (pv 5) (nomark _)) (pw_or1 (PW.pt (pw_and (pt_cmpR op_gt (pv 2) pe_int (nomark _)) (pw_and1 (pt_cmpR op_lt (pe_fn D_l_take (hr.mono (by omega)) rfl (pa_cons (pv 0) (pa_cons pe_int pa_nil))) (pv 2) (nomark _))))))))
    (pss_one (ps_set (i := 3) sc_l_tokens.nd rfl (Or.inl rfl) (pe_op op_cat (pe_op op_cat (pe_lst (pa_cons pe_str pa_nil)) (pv 3)) (pe_lst (pa_cons pe_str pa_nil)))))
    pss_nil)
  (pss_cons (ps_if (PW.pt (pw_or (pt_cmpR op_le (pe_fn D_l_level (hr.mono (by omega)) rfl (pa_cons (pe_ix ix_tup (pv 1) pe_int (fun _ _ => rfl)) pa_nil)) (pv 5) (nomark _)) (pw_or1 (PW.pt (pw_and (pt_cmpR op_gt (pv 2) pe_int (nomark _)) (pw_and1 (pt_cmpR op_lt (pe_fn D_l_take (hr.mono (by omega)) rfl (pa_cons (pv 0) (pa_cons pe_int pa_nil))) (pv 2) (nomark _))))))))
    (pss_one (ps_set (i := 4) sc_l_tokens.nd rfl (Or.inl rfl) (pe_op op_cat (pe_op op_cat (pe_lst (pa_cons pe_str pa_nil)) (pv 4)) (pe_lst (pa_cons pe_str pa_nil)))))
    pss_nil)
  (pss_one (ps_ret (pe_op op_cat (pe_op op_cat (pv 3) (pe_lst (pa_cons (pe_ix ix_tup (pv 1) pe_int (fun _ _ => rfl)) pa_nil))) (pv 4)))))))))))), ?_⟩
    have sz : sizeLine = 16777216 := sizeLine_eq
    refine rd_isi rfl (.of hv) (by simp) ⟨_, rfl, ?_⟩
    rw [isD_str]
    have hok := hin.ok
    cases e with
    | nm s =>
      cases hv
      refine iteT ⟨_, rfl, size_ok (by simp), fun p hp => ?_⟩
      generalize e_p : upd H p _ = H1
      have s_p := new_same e_p hp
      have h_p := new_at e_p
      exact k p [s] 0 H1 n hp h_p (.nm hok) (fun _ => rfl) (by show 1 ≤ 5 * 1; decide) (by omega) (hb.same s_p) (Ext.of s_p)
    | keys e1 =>
      cases j with
      | zero => exact hin.elim
      | succ j =>
      obtain rfl := hS j rfl
      have hin1 : Ex.In j e1 := hin
      have sz1 := hin1.size
      have szB4 : szB (j + 1) = 2 * szB j + 1 := rfl
      have sz31 : szB j ≤ 15 := by
        have : j = 0 ∨ j = 1 ∨ j = 2 ∨ j = 3 := by omega
        rcases this with rfl | rfl | rfl | rfl <;> decide
      cases hv with
      | tup hsq hall =>
      cases hall with
      | cons hx hall =>
      cases hx
      cases hall with
      | cons hy hall =>
      cases hall
      refine iteF ⟨_, rfl, _, rfl, _, _, 1, _, rfl, rfl, hsq, rfl, _, rfl, ?_⟩
      refine ⟨a, _, way, n, e1, rfl, hb, by omega, hw, by omega, hy, hin1, fun q ts d H1 n1 hq hq1 hd h0 hlen hn1 bag1 ex1 => ?_⟩
      have hsq1 := sqT_extT (hb.extT ex1) hsq
      refine ⟨_, rfl, _, _, 0, _, rfl, rfl, hsq1, rfl, rfl, _, rfl, ?_⟩
      refine iteT (ln_cat (ln_cat (ln_two "keys" "(").lt (lt_var rfl hq1) (by simp; omega)).lt (ln_one ")").lt (by simp; omega) H1 _ (Same.refl H1) fun p4 H5 s15 hp4 h_p4 => ?_)
      have ex5 : Ext a H H5 := fun b o nb eb => s15 _ _ (ex1 b o nb eb)
      refine k p4 (kW :: oP :: (ts ++ [cP])) (d + 1) H5 n1 (fresh_ext ex1 bag1 hp4) h_p4 (.keys (hd.low (Nat.zero_le _))) (fun z => ?_) ?_ (by omega) (bag1.same s15) ex5
      · rw [h0 z]; rfl
      · show (ts ++ [cP]).length + 1 + 1 ≤ 5 * (e1.size + 1)
        rw [List.length_append]
        show ts.length + 1 + 1 + 1 ≤ _
        omega
    | bin x e1 e2 =>
      cases j with
      | zero => exact hin.elim
      | succ j =>
      obtain rfl := hS j rfl
      obtain ⟨hx, hin1, hin2⟩ : (x ∈ ops5 ∨ x = "look") ∧ Ex.In j e1 ∧ Ex.In j e2 := hin
      have sz1 := hin1.size
      have sz2 := hin2.size
      have szB4 : szB (j + 1) = 2 * szB j + 1 := rfl
      have sz31 : szB j ≤ 15 := by
        have : j = 0 ∨ j = 1 ∨ j = 2 ∨ j = 3 := by omega
        rcases this with rfl | rfl | rfl | rfl <;> decide
      cases hv with
      | tup hsq hall =>
      cases hall with
      | cons hxx hall =>
      cases hxx
      cases hall with
      | cons hy hall =>
      cases hall with
      | cons hz hall =>
      cases hall
      refine iteF ⟨_, rfl, _, rfl, _, _, 1, _, rfl, rfl, hsq, rfl, _, rfl, ?_⟩
      refine ⟨a, _, way, n, e1, rfl, hb, by omega, hw, by omega, hy, hin1, fun q ts d H1 n1 hq hq1 hd h0 hlen hn1 bag1 ex1 => ?_⟩
      have xt1 := hb.extT ex1
      have hsq1 := sqT_extT xt1 hsq
      have hz1 := extT_de (e := e2) xt1 hz
      refine ⟨_, rfl, _, _, 0, _, rfl, rfl, hsq1, rfl, rfl, _, rfl, ?_⟩
      have nk : x ≠ "keys" := fun z => by
        rcases hx with hx | rfl
        · have : ∀ w ∈ ops5, w ≠ "keys" := by decide
          exact this x hx z
        · exact absurd z (by decide)
      rw [decide_eq_false (show ¬ V.str x = V.str "keys" from fun z => nk (by injection z))]
      refine iteF ⟨_, rfl, _, rfl, _, _, 2, _, rfl, rfl, hsq1, rfl, _, rfl, ?_⟩
      refine ⟨a, _, way, n1, e2, rfl, bag1, by omega, hw, by omega, hz1, hin2, fun q2 ts2 d2 H2 n2 hq2 hq21 hd2 h02 hlen2 hn2 bag2 ex2 => ?_⟩
      have xt2 := bag1.extT ex2
      have hsq2 := sqT_extT xt2 hsq1
      have nqa : q ≠ a := hb.ne hq
      have hq12 := ex2 _ _ nqa hq1
      have ex02 : Ext a H H2 := Ext.tr ex1 ex2
      refine ⟨_, rfl, _, _, 0, _, rfl, rfl, hsq2, rfl, rfl, _, rfl, ?_⟩
      by_cases el : x = "look"
      · subst el
        refine iteT (ln_cat (ln_cat (ln_cat (ln_cat (ln_two "look" "(").lt (lt_var rfl hq12) (by simp; omega)).lt (ln_one ",").lt (by simp; omega)).lt (lt_var rfl hq21) (by simp; omega)).lt (ln_one ")").lt (by simp; omega) H2 _ (Same.refl H2) fun p4 H5 s15 hp4 h_p4 => ?_)
        have ex5 : Ext a H H5 := fun b o nb eb => s15 _ _ (ex02 b o nb eb)
        have ets : ([("look" : Str), "("] : List Str) ++ ts ++ ([(",") ] : List Str) ++ ts2 ++ ([(")")] : List Str) = lW :: oP :: (ts ++ cM :: (ts2 ++ [cP])) := by simp
        rw [ets] at h_p4
        refine k p4 _ (max d d2 + 1) H5 n2 (fresh_ext ex02 bag2 hp4) h_p4 (.look (hd.low (Nat.zero_le _)) (hd2.low (Nat.zero_le _))) (fun z => ?_) ?_ (by omega) (bag2.same s15) ex5
        · rw [h0 z, h02 z]; rfl
        · show (ts ++ cM :: (ts2 ++ [cP])).length + 1 + 1 ≤ 5 * (e1.size + e2.size + 1)
          rw [List.length_append, List.length_cons, List.length_append]
          show ts.length + (ts2.length + 1 + 1) + 1 + 1 ≤ _
          omega
      have hxo : x ∈ ops5 := hx.resolve_right el
      obtain ⟨i, hi⟩ := Option.isSome_iff_exists.mp (show (lvl x).isSome = true by
        have : ∀ w ∈ ops5, (lvl w).isSome = true := by decide
        exact this x hxo)
      obtain ⟨i5, hat⟩ := lvl_at hi
      have hk : levE (.bin x e1 e2) = i := by show (lvl x).getD 5 = i; rw [hi]; rfl
      rw [decide_eq_false (show ¬ V.str x = V.str "look" from fun z => el (by injection z))]
      have hy1 := extT_de (e := e1) xt1 hy
      have hy2 := extT_de (e := e1) xt2 hy1
      have hz2 := extT_de (e := e2) xt2 hz1
      refine iteF ⟨_, rfl, _, .bin x e1 e2, rfl, .tup hsq2 (.cons (.str _) (.cons hy2 (.cons hz2 .nil))), hok, fun G3 s3 => ?_⟩
      rw [hk]
      have nq2a : q2 ≠ a := bag1.ne hq2
      refine if_par (r := fun i j => decide (i < j)) (sl := 3) (e := e1) (n := n2) rfl rfl rfl rfl rfl (sqT_same s3 hsq2) rfl (dp_same s3 _ _ hy2) hok.2.1 (s3 _ _ hq12) nqa (bag2.same s3) (by omega) (by omega) fun q3 par1 G4 n4 hq3 hp0 hpf hn4 bag4 ex4 nq3 => ?_
      have x34 := (bag2.same s3).extT ex4
      have hq21' := ex4 _ _ nq2a (s3 _ _ hq21)
      refine if_par (r := fun i j => decide (i ≤ j)) (sl := 4) (e := e2) (n := n4) rfl rfl rfl rfl rfl (sqT_extT x34 (sqT_same s3 hsq2)) rfl (extT_de x34 (dp_same s3 _ _ hz2)) hok.2.2 hq21' nq2a bag4 (by omega) (by omega) fun q5 par2 G6 n6 hq5 hp20 hp2f hn6 bag6 ex6 nq5 => ?_
      have x46 := bag4.extT ex6
      have hq36 := ex6 _ _ nq3 hq3
      have hsq6 := sqT_extT x46 (sqT_extT x34 (sqT_same s3 hsq2))
      generalize et1 : (if par1 = true then oP :: (ts ++ [cP]) else ts) = t1 at hq36
      generalize et2 : (if par2 = true then oP :: (ts2 ++ [cP]) else ts2) = t2 at hq5
      have l1 : t1.length ≤ ts.length + 2 := by
        rw [← et1]
        split
        · rw [List.length_cons, List.length_append]; exact Nat.le_refl _
        · omega
      have l2 : t2.length ≤ ts2.length + 2 := by
        rw [← et2]
        split
        · rw [List.length_cons, List.length_append]; exact Nat.le_refl _
        · omega
      refine ln_cat (ln_cat (lt_var rfl hq36) (ln_ix rfl hsq6).lt (by simp; omega)).lt (lt_var rfl hq5) (by simp; omega) G6 _ (Same.refl G6) fun p4 H5 s15 hp4 h_p4 => ?_
      have ex26 : Ext a H G6 := fun b o nb eb => ex6 b o nb (ex4 b o nb (s3 _ _ (ex02 b o nb eb)))
      have ex5 : Ext a H H5 := fun b o nb eb => s15 _ _ (ex26 b o nb eb)
      obtain ⟨dd1, hd1⟩ : ∃ dd, Dk dd i e1 t1 := by
        rw [← et1]
        cases hpar : par1 with
        | true => exact ⟨d + 1, .par (hd.low (Nat.zero_le _))⟩
        | false =>
          have := of_decide_eq_false (hpf hpar)
          exact ⟨d, hd.low (by omega)⟩
      obtain ⟨dd2, hdd2⟩ : ∃ dd, Dk dd (i + 1) e2 t2 := by
        rw [← et2]
        cases hpar : par2 with
        | true => exact ⟨d2 + 1, .par (hd2.low (Nat.zero_le _))⟩
        | false =>
          have := of_decide_eq_false (hp2f hpar)
          exact ⟨d2, hd2.low (by omega)⟩
      have ets : t1 ++ [x] ++ t2 = t1 ++ x :: t2 := by simp
      rw [ets] at h_p4
      refine k p4 _ (max dd1 dd2) H5 n6 (fresh_ext ex26 bag6 hp4) h_p4 (hk ▸ .op hat (Nat.le_refl _) hd1 hdd2) (fun z => ?_) ?_ (by omega) (bag6.same s15) ex5
      · show t1 ++ x :: t2 = (match lvl x with | some i => argT i e1 (tok0 e1) ++ x :: argT (i + 1) e2 (tok0 e2) | none => x :: oP :: (tok0 e1 ++ cM :: (tok0 e2 ++ [cP])))
        rw [hi]
        show t1 ++ x :: t2 = argT i e1 (tok0 e1) ++ x :: argT (i + 1) e2 (tok0 e2)
        have a1 : t1 = argT i e1 (tok0 e1) := by
          rw [← et1, hp0 z, h0 z]
          unfold argT
          by_cases c : levE e1 < i
          · rw [decide_eq_true (show ((levE e1 : Nat) : Int) < (i : Int) by omega), if_pos rfl, if_pos c]
          · rw [decide_eq_false (show ¬ ((levE e1 : Nat) : Int) < (i : Int) by omega), if_neg (by simp), if_neg c]
        have a2 : t2 = argT (i + 1) e2 (tok0 e2) := by
          rw [← et2, hp20 z, h02 z]
          unfold argT
          by_cases c : levE e2 < i + 1
          · rw [decide_eq_true (show ((levE e2 : Nat) : Int) ≤ (i : Int) by omega), if_pos rfl, if_pos c]
          · rw [decide_eq_false (show ¬ ((levE e2 : Nat) : Int) ≤ (i : Int) by omega), if_neg (by simp), if_neg c]
        rw [a1, a2]
      · show (t1 ++ x :: t2).length ≤ 5 * (e1.size + e2.size + 1)
        rw [List.length_append, List.length_cons]
        omega
theorem sc_l_open : FnScope ["_law_tokens_here", "_law_depth", "_law_most", "_law_token"] ["_law_tokens_here"] (defScope s_l_open) := ⟨rfl, rfl, rfl, by decide +kernel, rfl, by decide +kernel, by decide +kernel⟩
theorem ok_l_open {f : Addr} {fd : FuncData} (F : Fun K "_law_open" "_law_open" s_l_open f fd) (T : Txt K mg C_Reader C_BadRow)
    : FnOk P w K mg base CX0 (1) f fd ["_law_tokens_here"] (spOpen K) := by
  refine F.ok sc_l_open (fun vs H Q E h => ?_) (fun cdv A outer s H vs Q E hr h => ?_)
  · obtain ⟨_, _, rfl, _⟩ := h; rfl
  · obtain ⟨p, ts, rfl, hp, hl, k⟩ := h
    have hu := hu_of hr
    have hu64 := hr.units
    refine ⟨_, (pss_cons (ps_asg (pe_tup (pa_cons pe_int (pa_cons pe_int pa_nil))) (pg_tup rfl (pgs_cons (pg_name (i := 1) sc_l_open.nd rfl (Or.inl rfl)) (pgs_cons (pg_name (i := 2) sc_l_open.nd rfl (Or.inl rfl)) pgs_nil))))
  (pss_cons (ps_for PassesOwn.never rfl (pi_list (pv 0)) (pg_name (i := 3) sc_l_open.nd rfl (Or.inl rfl))
    (pss_cons (ps_set (i := 1) sc_l_open.nd rfl (Or.inl rfl) (pe_op op_sub (pe_op op_add (pv 1) (pe_callTy call_int1 (by rfl) T.n_int (by decide +kernel) (pa_cons (pe_cmpR op_eq (pv 3) pe_str (nomark _)) pa_nil))) (pe_callTy call_int1 (by rfl) T.n_int (by decide +kernel) (pa_cons (pe_cmpR op_eq (pv 3) pe_str (nomark _)) pa_nil))))
      (pss_one (ps_set (i := 2) sc_l_open.nd rfl (Or.inl rfl) (pe_callB (call_max2 rfl) (by rfl) T.n_max (by decide +kernel) (pa_cons (pv 2) (pa_cons (pv 1) pa_nil)))))))
  (pss_one (ps_ret (pv 2))))), ?_⟩
    refine ⟨size_ok (by simp), fun q hq => ?_⟩
    generalize e_q : upd H q _ = H1
    have s_q := new_same e_q hq
    have h_q := new_at e_q
    refine ⟨q, _, rfl, .inl (.inl h_q), rfl, _, _, rfl, _, _, rfl, rfl, ?_⟩
    refine ⟨_, rfl, p, rfl, ⟨_, SqL.of (s_q _ _ hp)⟩, ?_⟩
    refine for_list (xs := ts.map V.str) (fun i σ G => ∃ v3, σ = [some (.ref p), some (.int ((ts.take i).foldl opF (0, 0)).1), some (.int ((ts.take i).foldl opF (0, 0)).2), v3] ∧ G = H1) ⟨none, rfl, rfl⟩ ?_ ?_ ?_
    · rintro i σ G hi ⟨v3, rfl, rfl⟩
      exact SqL.of (s_q _ _ hp)
    · rintro i v σ G hv ⟨v3, rfl, rfl⟩
      rw [List.getElem?_map] at hv
      obtain ⟨t, et, rfl⟩ := Option.map_eq_some_iff.mp hv
      rw [take_end et, List.foldl_append]
      generalize (ts.take i).foldl opF (0, 0) = dm
      refine ⟨_, rfl, _, rfl, rfl, .inr ⟨_, rfl, _, _, rfl, rfl, _, rfl, rfl, .inr ⟨_, rfl, _, _, rfl, rfl, ?_⟩⟩⟩
      refine ⟨_, rfl, _, rfl, _, _, rfl, ?_⟩
      rw [List.foldl_cons, List.foldl_nil, opF_eq dm t rfl]
      exact ⟨some (.str t), rfl, rfl⟩
    · rintro σ G ⟨v3, rfl, rfl⟩
      rw [List.length_map, List.take_length]
      exact ⟨_, rfl, k _ s_q⟩
theorem sc_l_spaced : FnScope ["_law_bag_here", "_law_tokens_here", "_law_found", "_law_token"] ["_law_bag_here", "_law_tokens_here"] (defScope s_l_spaced) := ⟨rfl, rfl, rfl, by decide +kernel, rfl, by decide +kernel, by decide +kernel⟩
theorem ok_l_spaced {f : Addr} {fd : FuncData} (F : Fun K "_law_spaced" "_law_spaced" s_l_spaced f fd) (T : Txt K mg C_Reader C_BadRow)
    (D_l_take : Fn P w K mg base 1 "_law_take" ["_law_bag_here", "_law_many"] spTake)
    : FnOk P w K mg base CX0 (2) f fd ["_law_bag_here", "_law_tokens_here"] spSpacedE := by
  refine F.ok sc_l_spaced (fun vs H Q E h => ?_) (fun cdv A outer s H vs Q E hr h => ?_)
  · obtain ⟨_, _, _, _, rfl, _⟩ := h; rfl
  · obtain ⟨a, p, n, ts, rfl, hb, hn, hp, npa, hl, h4, k⟩ := h
    have hu := hu_of hr
    have hu64 := hr.units
    refine ⟨_, (pss_cons (ps_set (i := 2) sc_l_spaced.nd rfl (Or.inl rfl) (pe_op op_mul_strN pe_str (pe_fn D_l_take (hr.mono (by decide)) rfl (pa_cons (pv 0) (pa_cons pe_int pa_nil)))))
  (pss_cons (ps_for PassesOwn.never rfl (pi_list (pv 1)) (pg_name (i := 3) sc_l_spaced.nd rfl (Or.inl rfl))
    (pss_one (ps_set (i := 2) sc_l_spaced.nd rfl (Or.inl rfl) (pe_op op_add_str (pe_op op_add_str (pv 2) (pv 3)) (pe_op op_mul_strN pe_str (pe_ix ix_list (pe_lst (pa_cons pe_int (pa_cons pe_int (pa_cons pe_int (pa_cons pe_int (pa_cons pe_int pa_nil)))))) (pe_fn D_l_take (hr.mono (by decide)) rfl (pa_cons (pv 0) (pa_cons pe_int pa_nil))) (fun _ _ => rfl)))))))
  (pss_one (ps_ret (pv 2))))), ?_⟩
    have sz : sizeLine = 16777216 := sizeLine_eq
    have l1 : (" " : Str).length = 1 := rfl
    refine ⟨_, rfl, a, 3, n, rfl, hb, by omega, by decide, by decide, fun u H1 u0 u1 bt bag1 => ?_⟩
    obtain ⟨z1, z2⟩ := spaces_letters u0 (by omega)
    refine ⟨" ", u, rfl, rfl, by omega, by omega, by decide, by decide, ?_⟩
    refine ⟨_, rfl, p, rfl, ⟨_, SqL.of ((bt p npa).trans hp)⟩, ?_⟩
    refine for_list (xs := ts.map V.str) (fun i σ G => ∃ (x : Str) (n1 : Nat) (v3 : Option V), σ = [some (.ref a), some (.ref p), some (.str x), v3] ∧ SpT (ts.take i) (letters x) ∧ x.length ≤ 2 + 7 * i ∧ n1 ≤ n + 1 + i ∧ Bag G a n1 ∧ Ext a H G) ⟨_, n + 1, none, rfl, ?_, by rw [z2]; omega, Nat.le_refl _, bag1, bt.ext⟩ ?_ ?_ ?_
    · rw [z1]; exact .nil _
    · rintro i σ G hi ⟨x, n1, v3, rfl, _, _, _, _, ex⟩
      exact SqL.of (ex _ _ npa hp)
    · rintro i v σ G hv ⟨x, n1, v3, rfl, hsp, hlx, hn1, bg, ex⟩
      rw [List.getElem?_map] at hv
      obtain ⟨t, et, rfl⟩ := Option.map_eq_some_iff.mp hv
      have hi : i < ts.length := (List.getElem?_eq_some_iff.mp et).1
      have lt4 := h4 t (List.mem_of_getElem? et)
      rw [take_end et]
      refine ⟨_, rfl, _, rfl, x, t, rfl, rfl, by omega, size_ok (by simp), fun q hq => ?_⟩
      generalize e_q : upd G q _ = G1
      have s_q := new_same e_q hq
      have h_q := new_at e_q
      have nqa := bg.ne hq
      refine ⟨_, rfl, a, 5, n1, rfl, bg.same s_q, by omega, by decide, by decide, fun w G2 w0 w1 bt2 bag2 => ?_⟩
      obtain ⟨m, hm1, hm2⟩ := at_map (xs := ([0, 0, 1, 1, 3] : List Int)) (f := V.int) w0 (by simpa using w1)
      have hm3 : 0 ≤ m ∧ m ≤ 3 := by
        have : ∀ m ∈ ([0, 0, 1, 1, 3] : List Int), 0 ≤ m ∧ m ≤ 3 := by decide
        exact this m hm2
      obtain ⟨y1, y2⟩ := spaces_letters hm3.1 hm3.2
      have lxt : (x ++ t).length = x.length + t.length := app_len x t
      refine ⟨q, _, w, _, rfl, rfl, SqL.of ((bt2 q nqa).trans h_q), hm1, " ", m, rfl, rfl, by omega, by omega, by decide, by decide, x ++ t, _, rfl, rfl, by rw [y2]; omega, ?_⟩
      refine ⟨_, n1 + 1, _, rfl, ?_, by rw [app_len, y2]; omega, by omega, bag2, fun b o nb eb => (bt2 b nb).trans (s_q _ _ (ex b o nb eb))⟩
      rw [let_app, let_app, y1]
      exact hsp.snoc _ _
    · rintro σ G ⟨x, n1, v3, rfl, hsp, hlx, hn1, bg, ex⟩
      rw [List.length_map] at hlx hn1 hsp
      rw [List.take_length] at hsp
      exact ⟨_, rfl, k x G n1 hsp hlx hn1 bg ex⟩
theorem sc_l_plain : FnScope ["_law_tokens_here", "_law_found", "_law_token"] ["_law_tokens_here"] (defScope s_l_plain) := ⟨rfl, rfl, rfl, by decide +kernel, rfl, by decide +kernel, by decide +kernel⟩
theorem ok_l_plain {f : Addr} {fd : FuncData} (F : Fun K "_law_plain" "_law_plain" s_l_plain f fd) (T : Txt K mg C_Reader C_BadRow)
    : FnOk P w K mg base CX0 (1) f fd ["_law_tokens_here"] spPlainE := by
  refine F.ok sc_l_plain (fun vs H Q E h => ?_) (fun cdv A outer s H vs Q E hr h => ?_)
  · obtain ⟨_, _, rfl, _⟩ := h; rfl
  · obtain ⟨p, ts, rfl, hp, hl, h4, k⟩ := h
    have hu := hu_of hr
    have hu64 := hr.units
    refine ⟨_, (pss_cons (ps_set (i := 1) sc_l_plain.nd rfl (Or.inl rfl) pe_str)
  (pss_cons (ps_for PassesOwn.never rfl (pi_list (pv 0)) (pg_name (i := 2) sc_l_plain.nd rfl (Or.inl rfl))
    (pss_one (ps_if (pt_cmpR op_in_seq (pv 2) (pe_lst (pa_cons pe_str (pa_cons pe_str (pa_cons pe_str (pa_cons pe_str (pa_cons pe_str pa_nil)))))) (by rfl))
        (pss_one (ps_set (i := 1) sc_l_plain.nd rfl (Or.inl rfl) (pe_op op_add_str (pe_op op_add_str (pe_op op_add_str (pv 1) pe_str) (pv 2)) pe_str)))
        (pss_one (ps_set (i := 1) sc_l_plain.nd rfl (Or.inl rfl) (pe_op op_add_str (pe_op op_add_str (pv 1) (pv 2)) (pe_op op_mul_strN pe_str (pe_callTy call_int1 (by rfl) T.n_int (by decide +kernel) (pa_cons (pe_cmpR op_eq (pv 2) pe_str (nomark _)) pa_nil)))))))))
  (pss_one (ps_ret (pv 1))))), ?_⟩
    have sz : sizeLine = 16777216 := sizeLine_eq
    have l1 : (" " : Str).length = 1 := rfl
    refine ⟨_, rfl, p, rfl, ⟨_, SqL.of hp⟩, ?_⟩
    refine for_list (xs := ts.map V.str) (fun i σ G => ∃ (x : Str) (v3 : Option V), σ = [some (.ref p), some (.str x), v3] ∧ letters x = plL (ts.take i) ∧ x.length ≤ 6 * i ∧ Same H G) ⟨_, none, rfl, rfl, Nat.le_refl _, Same.refl H⟩ ?_ ?_ ?_
    · rintro i σ G hi ⟨x, v3, rfl, _, _, s⟩
      exact SqL.of (s _ _ hp)
    · rintro i v σ G hv ⟨x, v3, rfl, hx, hlx, s⟩
      rw [List.getElem?_map] at hv
      obtain ⟨t, et, rfl⟩ := Option.map_eq_some_iff.mp hv
      have hi : i < ts.length := (List.getElem?_eq_some_iff.mp et).1
      have lt4 := h4 t (List.mem_of_getElem? et)
      rw [take_end et]
      refine ⟨_, rfl, size_ok (by simp), fun q hq => ?_⟩
      generalize e_q : upd G q _ = G1
      have s_q := new_same e_q hq
      have h_q := new_at e_q
      refine ⟨q, _, rfl, .inl (SqL.of h_q), rfl, rfl, _, rfl, ?_⟩
      have hin : inV (V.str t) [V.str "|", .str "^", .str "&", .str "-", .str "@"] = decide (t ∈ ops5) := by
        rw [inV_ops]
        by_cases q : t ∈ ops5
        · rw [decide_eq_true q]
          have : ∀ w ∈ ops5, (lvl w).isSome = true := by decide
          exact this t q
        · rw [decide_eq_false q]
          cases h : lvl t with
          | none => rfl
          | some i => exact absurd (List.mem_of_getElem? (lvl_at h).2) q
      show if inV (V.str t) [V.str "|", .str "^", .str "&", .str "-", .str "@"] = true then _ else _
      rw [hin]
      have e3 : plL (ts.take i ++ [t]) = plL (ts.take i) ++ plT t := by rw [plL_app]; show _ ++ (plT t ++ []) = _; rw [List.append_nil]
      by_cases hop : t ∈ ops5
      · rw [decide_eq_true hop]
        have la : (x ++ " ").length = x.length + 1 := by rw [app_len, l1]
        have lb : (x ++ " " ++ t).length = x.length + 1 + t.length := by rw [app_len, la]
        refine iteT ⟨_, rfl, _, _, rfl, rfl, by omega, _, rfl, _, _, rfl, rfl, by omega, _, _, rfl, rfl, by omega, ?_⟩
        refine ⟨_, _, rfl, ?_, by rw [app_len, lb, l1]; omega, s.trans s_q⟩
        rw [e3, let_app, let_app, let_app, hx, plT_op hop, let_lits.2.2.2.1]
        simp
      · rw [decide_eq_false hop]
        have la : (x ++ t).length = x.length + t.length := app_len x t
        obtain ⟨m, em, m0, m1, my⟩ : ∃ m : Int, (if decide (V.str t = V.str ",") = true then (1 : Int) else 0) = m ∧ 0 ≤ m ∧ m ≤ 1 ∧ (if t = cM then ([32] : List Nat) else []) = List.replicate m.toNat 32 := by
          by_cases c : t = ","
          · exact ⟨1, by rw [decide_eq_true (show V.str t = V.str "," from congrArg V.str c)]; rfl, by decide, by decide, by rw [if_pos c]; rfl⟩
          · exact ⟨0, by rw [decide_eq_false (show ¬ V.str t = V.str "," from fun z => c (by injection z))]; rfl, by decide, by decide, by rw [if_neg c]; rfl⟩
        obtain ⟨y1, y2⟩ := spaces_letters m0 (by omega)
        refine iteF ⟨_, rfl, _, rfl, _, _, rfl, rfl, by omega, _, rfl, rfl, .inr ⟨_, rfl, " ", m, rfl, congrArg V.int em, m0, by omega, by decide, by decide, x ++ t, _, rfl, rfl, by rw [y2]; omega, ?_⟩⟩
        refine ⟨_, _, rfl, ?_, by rw [app_len, la, y2]; omega, s.trans s_q⟩
        rw [e3, let_app, let_app, hx, y1]
        unfold plT
        rw [if_neg hop, my, List.append_assoc]
    · rintro σ G ⟨x, v3, rfl, hx, hlx, s⟩
      rw [List.length_map] at hlx hx
      rw [List.take_length] at hx
      exact ⟨_, rfl, k x G hx hlx s⟩
theorem sc_law : FnScope ["_law_script", "_law_at", "_law_bag_here", "_law_turn", "_law_expression", "_law_least", "_law_way", "_law_tokens_here", "_law_due"] ["_law_script"] (defScope s_law) := ⟨rfl, rfl, rfl, by decide +kernel, rfl, by decide +kernel, by decide +kernel⟩
theorem okT_law {n : Nat} {f : Addr} {fd : FuncData} (F : Fun K "law" "law" s_law f fd) (T : Txt K mg C_Reader C_BadRow)
    (D_l_bag : Fn P w K mg base 1 "_law_bag" ["_law_script", "_law_at"] (spBag K)) (D_l_take : Fn P w K mg base 1 "_law_take" ["_law_bag_here", "_law_many"] spTake)
    (D_l_drawn : Fn P w K mg base 6 "_law_drawn" ["_law_bag_here", "_law_deep"] (spDrawnA K)) (D_l_tokens : Fn P w K mg base 6 "_law_tokens" ["_law_bag_here", "_law_expression", "_law_way"] (spToksA K))
    (D_show_expression : Fn P w K mg base 4 "show_expression" ["expression"] (spShowE K)) (D_l_open : Fn P w K mg base 1 "_law_open" ["_law_tokens_here"] (spOpen K))
    (D_l_spaced : Fn P w K mg base 2 "_law_spaced" ["_law_bag_here", "_law_tokens_here"] spSpacedE) (D_l_plain : Fn P w K mg base 1 "_law_plain" ["_law_tokens_here"] spPlainE)
    (D_read : FnTb n P w K mg base (L2.CX P w) 78 "read_expression" ["text"] (spReadE K C_BadRow)) (D_readK : FnTk n P w K mg base (L2.CX P w) 78 "read_expression" ["text"] ["text"] (spReadE K C_BadRow))
    : FnTG n P w K mg base CX0 81 f fd ["_law_script"] (spLaw K) := by
  refine fnTG_of F sc_law (fun vs H Q E h => ?_) (fun cdv A outer s H vs Q E hg hr h => ?_)
  · obtain ⟨_, _, rfl, _⟩ := h; rfl
  · obtain ⟨a, ns, rfl, hS, hl0, k⟩ := h
    have hu := hu_of hr
    have hu64 := hr.units
    refine ⟨_, PSsn.nox (pssn_cons (psn_for PassesOwn.never rfl (pi_range1 (by rfl) T.n_range (pa_cons (pe_callB (call_max2 rfl) (by rfl) T.n_max (by decide +kernel) (pa_cons pe_int (pa_cons (pe_callB (call_min2 rfl) (by rfl) T.n_min (by decide +kernel) (pa_cons pe_int (pa_cons (pe_callB call_len_seq (by rfl) T.n_len PySem.boot_len (pa_cons (pv 0) pa_nil)) pa_nil))) pa_nil))) pa_nil)) (pg_name (i := 1) sc_law.nd rfl (Or.inl rfl))
      (pssn_cons (PSn.of (ps_set (i := 2) sc_law.nd rfl (Or.inl rfl) (pe_fn D_l_bag (hr.mono (by decide)) rfl (pa_cons (pv 0) (pa_cons (pv 1) pa_nil)))))
      (pssn_one (psn_for PassesOwn.never rfl (pi_range1 (by rfl) T.n_range (pa_cons pe_int pa_nil)) (pg_name (i := 3) sc_law.nd rfl (Or.inl rfl))
        (pssn_cons (PSn.of (ps_set (i := 4) sc_law.nd rfl (Or.inl rfl) (pe_fn D_l_drawn (hr.mono (by decide)) rfl (pa_cons (pv 2) (pa_cons (pe_op op_add pe_int (pe_fn D_l_take (hr.mono (by decide)) rfl (pa_cons (pv 2) (pa_cons pe_int pa_nil)))) pa_nil)))))
        (pssn_cons (PSn.of (ps_set (i := 5) sc_law.nd rfl (Or.inl rfl) (pe_fn D_l_tokens (hr.mono (by decide)) rfl (pa_cons (pv 2) (pa_cons (pv 4) (pa_cons pe_int pa_nil))))))
        (pssn_cons (psn_if (PTn.of (pt_cmpR op_ne (pe_fn D_show_expression (hr.mono (by decide)) rfl (pa_cons (pv 4) pa_nil)) (pe_fn D_l_plain (hr.mono (by decide)) rfl (pa_cons (pv 5) pa_nil)) (nomark _))) (PSsn.of (pss_one (ps_ret pe_bl))) (PSsn.of pss_nil))
        (pssn_one (psn_for PassesOwn.never rfl (pi_range1 (by rfl) T.n_range (pa_cons pe_int pa_nil)) (pg_name (i := 6) sc_law.nd rfl (Or.inl rfl))
          (pssn_cons (PSn.of (ps_set (i := 7) sc_law.nd rfl (Or.inl rfl) (pe_fn D_l_tokens (hr.mono (by decide)) rfl (pa_cons (pv 2) (pa_cons (pv 4) (pa_cons (pv 6) pa_nil))))))
          (pssn_one (psn_if (PTn.of (PW.pt (pw_and (pt_cmpR op_le (pe_fn D_l_open (hr.mono (by decide)) rfl (pa_cons (pv 7) pa_nil)) pe_int (nomark _)) (pw_and1 (pt_cmpR op_le (pe_callB call_len_str (by rfl) T.n_len PySem.boot_len (pa_cons (pe_join pe_str (pv 7)) pa_nil)) pe_int (nomark _))))))
            (pssn_cons (psn_if (ptn_cmp op_ne (pen_callB (call_reprK (K := K) rfl hg hu64) (by rfl) T.n_repr (by decide +kernel) (pan_cons (pen_fn (E := E0) D_read (hr.mono (by decide)) rfl pass0X (pan_cons (PEn.of (pe_fn D_l_spaced (hr.mono (by decide)) rfl (pa_cons (pv 2) (pa_cons (pv 7) pa_nil)))) pan_nil)) pan_nil)) (PEn.of (pe_callB (call_reprK (K := K) rfl hg hu64) (by rfl) T.n_repr (by decide +kernel) (pa_cons (pv 4) pa_nil))) (nomark _)) (PSsn.of (pss_one (ps_ret pe_bl))) (PSsn.of pss_nil))
            (pssn_one (psn_if (ptn_cmp (op_neDK (K := K) rfl hu64) (pen_fnK (E := E0) D_readK (hr.mono (by decide)) rfl pass0X (pk_cons (pe_fn D_l_plain (hr.mono (by decide)) rfl (pa_cons (pv 7) pa_nil)) pk_nil)) (PEn.of (pv 4)) (nomark _)) (PSsn.of (pss_one (ps_ret pe_bl))) (PSsn.of pss_nil))))
            (PSsn.of pss_nil)))))))))))))
      (pssn_cons (PSn.of (ps_set (i := 8) sc_law.nd rfl (Or.inl rfl) (pe_tup (pa_cons pe_str (pa_cons (pe_tup (pa_cons pe_str (pa_cons pe_str (pa_cons (pe_tup (pa_cons pe_str (pa_cons pe_str (pa_cons (pe_tup (pa_cons pe_str (pa_cons pe_str (pa_cons (pe_tup (pa_cons pe_str (pa_cons pe_str (pa_cons (pe_tup (pa_cons pe_str (pa_cons pe_str (pa_cons pe_str pa_nil)))) pa_nil)))) pa_nil)))) pa_nil)))) pa_nil)))) (pa_cons pe_str pa_nil))))))
      (pssn_one (psn_ret (pen_cmp (op_eqDK (K := K) rfl hu64) (pen_fn (E := E0) D_read (hr.mono (by decide)) rfl pass0X (pan_cons (PEn.of pe_str) pan_nil)) (PEn.of (pv 8)) (nomark _)))))), ?_⟩
    have sz : sizeLine = 16777216 := sizeLine_eq
    have turns : ∀ z : Int, z ≤ 63 → 0 ≤ z → (if (if z < 6 then z else 6) > 2 then (if z < 6 then z else 6) else 2) ≤ 6 ∧ 2 ≤ (if (if z < 6 then z else 6) > 2 then (if z < 6 then z else 6) else 2) := by
      intro z z1 z2
      split <;> split <;> omega
    have t0 := turns (ns.map V.int).length (by rw [List.length_map]; omega) (by omega)
    refine ⟨_, rfl, _, _, rfl, Or.inl hS, _, _, rfl, _, _, rfl, _, rfl, by omega, by omega, ?_⟩
    refine for_range (lo := 0) (fun i σ H' => (∃ x1 x2 x3 x4 x5 x6 x7 x8, σ = [some (.ref a), x1, x2, x3, x4, x5, x6, x7, x8]) ∧ Same H H') ⟨⟨_, _, _, _, _, _, _, _, rfl⟩, Same.refl H⟩ ?_ ?_
    · rintro i σ H1 hi ⟨⟨x1, x2, x3, x4, x5, x6, x7, x8, rfl⟩, s1⟩
      have hi6 : i < 6 := by omega
      refine ⟨_, rfl, _, rfl, a, ns, i, by simp, s1.seq hS, by omega, fun g o hg bag => ?_⟩
      have s2 := same_new hg (o := o)
      have ng : H g = none := s1.free hg
      generalize upd H1 g o = H2 at s2 bag ⊢
      have ne_g : ∀ b o, H b = some o → b ≠ g := fun b o e z => by rw [z, ng] at e; cases e
      have s02 := s1.trans s2
      refine ⟨_, rfl, by decide, by decide, ?_⟩
      refine for_range (lo := 0) (fun j σ G => ∃ (v3 v4 v5 v6 v7 v8 : Option V) (n1 : Nat), σ = [some (.ref a), some (.int (0 + (i : Int))), some (.ref g), v3, v4, v5, v6, v7, v8] ∧ Bag G g n1 ∧ n1 ≤ 2000 * j ∧ Ext g H2 G) ⟨_, _, _, _, _, _, 0, rfl, bag, Nat.zero_le _, fun _ _ _ e => e⟩ ?_ ?_
      · rintro j σ G hj ⟨v3, v4, v5, v6, v7, v8, n1, rfl, bag1, hn1, ex1⟩
        have hj6 : j < 6 := hj
        refine ⟨_, rfl, _, rfl, g, 4, n1, rfl, bag1, by omega, by decide, by decide, fun t G1 t0 t1 bt1 bag2 => ?_⟩
        obtain ⟨m, em, m1, m2⟩ : ∃ m : Nat, 1 + t = (m : Int) ∧ 1 ≤ m ∧ m ≤ 4 := ⟨(1 + t).toNat, by omega, by omega, by omega⟩
        have dm : drawsE m ≤ 77 ∧ szB m ≤ 31 := by
          have : ∀ m, m < 5 → drawsE m ≤ 77 ∧ szB m ≤ 31 := by decide
          exact this m (by omega)
        refine ⟨1, t, rfl, rfl, m, m2, g, n1 + 1, (by show [V.ref g, V.int (1 + t)] ++ [] = _; rw [em]; rfl), bag2, by omega, fun v e G2 n2 hv hin hn2 bag3 ex2 => ?_⟩
        have hsz : e.size ≤ 31 := Nat.le_trans hin.size dm.2
        have hok := hin.ok
        obtain ⟨sh1, sh2, sh3, sh4, sh5⟩ := hin.show4 m2
        refine ⟨_, rfl, _, rfl, m, m2, g, v, 0, n2, e, rfl, bag3, by omega, by decide, m2, hv, hin, fun p ts d G3 n3 hp hp1 hd h0 hlen hn3 bag4 ex3 => ?_⟩
        have hv3 := extT_de (e := e) (bag3.extT ex3) hv
        have tl := fun t ht => (tok_len4 (hd.toks.2 t ht)).2
        refine ⟨_, rfl, v, e, rfl, hv3, hok, by omega, fun G4 s4 => ?_⟩
        refine ⟨_, rfl, p, ts, rfl, s4 _ _ hp1, by omega, tl, fun x G5 hx hxl s5 => ?_⟩
        have ex : (showE e).1 = x := TL.ext_tl (((show_letters hok).1.trans (by rw [h0 rfl])).trans hx.symm)
        refine ⟨rfl, _, rfl, iteFS (by rw [ex, decide_eq_true rfl]; rfl) ?_⟩
        have hv5 : DE K G5 v e := dp_same (s4.trans s5) _ _ hv3
        have bag5 := bag4.same (s4.trans s5)
        have ex5 : Ext g H2 G5 := fun b o nb eb => s5 _ _ (s4 _ _ (ex3 b o nb (ex2 b o nb ((bt1 b nb).trans (ex1 b o nb eb)))))
        refine ⟨_, rfl, by decide, by decide, ?_⟩
        refine for_range (lo := 0) (fun q σ G => ∃ (v5 v6 v7 v8 : Option V) (n4 : Nat), σ = [some (.ref a), some (.int (0 + (i : Int))), some (.ref g), some (.int (0 + (j : Int))), some v, v5, v6, v7, v8] ∧ Bag G g n4 ∧ n4 ≤ n3 + 300 * q ∧ Ext g G5 G ∧ DE K G v e) ⟨_, _, _, _, n3, rfl, bag5, by omega, fun _ _ _ e => e, hv5⟩ ?_ ?_
        · rintro q σ G hq ⟨v5, v6, v7, v8, n4, rfl, bagA, hn4, exA, hvA⟩
          have hq3 : q < 3 := hq
          refine ⟨_, rfl, _, rfl, _, rfl, m, m2, g, v, q, n4, e, (by show [V.ref g, v, V.int (0 + (q : Int))] ++ [] = _; rw [Int.zero_add]; rfl), bagA, by omega, by omega, m2, hvA, hin, fun p2 ts2 d2 GB nB hpB hpB1 hdB h0B hlenB hnB bagB exB => ?_⟩
          have tl2 := fun t ht => (tok_len4 (hdB.toks.2 t ht)).2
          have tot2 := total_le tl2
          have hvB := extT_de (e := e) (bagA.extT exB) hvA
          have l155 : ts2.length ≤ 155 := by omega
          have hd0 := hdB.low (Nat.zero_le _)
          have np2 : p2 ≠ g := bagA.ne hpB
          refine ⟨_, rfl, p2, ts2, rfl, hpB1, by omega, fun GC sC => ?_⟩
          have e8 : (ts2.foldl opF (0, 0)).2 = (d2 : Int) := by
            rw [hdB.open_ (0, 0) (Int.le_refl _)]
            show max 0 (0 + (d2 : Int)) = d2
            omega
          rw [e8]
          have hpC := sC _ _ hpB1
          have bagC := bagB.same sC
          have hvC : DE K GC v e := dp_same sC _ _ hvB
          have exC : Ext g G5 GC := fun b o nb eb => sC _ _ (exB b o nb (exA b o nb eb))
          refine ⟨(d2 : Int), 8, rfl, rfl, _, rfl, ?_⟩
          by_cases h8 : d2 ≤ 8
          · refine iteTS (decide_eq_true (by omega)) ?_
            refine ⟨⟨_, rfl⟩, _, rfl, "", p2, ts2, rfl, rfl, .inl (SqL.of hpC), (by rw [show ("" : Str).length = 0 from rfl, Nat.mul_zero]; show total ts2 + 0 ≤ _; omega), ?_⟩
            have jl := join_total ts2
            refine ⟨_, rfl, by rw [jl, sz]; omega, _, _, rfl, rfl, _, rfl, ?_⟩
            rw [jl]
            by_cases ht : total ts2 ≤ 200
            · refine iteTS (decide_eq_true (by omega)) ?_
              refine ⟨_, rfl, _, rfl, g, p2, nB, ts2, rfl, bagC, by omega, hpC, np2, by omega, tl2, fun y GD nD hy hyl hnD bagD exD => ?_⟩
              have r1 : readE y = some e.d := says_of hd0 h8 ht hy
              refine ⟨y, rfl, by omega, ascii_legal (hy.ascii hdB.toks.2), fun d' v' GE hrd sE hdp htre => ?_, fun hno => absurd (hno.symm.trans r1) (by simp)⟩
              obtain rfl : e.d = d' := Option.some.inj (r1.symm.trans hrd)
              have hvE : DE K GE v e := dp_same sE _ _ (extT_de (e := e) (bagC.extT exD) hvC)
              refine ⟨v', e.d, rfl, .of hdp, sh1, sh2, sh3, ?_⟩
              refine ⟨_, rfl, v, e.d, rfl, .of hvE, sh1, sh2, sh3, rfl, _, rfl, iteFS (by rw [decide_eq_true rfl]; rfl) ?_⟩
              have hpE := sE _ _ (exD _ _ np2 hpC)
              refine ⟨_, rfl, p2, ts2, rfl, hpE, by omega, tl2, fun z GF hz hzl sF => ?_⟩
              have hz2 : SpT ts2 (letters z) := hz ▸ plL_sp ts2
              have r2 : readE z = some e.d := says_of hd0 h8 ht hz2
              refine ⟨rfl, z, rfl, by omega, ascii_legal (hz2.ascii hdB.toks.2), fun d' v2 GG hrd sG hdp2 htre2 => ?_, fun hno => absurd (hno.symm.trans r2) (by simp)⟩
              obtain rfl : e.d = d' := Option.some.inj (r2.symm.trans hrd)
              have hvG : DE K GG v e := dp_same (sF.trans sG) _ _ hvE
              refine ⟨_, rfl, e.d, e.d, hdp2, hvG, sh4, sh4, _, rfl, iteFS (by rw [sh5]; rfl) ?_⟩
              exact ⟨_, _, _, _, nD, rfl, bagD.same (sE.trans (sF.trans sG)), by omega, fun b o nb eb => sG _ _ (sF _ _ (sE _ _ (exD b o nb (exC b o nb eb)))), hvG⟩
            · refine iteFS (decide_eq_false (by omega)) ?_
              exact ⟨_, _, _, _, nB, rfl, bagC, by omega, exC, hvC⟩
          · refine iteFS (decide_eq_false (by omega)) ?_
            exact iteFS rfl ⟨_, _, _, _, nB, rfl, bagC, by omega, exC, hvC⟩
        · rintro σ G ⟨v5, v6, v7, v8, n4, rfl, bagA, hn4, exA, hvA⟩
          exact ⟨_, _, _, _, _, _, n4, rfl, bagA, by omega, fun b o nb eb => exA b o nb (ex5 b o nb eb)⟩
      · rintro σ G ⟨v3, v4, v5, v6, v7, v8, n1, rfl, bag1, hn1, ex1⟩
        exact ⟨⟨_, _, _, _, _, _, _, _, rfl⟩, fun b o e => ex1 b o (ne_g b o e) (s02 b o e)⟩
    · rintro σ H1 ⟨⟨x1, x2, x3, x4, x5, x6, x7, x8, rfl⟩, s1⟩
      have na : (Ex.nm "a").d = .str "a" := rfl
      refine ⟨size_ok (by simp), fun q1 hq1 => ?_⟩
      generalize e_q1 : upd H1 q1 _ = H2
      have s_q1 := new_same e_q1 hq1
      have h_q1 := new_at e_q1
      have d1 : DE K H2 (.ref q1) (.bin "@" (.nm "a") (.nm "b")) := .tup (.inl (.inl h_q1)) (.cons (.str _) (.cons (.str _) (.cons (.str _) .nil)))
      refine ⟨size_ok (by simp), fun q2 hq2 => ?_⟩
      generalize e_q2 : upd H2 q2 _ = H3
      have s_q2 := new_same e_q2 hq2
      have h_q2 := new_at e_q2
      have d2 : DE K H3 (.ref q2) (.bin "-" (.nm "b") (.bin "@" (.nm "a") (.nm "b"))) := .tup (.inl (.inl h_q2)) (.cons (.str _) (.cons (.str _) (.cons (dp_same s_q2 _ _ d1) .nil)))
      refine ⟨size_ok (by simp), fun q3 hq3 => ?_⟩
      generalize e_q3 : upd H3 q3 _ = H4
      have s_q3 := new_same e_q3 hq3
      have h_q3 := new_at e_q3
      have d3 : DE K H4 (.ref q3) (.bin "&" (.nm "a") (.bin "-" (.nm "b") (.bin "@" (.nm "a") (.nm "b")))) := .tup (.inl (.inl h_q3)) (.cons (.str _) (.cons (.str _) (.cons (dp_same s_q3 _ _ d2) .nil)))
      refine ⟨size_ok (by simp), fun q4 hq4 => ?_⟩
      generalize e_q4 : upd H4 q4 _ = H5
      have s_q4 := new_same e_q4 hq4
      have h_q4 := new_at e_q4
      have d4 : DE K H5 (.ref q4) (.bin "^" (.nm "b") (.bin "&" (.nm "a") (.bin "-" (.nm "b") (.bin "@" (.nm "a") (.nm "b"))))) := .tup (.inl (.inl h_q4)) (.cons (.str _) (.cons (.str _) (.cons (dp_same s_q4 _ _ d3) .nil)))
      refine ⟨size_ok (by simp), fun q5 hq5 => ?_⟩
      generalize e_q5 : upd H5 q5 _ = H6
      have s_q5 := new_same e_q5 hq5
      have h_q5 := new_at e_q5
      have d5 : DE K H6 (.ref q5) (.bin "|" (.nm "a") (.bin "^" (.nm "b") (.bin "&" (.nm "a") (.bin "-" (.nm "b") (.bin "@" (.nm "a") (.nm "b")))))) := .tup (.inl (.inl h_q5)) (.cons (.str _) (.cons (.str _) (.cons (dp_same s_q5 _ _ d4) .nil)))
      refine ⟨size_ok (by simp), fun q6 hq6 => ?_⟩
      generalize e_q6 : upd H6 q6 _ = H7
      have s_q6 := new_same e_q6 hq6
      have h_q6 := new_at e_q6
      have d6 : DE K H7 (.ref q6) dueE := .tup (.inl (.inl h_q6)) (.cons (.str _) (.cons (dp_same s_q6 _ _ d5) (.cons (.str _) .nil)))
      have la : ∀ c ∈ letters dueS, c < 128 := by decide +kernel
      refine ⟨dueS, rfl, by decide, ascii_legal la, fun d' v' HE hrd sE hdp htre => ?_, fun hno => absurd (hno.symm.trans due_read) (by simp)⟩
      obtain rfl : dueE.d = d' := Option.some.inj (due_read.symm.trans hrd)
      refine ⟨_, rfl, dueE.d, dueE.d, hdp, dp_same sE _ _ d6, due_lay.1, due_lay.1, ?_⟩
      rw [due_lay.2]
      exact k _

end
theorem all_mk {l : PySem.W.OpenLaw} {w : World} {K : PySem.W.Frag} {h : Heap} {mg : Str → Option Value} {fa : Addr} (X : K.In h) (G : h.Ns mainGlobals mg) (hfa : mg "law" = some (.ref fa))
    {C_BadRow : Addr}
    {C_Reader : Addr}
    {nmB qB : Str} {NB : Addr} {bsB subB : List Value} {snB : List Str} {abB : Bool} {colB : Option Bool} {ddB : Option Addr} {j0B j1B j2B j3B j5B : Option Value}
    
    
    
    
    
    {f0 : Addr} {oc0 kV0 dc0 pm0 cd0 ct0 : Value} {od0 an0 : Option Addr} {sl0 : Array (Option Value)}
    {f1 : Addr} {oc1 kV1 dc1 pm1 cd1 ct1 : Value} {od1 an1 : Option Addr} {sl1 : Array (Option Value)}
    {f2 : Addr} {oc2 kV2 dc2 pm2 cd2 ct2 : Value} {od2 an2 : Option Addr} {sl2 : Array (Option Value)}
    {f3 : Addr} {oc3 kV3 dc3 pm3 cd3 ct3 : Value} {od3 an3 : Option Addr} {sl3 : Array (Option Value)}
    {f4 : Addr} {oc4 kV4 dc4 pm4 cd4 ct4 : Value} {od4 an4 : Option Addr} {sl4 : Array (Option Value)}
    {f5 : Addr} {oc5 kV5 dc5 pm5 cd5 ct5 : Value} {od5 an5 : Option Addr} {sl5 : Array (Option Value)}
    {f6 : Addr} {oc6 kV6 dc6 pm6 cd6 ct6 : Value} {od6 an6 : Option Addr} {sl6 : Array (Option Value)}
    {f7 : Addr} {oc7 kV7 dc7 pm7 cd7 ct7 : Value} {od7 an7 : Option Addr} {sl7 : Array (Option Value)}
    {f8 : Addr} {oc8 kV8 dc8 pm8 cd8 ct8 : Value} {od8 an8 : Option Addr} {sl8 : Array (Option Value)}
    {f9 : Addr} {oc9 kV9 dc9 pm9 cd9 ct9 : Value} {od9 an9 : Option Addr} {sl9 : Array (Option Value)}
    {f10 : Addr} {oc10 kV10 dc10 pm10 cd10 ct10 : Value} {od10 an10 : Option Addr} {sl10 : Array (Option Value)}
    {f11 : Addr} {oc11 kV11 dc11 pm11 cd11 ct11 : Value} {od11 an11 : Option Addr} {sl11 : Array (Option Value)}
    {f12 : Addr} {oc12 kV12 dc12 pm12 cd12 ct12 : Value} {od12 an12 : Option Addr} {sl12 : Array (Option Value)}
    {f13 : Addr} {oc13 kV13 dc13 pm13 cd13 ct13 : Value} {od13 an13 : Option Addr} {sl13 : Array (Option Value)}
    {f14 : Addr} {oc14 kV14 dc14 pm14 cd14 ct14 : Value} {od14 an14 : Option Addr} {sl14 : Array (Option Value)}
    {f15 : Addr} {oc15 kV15 dc15 pm15 cd15 ct15 : Value} {od15 an15 : Option Addr} {sl15 : Array (Option Value)}
    {f16 : Addr} {oc16 kV16 dc16 pm16 cd16 ct16 : Value} {od16 an16 : Option Addr} {sl16 : Array (Option Value)}
    {f17 : Addr} {oc17 kV17 dc17 pm17 cd17 ct17 : Value} {od17 an17 : Option Addr} {sl17 : Array (Option Value)}
    {f18 : Addr} {oc18 kV18 dc18 pm18 cd18 ct18 : Value} {od18 an18 : Option Addr} {sl18 : Array (Option Value)}
    {f19 : Addr} {oc19 kV19 dc19 pm19 cd19 ct19 : Value} {od19 an19 : Option Addr} {sl19 : Array (Option Value)}
    {f20 : Addr} {oc20 kV20 dc20 pm20 cd20 ct20 : Value} {od20 an20 : Option Addr} {sl20 : Array (Option Value)}
    {f21 : Addr} {oc21 kV21 dc21 pm21 cd21 ct21 : Value} {od21 an21 : Option Addr} {sl21 : Array (Option Value)}
    {f22 : Addr} {oc22 kV22 dc22 pm22 cd22 ct22 : Value} {od22 an22 : Option Addr} {sl22 : Array (Option Value)}
    {f23 : Addr} {oc23 kV23 dc23 pm23 cd23 ct23 : Value} {od23 an23 : Option Addr} {sl23 : Array (Option Value)}
    {f24 : Addr} {oc24 kV24 dc24 pm24 cd24 ct24 : Value} {od24 an24 : Option Addr} {sl24 : Array (Option Value)}
    {f25 : Addr} {oc25 kV25 dc25 pm25 cd25 ct25 : Value} {od25 an25 : Option Addr} {sl25 : Array (Option Value)}
    {t_LETTERS : Tok}
    {t_MOST_LETTERS : Tok}
    {r_RESERVED : Addr} {rd_RESERVED : Option Addr} {rn_RESERVED : Nat} {rs_RESERVED : Array (Option Value)} {rt_RESERVED_0 : Tok} {rt_RESERVED_1 : Tok} {rt_RESERVED_2 : Tok}
    {r_OPERANDS : Addr}
    {r_OPERATORS : Addr} {rd_OPERATORS : Option Addr} {rn_OPERATORS : Nat} {rs_OPERATORS : Array (Option Value)} {rt_OPERATORS_0 : Tok} {rt_OPERATORS_1 : Tok} {rt_OPERATORS_2 : Tok} {rt_OPERATORS_3 : Tok} {rt_OPERATORS_4 : Tok}
    {r_SIGNS : Addr} {rd_SIGNS : Option Addr} {rn_SIGNS : Nat} {rs_SIGNS : Array (Option Value)} {rt_SIGNS_0 : Tok} {rt_SIGNS_1 : Tok} {rt_SIGNS_2 : Tok} {rt_SIGNS_3 : Tok} {rt_SIGNS_4 : Tok} {rt_SIGNS_5 : Tok} {rt_SIGNS_6 : Tok} {rt_SIGNS_7 : Tok}
    {t_MOST_CHARACTERS : Tok}
    {t_MOST_OPEN : Tok}
    {t_END : Tok}
    (aB : PySem.W.nsIn K mainGlobals "BadRow" = some (some (.ref C_BadRow)))
    (aCR : PySem.W.nsIn K mainGlobals "Reader" = some (some (.ref C_Reader)))
    (lB : K.lookup C_BadRow = some (excClassObj nmB qB C_BadRow NB bsB mroVal true snB subB abB colB ddB j0B j1B j2B j3B j5B "ValueError.__new__")) (saB : PySem.W.findIn K (.ref C_BadRow) "__setattr__" = some (some (.builtin "object.__setattr__"))) (exB : PySem.W.subIn K (.ref C_BadRow) (.type "BaseException") = some true) (tyB : PySem.W.typeIn K (.ref C_BadRow) = some (.type "type")) (kB : PySem.W.keepIn K (.ref C_BadRow) = true)
    (nvB : PySem.W.findIn K (.ref C_BadRow) "place" = some none)
    (pgR : PySem.W.plainGet K C_Reader Str.empty = true) (hdR : PySem.W.hasDictIn K C_Reader = true) (poR : PySem.W.plainOver K C_Reader = true) (saR : PySem.W.findIn K (.ref C_Reader) "__setattr__" = some (some (.builtin "object.__setattr__")))
    (hnw_Reader : PySem.W.findIn K (.ref C_Reader) "words" = some none)
    (hna_Reader : PySem.W.findIn K (.ref C_Reader) "at" = some none)
    (hnd_Reader : PySem.W.findIn K (.ref C_Reader) "depth" = some none)
    (a0 : PySem.W.nsIn K mainGlobals "is_name" = some (some (.ref f0)))
    (l0 : K.lookup f0 = some ⟨oc0, od0, .func (PySem.W.fnOf "is_name" "is_name" (defArgs s_is_name) (defBody s_is_name) (defScope s_is_name) .none kV0 dc0 pm0 an0 cd0 ct0), sl0⟩)
    (c0 : PySem.W.codeIn K cd0 "is_name" = true) (k0 : PySem.W.keepIn K (.ref f0) = true)
    (a1 : PySem.W.findIn K (.ref C_BadRow) "__init__" = some (some (.ref f1))) (i1 : PySem.W.isFn K (.ref f1) = true)
    (ty1 : PySem.W.typeIn K (.ref f1) = some (.type "function"))
    (l1 : K.lookup f1 = some ⟨oc1, od1, .func (PySem.W.fnOf "__init__" "BadRow.__init__" (defArgs s_BadRow_init) (defBody s_BadRow_init) (defScope s_BadRow_init) .none kV1 dc1 pm1 an1 cd1 ct1), sl1⟩)
    (c1 : PySem.W.codeIn K cd1 "BadRow.__init__" = true) (k1 : PySem.W.keepIn K (.ref f1) = true)
    (a2 : PySem.W.findIn K (.ref C_Reader) "__init__" = some (some (.ref f2))) (i2 : PySem.W.isFn K (.ref f2) = true)
    (l2 : K.lookup f2 = some ⟨oc2, od2, .func (PySem.W.fnOf "__init__" "Reader.__init__" (defArgs s_Reader_init) (defBody s_Reader_init) (defScope s_Reader_init) .none kV2 dc2 pm2 an2 cd2 ct2), sl2⟩)
    (c2 : PySem.W.codeIn K cd2 "Reader.__init__" = true) (k2 : PySem.W.keepIn K (.ref f2) = true)
    (a3 : PySem.W.findIn K (.ref C_Reader) "took" = some (some (.ref f3))) (i3 : PySem.W.isFn K (.ref f3) = true)
    (l3 : K.lookup f3 = some ⟨oc3, od3, .func (PySem.W.fnOf "took" "Reader.took" (defArgs s_Reader_took) (defBody s_Reader_took) (defScope s_Reader_took) .none kV3 dc3 pm3 an3 cd3 ct3), sl3⟩)
    (c3 : PySem.W.codeIn K cd3 "Reader.took" = true) (k3 : PySem.W.keepIn K (.ref f3) = true)
    (a4 : PySem.W.findIn K (.ref C_Reader) "need" = some (some (.ref f4))) (i4 : PySem.W.isFn K (.ref f4) = true)
    (l4 : K.lookup f4 = some ⟨oc4, od4, .func (PySem.W.fnOf "need" "Reader.need" (defArgs s_Reader_need) (defBody s_Reader_need) (defScope s_Reader_need) .none kV4 dc4 pm4 an4 cd4 ct4), sl4⟩)
    (c4 : PySem.W.codeIn K cd4 "Reader.need" = true) (k4 : PySem.W.keepIn K (.ref f4) = true)
    (a5 : PySem.W.findIn K (.ref C_Reader) "parts" = some (some (.ref f5))) (i5 : PySem.W.isFn K (.ref f5) = true)
    (l5 : K.lookup f5 = some ⟨oc5, od5, .func (PySem.W.fnOf "parts" "Reader.parts" (defArgs s_Reader_parts) (defBody s_Reader_parts) (defScope s_Reader_parts) .none kV5 dc5 pm5 an5 cd5 ct5), sl5⟩)
    (c5 : PySem.W.codeIn K cd5 "Reader.parts" = true) (k5 : PySem.W.keepIn K (.ref f5) = true)
    (a6 : PySem.W.findIn K (.ref C_Reader) "single" = some (some (.ref f6))) (i6 : PySem.W.isFn K (.ref f6) = true)
    (l6 : K.lookup f6 = some ⟨oc6, od6, .func (PySem.W.fnOf "single" "Reader.single" (defArgs s_Reader_single) (defBody s_Reader_single) (defScope s_Reader_single) .none kV6 dc6 pm6 an6 cd6 ct6), sl6⟩)
    (c6 : PySem.W.codeIn K cd6 "Reader.single" = true) (k6 : PySem.W.keepIn K (.ref f6) = true)
    (a7 : PySem.W.findIn K (.ref C_Reader) "level" = some (some (.ref f7))) (i7 : PySem.W.isFn K (.ref f7) = true)
    (l7 : K.lookup f7 = some ⟨oc7, od7, .func (PySem.W.fnOf "level" "Reader.level" (defArgs s_Reader_level) (defBody s_Reader_level) (defScope s_Reader_level) .none kV7 dc7 pm7 an7 cd7 ct7), sl7⟩)
    (c7 : PySem.W.codeIn K cd7 "Reader.level" = true) (k7 : PySem.W.keepIn K (.ref f7) = true)
    (a8 : PySem.W.findIn K (.ref C_Reader) "whole" = some (some (.ref f8))) (i8 : PySem.W.isFn K (.ref f8) = true)
    (l8 : K.lookup f8 = some ⟨oc8, od8, .func (PySem.W.fnOf "whole" "Reader.whole" (defArgs s_Reader_whole) (defBody s_Reader_whole) (defScope s_Reader_whole) .none kV8 dc8 pm8 an8 cd8 ct8), sl8⟩)
    (c8 : PySem.W.codeIn K cd8 "Reader.whole" = true) (k8 : PySem.W.keepIn K (.ref f8) = true)
    (a9 : PySem.W.nsIn K mainGlobals "_split" = some (some (.ref f9)))
    (l9 : K.lookup f9 = some ⟨oc9, od9, .func (PySem.W.fnOf "_split" "_split" (defArgs s_p_split) (defBody s_p_split) (defScope s_p_split) .none kV9 dc9 pm9 an9 cd9 ct9), sl9⟩)
    (c9 : PySem.W.codeIn K cd9 "_split" = true) (k9 : PySem.W.keepIn K (.ref f9) = true)
    (a10 : PySem.W.nsIn K mainGlobals "_check_size" = some (some (.ref f10)))
    (l10 : K.lookup f10 = some ⟨oc10, od10, .func (PySem.W.fnOf "_check_size" "_check_size" (defArgs s_p_check_size) (defBody s_p_check_size) (defScope s_p_check_size) .none kV10 dc10 pm10 an10 cd10 ct10), sl10⟩)
    (c10 : PySem.W.codeIn K cd10 "_check_size" = true) (k10 : PySem.W.keepIn K (.ref f10) = true)
    (a11 : PySem.W.nsIn K mainGlobals "read_expression" = some (some (.ref f11)))
    (l11 : K.lookup f11 = some ⟨oc11, od11, .func (PySem.W.fnOf "read_expression" "read_expression" (defArgs s_read_expression) (defBody s_read_expression) (defScope s_read_expression) .none kV11 dc11 pm11 an11 cd11 ct11), sl11⟩)
    (c11 : PySem.W.codeIn K cd11 "read_expression" = true) (k11 : PySem.W.keepIn K (.ref f11) = true)
    (a12 : PySem.W.nsIn K mainGlobals "words_of" = some (some (.ref f12)))
    (l12 : K.lookup f12 = some ⟨oc12, od12, .func (PySem.W.fnOf "words_of" "words_of" (defArgs s_words_of) (defBody s_words_of) (defScope s_words_of) .none kV12 dc12 pm12 an12 cd12 ct12), sl12⟩)
    (c12 : PySem.W.codeIn K cd12 "words_of" = true) (k12 : PySem.W.keepIn K (.ref f12) = true)
    (a13 : PySem.W.nsIn K mainGlobals "evaluated" = some (some (.ref f13)))
    (l13 : K.lookup f13 = some ⟨oc13, od13, .func (PySem.W.fnOf "evaluated" "evaluated" (defArgs s_evaluated) (defBody s_evaluated) (defScope s_evaluated) .none kV13 dc13 pm13 an13 cd13 ct13), sl13⟩)
    (c13 : PySem.W.codeIn K cd13 "evaluated" = true) (k13 : PySem.W.keepIn K (.ref f13) = true)
    (a14 : PySem.W.nsIn K mainGlobals "_closed" = some (some (.ref f14)))
    (l14 : K.lookup f14 = some ⟨oc14, od14, .func (PySem.W.fnOf "_closed" "_closed" (defArgs s_p_closed) (defBody s_p_closed) (defScope s_p_closed) .none kV14 dc14 pm14 an14 cd14 ct14), sl14⟩)
    (c14 : PySem.W.codeIn K cd14 "_closed" = true) (k14 : PySem.W.keepIn K (.ref f14) = true)
    (a15 : PySem.W.nsIn K mainGlobals "_shown" = some (some (.ref f15)))
    (l15 : K.lookup f15 = some ⟨oc15, od15, .func (PySem.W.fnOf "_shown" "_shown" (defArgs s_p_shown) (defBody s_p_shown) (defScope s_p_shown) .none kV15 dc15 pm15 an15 cd15 ct15), sl15⟩)
    (c15 : PySem.W.codeIn K cd15 "_shown" = true) (k15 : PySem.W.keepIn K (.ref f15) = true)
    (a16 : PySem.W.nsIn K mainGlobals "show_expression" = some (some (.ref f16)))
    (l16 : K.lookup f16 = some ⟨oc16, od16, .func (PySem.W.fnOf "show_expression" "show_expression" (defArgs s_show_expression) (defBody s_show_expression) (defScope s_show_expression) .none kV16 dc16 pm16 an16 cd16 ct16), sl16⟩)
    (c16 : PySem.W.codeIn K cd16 "show_expression" = true) (k16 : PySem.W.keepIn K (.ref f16) = true)
    (a17 : PySem.W.nsIn K mainGlobals "_law_bag" = some (some (.ref f17)))
    (l17 : K.lookup f17 = some ⟨oc17, od17, .func (PySem.W.fnOf "_law_bag" "_law_bag" (defArgs s_l_bag) (defBody s_l_bag) (defScope s_l_bag) .none kV17 dc17 pm17 an17 cd17 ct17), sl17⟩)
    (c17 : PySem.W.codeIn K cd17 "_law_bag" = true) (k17 : PySem.W.keepIn K (.ref f17) = true)
    (a18 : PySem.W.nsIn K mainGlobals "_law_take" = some (some (.ref f18)))
    (l18 : K.lookup f18 = some ⟨oc18, od18, .func (PySem.W.fnOf "_law_take" "_law_take" (defArgs s_l_take) (defBody s_l_take) (defScope s_l_take) .none kV18 dc18 pm18 an18 cd18 ct18), sl18⟩)
    (c18 : PySem.W.codeIn K cd18 "_law_take" = true) (k18 : PySem.W.keepIn K (.ref f18) = true)
    (a19 : PySem.W.nsIn K mainGlobals "_law_drawn" = some (some (.ref f19)))
    (l19 : K.lookup f19 = some ⟨oc19, od19, .func (PySem.W.fnOf "_law_drawn" "_law_drawn" (defArgs s_l_drawn) (defBody s_l_drawn) (defScope s_l_drawn) .none kV19 dc19 pm19 an19 cd19 ct19), sl19⟩)
    (c19 : PySem.W.codeIn K cd19 "_law_drawn" = true) (k19 : PySem.W.keepIn K (.ref f19) = true)
    (a20 : PySem.W.nsIn K mainGlobals "_law_level" = some (some (.ref f20)))
    (l20 : K.lookup f20 = some ⟨oc20, od20, .func (PySem.W.fnOf "_law_level" "_law_level" (defArgs s_l_level) (defBody s_l_level) (defScope s_l_level) .none kV20 dc20 pm20 an20 cd20 ct20), sl20⟩)
    (c20 : PySem.W.codeIn K cd20 "_law_level" = true) (k20 : PySem.W.keepIn K (.ref f20) = true)
    (a21 : PySem.W.nsIn K mainGlobals "_law_tokens" = some (some (.ref f21)))
    (l21 : K.lookup f21 = some ⟨oc21, od21, .func (PySem.W.fnOf "_law_tokens" "_law_tokens" (defArgs s_l_tokens) (defBody s_l_tokens) (defScope s_l_tokens) .none kV21 dc21 pm21 an21 cd21 ct21), sl21⟩)
    (c21 : PySem.W.codeIn K cd21 "_law_tokens" = true) (k21 : PySem.W.keepIn K (.ref f21) = true)
    (a22 : PySem.W.nsIn K mainGlobals "_law_open" = some (some (.ref f22)))
    (l22 : K.lookup f22 = some ⟨oc22, od22, .func (PySem.W.fnOf "_law_open" "_law_open" (defArgs s_l_open) (defBody s_l_open) (defScope s_l_open) .none kV22 dc22 pm22 an22 cd22 ct22), sl22⟩)
    (c22 : PySem.W.codeIn K cd22 "_law_open" = true) (k22 : PySem.W.keepIn K (.ref f22) = true)
    (a23 : PySem.W.nsIn K mainGlobals "_law_spaced" = some (some (.ref f23)))
    (l23 : K.lookup f23 = some ⟨oc23, od23, .func (PySem.W.fnOf "_law_spaced" "_law_spaced" (defArgs s_l_spaced) (defBody s_l_spaced) (defScope s_l_spaced) .none kV23 dc23 pm23 an23 cd23 ct23), sl23⟩)
    (c23 : PySem.W.codeIn K cd23 "_law_spaced" = true) (k23 : PySem.W.keepIn K (.ref f23) = true)
    (a24 : PySem.W.nsIn K mainGlobals "_law_plain" = some (some (.ref f24)))
    (l24 : K.lookup f24 = some ⟨oc24, od24, .func (PySem.W.fnOf "_law_plain" "_law_plain" (defArgs s_l_plain) (defBody s_l_plain) (defScope s_l_plain) .none kV24 dc24 pm24 an24 cd24 ct24), sl24⟩)
    (c24 : PySem.W.codeIn K cd24 "_law_plain" = true) (k24 : PySem.W.keepIn K (.ref f24) = true)
    (a25 : PySem.W.nsIn K mainGlobals "law" = some (some (.ref f25)))
    (l25 : K.lookup f25 = some ⟨oc25, od25, .func (PySem.W.fnOf "law" "law" (defArgs s_law) (defBody s_law) (defScope s_law) .none kV25 dc25 pm25 an25 cd25 ct25), sl25⟩)
    (c25 : PySem.W.codeIn K cd25 "law" = true) (k25 : PySem.W.keepIn K (.ref f25) = true)
    (mk_Reader : PySem.W.makesIn K C_Reader = true) (kp_Reader : PySem.W.keepIn K (.ref C_Reader) = true)
    (rk0 : rt_SIGNS_0 ≠ 0 ∧ rt_SIGNS_0 + 1 < 525) (rk1 : rt_SIGNS_1 ≠ 0 ∧ rt_SIGNS_1 + 1 < 525) (rk2 : rt_SIGNS_2 ≠ 0 ∧ rt_SIGNS_2 + 1 < 525) (rk3 : rt_SIGNS_3 ≠ 0 ∧ rt_SIGNS_3 + 1 < 525) (rk4 : rt_SIGNS_4 ≠ 0 ∧ rt_SIGNS_4 + 1 < 525) (rk5 : rt_SIGNS_5 ≠ 0 ∧ rt_SIGNS_5 + 1 < 525) (rk6 : rt_SIGNS_6 ≠ 0 ∧ rt_SIGNS_6 + 1 < 525) (rk7 : rt_SIGNS_7 ≠ 0 ∧ rt_SIGNS_7 + 1 < 525)
    {to0 to1 to2 to3 to4 to5 to6 : Tok} (yo : He.dicW K r_OPERANDS = some (He.keysIn w.params opNames)) (yv0 : PySem.W.nsIn K r_OPERANDS "|" = some (some (.int 2 to0))) (yv1 : PySem.W.nsIn K r_OPERANDS "^" = some (some (.int 2 to1))) (yv2 : PySem.W.nsIn K r_OPERANDS "&" = some (some (.int 2 to2))) (yv3 : PySem.W.nsIn K r_OPERANDS "-" = some (some (.int 2 to3))) (yv4 : PySem.W.nsIn K r_OPERANDS "@" = some (some (.int 2 to4))) (yv5 : PySem.W.nsIn K r_OPERANDS "keys" = some (some (.int 1 to5))) (yv6 : PySem.W.nsIn K r_OPERANDS "look" = some (some (.int 2 to6))) (yd : rd_OPERATORS = none)
    (z_abs : PySem.W.nsIn K mainGlobals "abs" = some none)
    (z_all : PySem.W.nsIn K mainGlobals "all" = some none)
    (z_int : PySem.W.nsIn K mainGlobals "int" = some none)
    (z_isinstance : PySem.W.nsIn K mainGlobals "isinstance" = some none)
    (z_len : PySem.W.nsIn K mainGlobals "len" = some none)
    (z_max : PySem.W.nsIn K mainGlobals "max" = some none)
    (z_min : PySem.W.nsIn K mainGlobals "min" = some none)
    (z_range : PySem.W.nsIn K mainGlobals "range" = some none)
    (z_repr : PySem.W.nsIn K mainGlobals "repr" = some none)
    (z_str : PySem.W.nsIn K mainGlobals "str" = some none)
    (z_LETTERS : PySem.W.nsIn K mainGlobals "LETTERS" = some (some (.str "abcdefghijklmnopqrstuvwxyz" t_LETTERS)))
    (z_MOST_LETTERS : PySem.W.nsIn K mainGlobals "MOST_LETTERS" = some (some (.int 4 t_MOST_LETTERS)))
    (z_RESERVED : PySem.W.nsIn K mainGlobals "RESERVED" = some (some (.ref r_RESERVED)))
    (y_RESERVED : K.lookup r_RESERVED = some ⟨.type "tuple", rd_RESERVED, .seq #[.str "keys" rt_RESERVED_0, .str "look" rt_RESERVED_1, .str "self" rt_RESERVED_2] rn_RESERVED, rs_RESERVED⟩)
    (z_OPERANDS : PySem.W.nsIn K mainGlobals "OPERANDS" = some (some (.ref r_OPERANDS)))
    (z_OPERATORS : PySem.W.nsIn K mainGlobals "OPERATORS" = some (some (.ref r_OPERATORS)))
    (y_OPERATORS : K.lookup r_OPERATORS = some ⟨.type "tuple", rd_OPERATORS, .seq #[.str "|" rt_OPERATORS_0, .str "^" rt_OPERATORS_1, .str "&" rt_OPERATORS_2, .str "-" rt_OPERATORS_3, .str "@" rt_OPERATORS_4] rn_OPERATORS, rs_OPERATORS⟩)
    (z_SIGNS : PySem.W.nsIn K mainGlobals "SIGNS" = some (some (.ref r_SIGNS)))
    (y_SIGNS : K.lookup r_SIGNS = some ⟨.type "tuple", rd_SIGNS, .seq #[.str "|" rt_SIGNS_0, .str "^" rt_SIGNS_1, .str "&" rt_SIGNS_2, .str "-" rt_SIGNS_3, .str "@" rt_SIGNS_4, .str "(" rt_SIGNS_5, .str ")" rt_SIGNS_6, .str "," rt_SIGNS_7] rn_SIGNS, rs_SIGNS⟩)
    (z_MOST_CHARACTERS : PySem.W.nsIn K mainGlobals "MOST_CHARACTERS" = some (some (.int 200 t_MOST_CHARACTERS)))
    (z_MOST_OPEN : PySem.W.nsIn K mainGlobals "MOST_OPEN" = some (some (.int 8 t_MOST_OPEN)))
    (z_END : PySem.W.nsIn K mainGlobals "END" = some (some (.str "" t_END)))
    : ∃ fd : FuncData, (∀ (s : Shared) (v : Value), BindsTo s fd ⟨[v], []⟩ [("_law_script", v)]) ∧ ∀ base : Heap, K.In base → base.Ns mainGlobals mg → FnTG 525 l.prog w K mg base CX0 81 fa fd ["_law_script"] (spLaw K) := by
  have e := hfa.symm.trans (PySem.W.mg_of X G a25)
  cases e
  have T : Txt K mg C_Reader C_BadRow := ⟨PySem.W.mg_none_of X G z_abs, PySem.W.mg_none_of X G z_all, PySem.W.mg_none_of X G z_int, PySem.W.mg_none_of X G z_isinstance, PySem.W.mg_none_of X G z_len, PySem.W.mg_none_of X G z_max, PySem.W.mg_none_of X G z_min, PySem.W.mg_none_of X G z_range, PySem.W.mg_none_of X G z_repr, PySem.W.mg_none_of X G z_str, ⟨t_LETTERS, PySem.W.mg_of X G z_LETTERS⟩, ⟨t_MOST_LETTERS, PySem.W.mg_of X G z_MOST_LETTERS⟩, ⟨r_RESERVED, PySem.W.mg_of X G z_RESERVED, fun H => .inr ⟨_, _, _, y_RESERVED, rfl, rfl, size_ok (by simp), .cons ⟨_, rfl⟩ (.cons ⟨_, rfl⟩ (.cons ⟨_, rfl⟩ (.nil)))⟩⟩, ⟨r_OPERANDS, PySem.W.mg_of X G z_OPERANDS⟩, ⟨r_OPERATORS, PySem.W.mg_of X G z_OPERATORS, fun H => .inr ⟨_, _, _, y_OPERATORS, rfl, rfl, size_ok (by simp), .cons ⟨_, rfl⟩ (.cons ⟨_, rfl⟩ (.cons ⟨_, rfl⟩ (.cons ⟨_, rfl⟩ (.cons ⟨_, rfl⟩ (.nil)))))⟩⟩, ⟨r_SIGNS, PySem.W.mg_of X G z_SIGNS, fun H => .inr ⟨_, _, _, y_SIGNS, rfl, rfl, size_ok (by simp), .cons ⟨_, rfl⟩ (.cons ⟨_, rfl⟩ (.cons ⟨_, rfl⟩ (.cons ⟨_, rfl⟩ (.cons ⟨_, rfl⟩ (.cons ⟨_, rfl⟩ (.cons ⟨_, rfl⟩ (.cons ⟨_, rfl⟩ (.nil))))))))⟩⟩, ⟨t_MOST_CHARACTERS, PySem.W.mg_of X G z_MOST_CHARACTERS⟩, ⟨t_MOST_OPEN, PySem.W.mg_of X G z_MOST_OPEN⟩, ⟨t_END, PySem.W.mg_of X G z_END⟩, PySem.W.mg_of X G aB, PySem.W.mg_of X G aCR, ownX_val ⟨⟨_, _, _, _, _, _, _, _, _, _, _, _, _, _, lB⟩, saB, exB, tyB, kB⟩, nvB, ⟨pgR, hdR, poR, saR⟩, hnw_Reader, hna_Reader, hnd_Reader⟩
  refine ⟨PySem.W.fnOf "law" "law" (defArgs s_law) (defBody s_law) (defScope s_law) .none kV25 dc25 pm25 an25 cd25 ct25, fun s v => .of_eq rfl, fun base hK hG => ?_⟩
  have F_is_name := fun_mk (st := s_is_name) l0 c0 k0
  have O_is_name := ok_is_name (P := l.prog) (w := w) (base := base) F_is_name T  
  have b_is_name := F_is_name.binds (ps := ["thing"]) fun _ _ _ _ _ _ us hl => match us, hl with | [_], _ => rfl
  have D_is_name : Fn l.prog w K mg base 1 "is_name" ["thing"] (spIs K mName) := ⟨_, _, PySem.W.mg_of X G a0, O_is_name, k0, b_is_name⟩
  have F_BadRow_init := fun_mk (st := s_BadRow_init) l1 c1 k1
  have O_BadRow_init := ok_BadRow_init (P := l.prog) (w := w) (base := base) F_BadRow_init T  
  have b_BadRow_init := F_BadRow_init.binds (ps := ["self", "place"]) fun _ _ _ _ _ _ us hl => match us, hl with | [_, _], _ => rfl
  have D_BadRow_init : Xc l.prog w K mg base C_BadRow 1 ["self", "place"] (spInit1 K "place") := ⟨_, _, T.ox_BadRow, a1, (show PySem.W.typeIn K (.ref f1) = some (.type "function") from ty1), O_BadRow_init, b_BadRow_init⟩
  have F_Reader_init := fun_mk (st := s_Reader_init) l2 c2 k2
  have b_Reader_init := F_Reader_init.binds (ps := ["self", "words"]) fun _ _ _ _ _ _ us hl => match us, hl with | [_, _], _ => rfl
  have D_Reader_init : Mk1 l.prog w K mg base C_Reader 1 ["self", "words"] (spInitRd C_Reader) := ⟨_, _, ⟨mk_Reader, a2, i2, kp_Reader⟩, ok_Reader_init (P := l.prog) (w := w) (base := base) F_Reader_init T, b_Reader_init⟩
  have F_Reader_took := fun_mk (st := s_Reader_took) l3 c3 k3
  have O_Reader_took := ok_Reader_took (P := l.prog) (w := w) (base := base) F_Reader_took T  
  have b_Reader_took := F_Reader_took.binds (ps := ["self", "word"]) fun _ _ _ _ _ _ us hl => match us, hl with | [_, _], _ => rfl
  have D_Reader_took : Mt l.prog w K mg base C_Reader "took" 1 ["self", "word"] (spTook C_Reader) := ⟨_, _, a3, i3, k3, O_Reader_took, b_Reader_took⟩
  have F_Reader_need := fun_mk (st := s_Reader_need) l4 c4 k4
  have O_Reader_need := ok_Reader_need (P := l.prog) (w := w) (base := base) F_Reader_need T D_BadRow_init D_Reader_took 
  have b_Reader_need := F_Reader_need.binds (ps := ["self", "word"]) fun _ _ _ _ _ _ us hl => match us, hl with | [_, _], _ => rfl
  have D_Reader_need : MtX l.prog w K mg base C_Reader "need" 3 ["self", "word"] (spNeed C_Reader C_BadRow) := ⟨_, _, a4, i4, k4, O_Reader_need, b_Reader_need⟩
  have F_Reader_parts := fun_mk (st := s_Reader_parts) l5 c5 k5
  have b_Reader_parts := F_Reader_parts.binds (ps := ["self", "many"]) fun _ _ _ _ _ _ us hl => match us, hl with | [_, _], _ => rfl
  have F_Reader_single := fun_mk (st := s_Reader_single) l6 c6 k6
  have b_Reader_single := F_Reader_single.binds (ps := ["self"]) fun _ _ _ _ _ _ us hl => match us, hl with | [_], _ => rfl
  have F_Reader_level := fun_mk (st := s_Reader_level) l7 c7 k7
  have b_Reader_level := F_Reader_level.binds (ps := ["self", "at_least"]) fun _ _ _ _ _ _ us hl => match us, hl with | [_, _], _ => rfl
  have tie := reader_tie (K := K) (C := C_Reader) (CB := C_BadRow) (Lv := fun k sp => MtX l.prog w K mg base C_Reader "level" k ["self", "at_least"] sp) (Sg := fun k sp => MtX l.prog w K mg base C_Reader "single" k ["self"] sp) (Pt := fun k sp => MtX l.prog w K mg base C_Reader "parts" k ["self", "many"] sp)
    (fun h ⟨f, fd, h1, h2, h3, F, b⟩ => ⟨f, fd, h1, h2, h3, F.mono h, b⟩) (fun k => ⟨_, _, a7, i7, k7, fn_never, b_Reader_level⟩)
    (fun k n spI hI D => ⟨_, _, a5, i5, k5, ok_Reader_parts (P := l.prog) (w := w) (base := base) F_Reader_parts T D_BadRow_init D_Reader_need hI D, b_Reader_parts⟩)
    (fun k n D => ⟨_, _, a6, i6, k6, ok_Reader_single (P := l.prog) (w := w) (base := base) F_Reader_single T D_is_name D_Reader_took D, b_Reader_single⟩)
    (fun k n m spS spL hS hL DS DL => ⟨_, _, a7, i7, k7, ok_Reader_level (P := l.prog) (w := w) (base := base) F_Reader_level T D_Reader_took hS hL DS DL, b_Reader_level⟩) 8
  have F_Reader_whole := fun_mk (st := s_Reader_whole) l8 c8 k8
  have b_Reader_whole := F_Reader_whole.binds (ps := ["self"]) fun _ _ _ _ _ _ us hl => match us, hl with | [_], _ => rfl
  have D_Reader_whole : MtX l.prog w K mg base C_Reader "whole" 77 ["self"] (spWholeR K C_Reader C_BadRow) := ⟨_, _, a8, i8, k8, ok_Reader_whole (k0 := 72) (P := l.prog) (w := w) (base := base) F_Reader_whole T D_Reader_need tie, b_Reader_whole⟩
  have F_p_split := fun_mk (st := s_p_split) l9 c9 k9
  have b_p_split := F_p_split.binds (ps := ["text"]) fun _ _ _ _ _ _ us hl => match us, hl with | [_], _ => rfl
  have ht_S : ∀ (j : Nat) (u : Value), (#[.str "|" rt_SIGNS_0, .str "^" rt_SIGNS_1, .str "&" rt_SIGNS_2, .str "-" rt_SIGNS_3, .str "@" rt_SIGNS_4, .str "(" rt_SIGNS_5, .str ")" rt_SIGNS_6, .str "," rt_SIGNS_7] : Array Value)[j]? = some u → ∃ (y : Str) (t : Tok), u = .str y t ∧ t ≠ 0 ∧ t + 1 < 525 := by
    intro j u h
    match j, h with
    | 0, h => cases h; exact ⟨_, _, rfl, rk0⟩
    | 1, h => cases h; exact ⟨_, _, rfl, rk1⟩
    | 2, h => cases h; exact ⟨_, _, rfl, rk2⟩
    | 3, h => cases h; exact ⟨_, _, rfl, rk3⟩
    | 4, h => cases h; exact ⟨_, _, rfl, rk4⟩
    | 5, h => cases h; exact ⟨_, _, rfl, rk5⟩
    | 6, h => cases h; exact ⟨_, _, rfl, rk6⟩
    | 7, h => cases h; exact ⟨_, _, rfl, rk7⟩
    | n + 8, h => simp at h
  have hv_S : Vals (signsOf.map V.str) [Value.str "|" rt_SIGNS_0, .str "^" rt_SIGNS_1, .str "&" rt_SIGNS_2, .str "-" rt_SIGNS_3, .str "@" rt_SIGNS_4, .str "(" rt_SIGNS_5, .str ")" rt_SIGNS_6, .str "," rt_SIGNS_7] := .cons ⟨_, rfl⟩ (.cons ⟨_, rfl⟩ (.cons ⟨_, rfl⟩ (.cons ⟨_, rfl⟩ (.cons ⟨_, rfl⟩ (.cons ⟨_, rfl⟩ (.cons ⟨_, rfl⟩ (.cons ⟨_, rfl⟩ .nil)))))))
  have D_split : FnTb 525 l.prog w K mg base CX0 1 "_split" ["text"] spSplit := ⟨_, _, PySem.W.mg_of X G a9, okT_p_split (P := l.prog) (w := w) (base := base) F_p_split T y_SIGNS (PySem.W.mg_of X G z_SIGNS) hv_S ht_S, k9, b_p_split⟩
  have F_p_check_size := fun_mk (st := s_p_check_size) l10 c10 k10
  have b_p_check_size := F_p_check_size.binds (ps := ["text"]) fun _ _ _ _ _ _ us hl => match us, hl with | [_], _ => rfl
  have D_check : FnTb 1 l.prog w K mg base (L2.CX l.prog w) 3 "_check_size" ["text"] (spCheck C_BadRow) := ⟨_, _, PySem.W.mg_of X G a10, okT_p_check_size (P := l.prog) (w := w) (base := base) F_p_check_size T D_BadRow_init, k10, b_p_check_size⟩
  have F_read_expression := fun_mk (st := s_read_expression) l11 c11 k11
  have b_read_expression := F_read_expression.binds (ps := ["text"]) fun _ _ _ _ _ _ us hl => match us, hl with | [_], _ => rfl
  have D_read_e : FnTb 525 l.prog w K mg base (L2.CX l.prog w) 78 "read_expression" ["text"] (spReadE K C_BadRow) := ⟨_, _, PySem.W.mg_of X G a11, okT_read_expression (P := l.prog) (w := w) (base := base) (by decide) fits_of F_read_expression T D_check D_split D_Reader_init D_Reader_whole, k11, b_read_expression⟩
  have D_readK : FnTk 525 l.prog w K mg base (L2.CX l.prog w) 78 "read_expression" ["text"] ["text"] (spReadE K C_BadRow) := ⟨_, _, PySem.W.mg_of X G a11, okT_read_expression (P := l.prog) (w := w) (base := base) (by decide) fits_of F_read_expression T D_check D_split D_Reader_init D_Reader_whole, k11, ⟨fun s us ws X l1 l2 => match us, ws, l1, l2 with | [], [_], _, _ => BindsTo.of_eq rfl, fun r rz => r.append rz⟩⟩
  have F_words_of := fun_mk (st := s_words_of) l12 c12 k12
  have O_words_of := ok_words_of (P := l.prog) (w := w) (base := base) F_words_of T  
  have b_words_of := F_words_of.binds (ps := ["expression"]) fun _ _ _ _ _ _ us hl => match us, hl with | [_], _ => rfl
  have D_words_of : Fn l.prog w K mg base 1 "words_of" ["expression"] (spWords K) := ⟨_, _, PySem.W.mg_of X G a12, O_words_of, k12, b_words_of⟩
  have F_evaluated := fun_mk (st := s_evaluated) l13 c13 k13
  have b_evaluated := F_evaluated.binds (ps := ["words", "values", "step"]) fun _ _ _ _ _ _ us hl => match us, hl with | [_, _, _], _ => rfl
  have F_p_closed := fun_mk (st := s_p_closed) l14 c14 k14
  have O_p_closed := ok_p_closed (P := l.prog) (w := w) (base := base) F_p_closed T  
  have b_p_closed := F_p_closed.binds (ps := ["part", "level"]) fun _ _ _ _ _ _ us hl => match us, hl with | [_, _], _ => rfl
  have D_p_closed : Fn l.prog w K mg base 1 "_closed" ["part", "level"] (spClosed K) := ⟨_, _, PySem.W.mg_of X G a14, O_p_closed, k14, b_p_closed⟩
  have F_p_shown := fun_mk (st := s_p_shown) l15 c15 k15
  have O_p_shown := ok_p_shown (P := l.prog) (w := w) (base := base) F_p_shown T D_p_closed (fun r hr => by obtain rfl := Value.ref.inj (Option.some.inj (hr.symm.trans (PySem.W.mg_of X G z_OPERATORS))); exact ⟨_, y_OPERATORS, rfl, yd⟩)
  have b_p_shown := F_p_shown.binds (ps := ["word", "parts"]) fun _ _ _ _ _ _ us hl => match us, hl with | [_, _], _ => rfl
  have D_p_shown : Fn l.prog w K mg base 2 "_shown" ["word", "parts"] (spStepE (RP K) stpShowF) := ⟨_, _, PySem.W.mg_of X G a15, O_p_shown, k15, b_p_shown⟩
  have kdO : ∀ r, mg "OPERANDS" = some (.ref r) → KdOps K w r := fun r hr => by
    obtain rfl := Value.ref.inj (Option.some.inj (hr.symm.trans (PySem.W.mg_of X G z_OPERANDS)))
    exact kdOps_of yo yv0 yv1 yv2 yv3 yv4 yv5 yv6
  have D_evaluated : Fn l.prog w K mg base 3 "evaluated" ["words", "values", "step"] (spEval K (RP K) stpShowF f15) := ⟨_, _, PySem.W.mg_of X G a13, ok_evaluated (P := l.prog) (w := w) (base := base) F_evaluated T keeps_RP O_p_shown k15 b_p_shown kdO, k13, b_evaluated⟩
  have F_show_expression := fun_mk (st := s_show_expression) l16 c16 k16
  have O_show_expression := ok_show_expression (P := l.prog) (w := w) (base := base) F_show_expression T D_is_name D_words_of (PySem.W.mg_of X G a15) D_evaluated
  have b_show_expression := F_show_expression.binds (ps := ["expression"]) fun _ _ _ _ _ _ us hl => match us, hl with | [_], _ => rfl
  have D_show_expression : Fn l.prog w K mg base 4 "show_expression" ["expression"] (spShowE K) := ⟨_, _, PySem.W.mg_of X G a16, O_show_expression, k16, b_show_expression⟩
  have F_l_bag := fun_mk (st := s_l_bag) l17 c17 k17
  have O_l_bag := ok_l_bag (P := l.prog) (w := w) (base := base) F_l_bag T  
  have b_l_bag := F_l_bag.binds (ps := ["_law_script", "_law_at"]) fun _ _ _ _ _ _ us hl => match us, hl with | [_, _], _ => rfl
  have D_l_bag : Fn l.prog w K mg base 1 "_law_bag" ["_law_script", "_law_at"] (spBag K) := ⟨_, _, PySem.W.mg_of X G a17, O_l_bag, k17, b_l_bag⟩
  have F_l_take := fun_mk (st := s_l_take) l18 c18 k18
  have O_l_take := ok_l_take (P := l.prog) (w := w) (base := base) F_l_take T  
  have b_l_take := F_l_take.binds (ps := ["_law_bag_here", "_law_many"]) fun _ _ _ _ _ _ us hl => match us, hl with | [_, _], _ => rfl
  have D_l_take : Fn l.prog w K mg base 1 "_law_take" ["_law_bag_here", "_law_many"] spTake := ⟨_, _, PySem.W.mg_of X G a18, O_l_take, k18, b_l_take⟩
  have F_l_drawn := fun_mk (st := s_l_drawn) l19 c19 k19
  have b_l_drawn := F_l_drawn.binds (ps := ["_law_bag_here", "_law_deep"]) fun _ _ _ _ _ _ us hl => match us, hl with | [_, _], _ => rfl
  have D_l_drawn : Fn l.prog w K mg base 6 "_law_drawn" ["_law_bag_here", "_law_deep"] (spDrawnA K) := fn_tie (sp := fun j => spDrawn K j) (PySem.W.mg_of X G a19) k19 b_l_drawn (fun k0 j spS hS D => ok_l_drawn (P := l.prog) (w := w) (base := base) F_l_drawn T D_l_take hS D)
  have F_l_level := fun_mk (st := s_l_level) l20 c20 k20
  have O_l_level := ok_l_level (P := l.prog) (w := w) (base := base) F_l_level T  
  have b_l_level := F_l_level.binds (ps := ["_law_expression"]) fun _ _ _ _ _ _ us hl => match us, hl with | [_], _ => rfl
  have D_l_level : Fn l.prog w K mg base 1 "_law_level" ["_law_expression"] (spLevL K) := ⟨_, _, PySem.W.mg_of X G a20, O_l_level, k20, b_l_level⟩
  have F_l_tokens := fun_mk (st := s_l_tokens) l21 c21 k21
  have b_l_tokens := F_l_tokens.binds (ps := ["_law_bag_here", "_law_expression", "_law_way"]) fun _ _ _ _ _ _ us hl => match us, hl with | [_, _, _], _ => rfl
  have D_l_tokens : Fn l.prog w K mg base 6 "_law_tokens" ["_law_bag_here", "_law_expression", "_law_way"] (spToksA K) := fn_tie (sp := fun j => spToks K j) (PySem.W.mg_of X G a21) k21 b_l_tokens (fun k0 j spS hS D => ok_l_tokens (P := l.prog) (w := w) (base := base) F_l_tokens T D_l_take D_l_level hS D)
  have F_l_open := fun_mk (st := s_l_open) l22 c22 k22
  have O_l_open := ok_l_open (P := l.prog) (w := w) (base := base) F_l_open T  
  have b_l_open := F_l_open.binds (ps := ["_law_tokens_here"]) fun _ _ _ _ _ _ us hl => match us, hl with | [_], _ => rfl
  have D_l_open : Fn l.prog w K mg base 1 "_law_open" ["_law_tokens_here"] (spOpen K) := ⟨_, _, PySem.W.mg_of X G a22, O_l_open, k22, b_l_open⟩
  have F_l_spaced := fun_mk (st := s_l_spaced) l23 c23 k23
  have O_l_spaced := ok_l_spaced (P := l.prog) (w := w) (base := base) F_l_spaced T D_l_take 
  have b_l_spaced := F_l_spaced.binds (ps := ["_law_bag_here", "_law_tokens_here"]) fun _ _ _ _ _ _ us hl => match us, hl with | [_, _], _ => rfl
  have D_l_spaced : Fn l.prog w K mg base 2 "_law_spaced" ["_law_bag_here", "_law_tokens_here"] spSpacedE := ⟨_, _, PySem.W.mg_of X G a23, O_l_spaced, k23, b_l_spaced⟩
  have F_l_plain := fun_mk (st := s_l_plain) l24 c24 k24
  have O_l_plain := ok_l_plain (P := l.prog) (w := w) (base := base) F_l_plain T  
  have b_l_plain := F_l_plain.binds (ps := ["_law_tokens_here"]) fun _ _ _ _ _ _ us hl => match us, hl with | [_], _ => rfl
  have D_l_plain : Fn l.prog w K mg base 1 "_law_plain" ["_law_tokens_here"] spPlainE := ⟨_, _, PySem.W.mg_of X G a24, O_l_plain, k24, b_l_plain⟩
  have F_law := fun_mk (st := s_law) l25 c25 k25
  have b_law := F_law.binds (ps := ["_law_script"]) fun _ _ _ _ _ _ us hl => match us, hl with | [_], _ => rfl
  exact okT_law (P := l.prog) (w := w) (base := base) F_law T D_l_bag D_l_take D_l_drawn D_l_tokens D_show_expression D_l_open D_l_spaced D_l_plain D_read_e D_readK
theorem walk {l : PySem.W.OpenLaw} {q : Program} {loose : List Str} {XP : (Str → Option Value) → Heap → Prop} {as : List Addr} {N : Nat} {d : DefRec} {K : Params → PySem.W.Frag} (he : ∀ P, as = (K P).map (·.1)) (hn : l.most = some 63) (hdf : d.params.defaults = [])
    (F : ∀ (w : World) (mg : Str → Option Value) (fa : Addr) (h : Heap), (K w.params).In h → h.Ns mainGlobals mg → mg d.name = some (.ref fa) →
      ∃ fd : FuncData, (∀ (s : Shared) (u : Value), BindsTo s fd ⟨[u], []⟩ [("_law_script", u)]) ∧ ∀ base : Heap, (K w.params).In base → base.Ns mainGlobals mg → FnTG 525 l.prog w (K w.params) mg base CX0 81 fa fd ["_law_script"] (spLaw (K w.params))) :
    PySem.W.WalkX q loose XP (PySem.W.X.obsZ as) (PySem.W.X.valZ K N 525) l.row.toRowW d [] (fun f vs => PySem.call f vs) :=
  walkTG (n := 63) (k := 81) (x := "_law_script") (sp := fun w => spLaw (K w.params)) he hn (by decide) hdf ⟨rfl, by decide, by decide⟩ F (fun _ _ a ns hl _ hS => ⟨a, ns, rfl, hS, hl, fun _ => rfl⟩)
end My
open PySem PySem.W PySem.W.X PyProof.Rows in
set_option maxRecDepth 100000 in
set_option maxHeartbeats 0 in
theorem PySem.Challenge.cw_equalunlike_k09_expressions_read_and_wri_holds : PySem.Challenge.rw_equalunlike_k09_expressions_read_and_wri.Holds := by
  w_on; o_law; z_head; (case hw => w_witness2)
  k_fill
  refine My.walk (l := PySem.Challenge.rw_equalunlike_k09_expressions_read_and_wri) ?he rfl rfl ?F
  case he => intro P; first | rfl | kernel_rfl
  case F =>
    intro w mg fa h KX G hmg
    refine' My.all_mk KX G hmg ?aB ?aCR ?lB ?saB ?exB ?tyB ?kB ?nvB ?pgR ?hdR ?poR ?saR ?hnw_Reader ?hna_Reader ?hnd_Reader ?a0 ?l0 ?c0 ?k0 ?a1 ?i1 ?ty1 ?l1 ?c1 ?k1 ?a2 ?i2 ?l2 ?c2 ?k2 ?a3 ?i3 ?l3 ?c3 ?k3 ?a4 ?i4 ?l4 ?c4 ?k4 ?a5 ?i5 ?l5 ?c5 ?k5 ?a6 ?i6 ?l6 ?c6 ?k6 ?a7 ?i7 ?l7 ?c7 ?k7 ?a8 ?i8 ?l8 ?c8 ?k8 ?a9 ?l9 ?c9 ?k9 ?a10 ?l10 ?c10 ?k10 ?a11 ?l11 ?c11 ?k11 ?a12 ?l12 ?c12 ?k12 ?a13 ?l13 ?c13 ?k13 ?a14 ?l14 ?c14 ?k14 ?a15 ?l15 ?c15 ?k15 ?a16 ?l16 ?c16 ?k16 ?a17 ?l17 ?c17 ?k17 ?a18 ?l18 ?c18 ?k18 ?a19 ?l19 ?c19 ?k19 ?a20 ?l20 ?c20 ?k20 ?a21 ?l21 ?c21 ?k21 ?a22 ?l22 ?c22 ?k22 ?a23 ?l23 ?c23 ?k23 ?a24 ?l24 ?c24 ?k24 ?a25 ?l25 ?c25 ?k25 ?mk_Reader ?kp_Reader ?rk0 ?rk1 ?rk2 ?rk3 ?rk4 ?rk5 ?rk6 ?rk7 ?yo ?yv0 ?yv1 ?yv2 ?yv3 ?yv4 ?yv5 ?yv6 ?yd ?z_abs ?z_all ?z_int ?z_isinstance ?z_len ?z_max ?z_min ?z_range ?z_repr ?z_str ?z_LETTERS ?z_MOST_LETTERS ?z_RESERVED ?y_RESERVED ?z_OPERANDS ?z_OPERATORS ?y_OPERATORS ?z_SIGNS ?y_SIGNS ?z_MOST_CHARACTERS ?z_MOST_OPEN ?z_END
    (case aB => k_is)
    (case aCR => k_is)
    (case lB => k_is)
    (case saB => k_is)
    (case exB => k_is)
    (case tyB => k_is)
    (case kB => k_is)
    (case nvB => k_is)
    (case pgR => k_is)
    (case hdR => k_is)
    (case poR => k_is)
    (case saR => k_is)
    (case hnw_Reader => k_is)
    (case hna_Reader => k_is)
    (case hnd_Reader => k_is)
    (case a0 => k_is)
    (case l0 => k_is)
    (case c0 => k_is)
    (case k0 => k_is)
    (case a1 => k_is)
    (case i1 => k_is)
    (case ty1 => k_is)
    (case l1 => k_is)
    (case c1 => k_is)
    (case k1 => k_is)
    (case a2 => k_is)
    (case i2 => k_is)
    (case l2 => k_is)
    (case c2 => k_is)
    (case k2 => k_is)
    (case a3 => k_is)
    (case i3 => k_is)
    (case l3 => k_is)
    (case c3 => k_is)
    (case k3 => k_is)
    (case a4 => k_is)
    (case i4 => k_is)
    (case l4 => k_is)
    (case c4 => k_is)
    (case k4 => k_is)
    (case a5 => k_is)
    (case i5 => k_is)
    (case l5 => k_is)
    (case c5 => k_is)
    (case k5 => k_is)
    (case a6 => k_is)
    (case i6 => k_is)
    (case l6 => k_is)
    (case c6 => k_is)
    (case k6 => k_is)
    (case a7 => k_is)
    (case i7 => k_is)
    (case l7 => k_is)
    (case c7 => k_is)
    (case k7 => k_is)
    (case a8 => k_is)
    (case i8 => k_is)
    (case l8 => k_is)
    (case c8 => k_is)
    (case k8 => k_is)
    (case a9 => k_is)
    (case l9 => k_is)
    (case c9 => k_is)
    (case k9 => k_is)
    (case a10 => k_is)
    (case l10 => k_is)
    (case c10 => k_is)
    (case k10 => k_is)
    (case a11 => k_is)
    (case l11 => k_is)
    (case c11 => k_is)
    (case k11 => k_is)
    (case a12 => k_is)
    (case l12 => k_is)
    (case c12 => k_is)
    (case k12 => k_is)
    (case a13 => k_is)
    (case l13 => k_is)
    (case c13 => k_is)
    (case k13 => k_is)
    (case a14 => k_is)
    (case l14 => k_is)
    (case c14 => k_is)
    (case k14 => k_is)
    (case a15 => k_is)
    (case l15 => k_is)
    (case c15 => k_is)
    (case k15 => k_is)
    (case a16 => k_is)
    (case l16 => k_is)
    (case c16 => k_is)
    (case k16 => k_is)
    (case a17 => k_is)
    (case l17 => k_is)
    (case c17 => k_is)
    (case k17 => k_is)
    (case a18 => k_is)
    (case l18 => k_is)
    (case c18 => k_is)
    (case k18 => k_is)
    (case a19 => k_is)
    (case l19 => k_is)
    (case c19 => k_is)
    (case k19 => k_is)
    (case a20 => k_is)
    (case l20 => k_is)
    (case c20 => k_is)
    (case k20 => k_is)
    (case a21 => k_is)
    (case l21 => k_is)
    (case c21 => k_is)
    (case k21 => k_is)
    (case a22 => k_is)
    (case l22 => k_is)
    (case c22 => k_is)
    (case k22 => k_is)
    (case a23 => k_is)
    (case l23 => k_is)
    (case c23 => k_is)
    (case k23 => k_is)
    (case a24 => k_is)
    (case l24 => k_is)
    (case c24 => k_is)
    (case k24 => k_is)
    (case a25 => k_is)
    (case l25 => k_is)
    (case c25 => k_is)
    (case k25 => k_is)
    (case mk_Reader => k_is)
    (case kp_Reader => k_is)
    (case z_abs => k_is)
    (case z_all => k_is)
    (case z_int => k_is)
    (case z_isinstance => k_is)
    (case z_len => k_is)
    (case z_max => k_is)
    (case z_min => k_is)
    (case z_range => k_is)
    (case z_repr => k_is)
    (case z_str => k_is)
    (case z_LETTERS => k_is)
    (case z_MOST_LETTERS => k_is)
    (case z_RESERVED => k_is)
    (case y_RESERVED => k_is)
    (case z_OPERANDS => k_is)
    (case z_OPERATORS => k_is)
    (case y_OPERATORS => k_is)
    (case z_SIGNS => k_is)
    (case y_SIGNS => k_is)
    (case z_MOST_CHARACTERS => k_is)
    (case z_MOST_OPEN => k_is)
    (case z_END => k_is)
    (case rk0 => first | decide | exact ⟨Nat.succ_ne_zero _, by decide⟩)
    (case rk1 => first | decide | exact ⟨Nat.succ_ne_zero _, by decide⟩)
    (case rk2 => first | decide | exact ⟨Nat.succ_ne_zero _, by decide⟩)
    (case rk3 => first | decide | exact ⟨Nat.succ_ne_zero _, by decide⟩)
    (case rk4 => first | decide | exact ⟨Nat.succ_ne_zero _, by decide⟩)
    (case rk5 => first | decide | exact ⟨Nat.succ_ne_zero _, by decide⟩)
    (case rk6 => first | decide | exact ⟨Nat.succ_ne_zero _, by decide⟩)
    (case rk7 => first | decide | exact ⟨Nat.succ_ne_zero _, by decide⟩)
    (case yo => first | kernel_rfl | rfl | decide)
    (case yv0 => k_is)
    (case yv1 => k_is)
    (case yv2 => k_is)
    (case yv3 => k_is)
    (case yv4 => k_is)
    (case yv5 => k_is)
    (case yv6 => k_is)
    (case yd => rfl)
