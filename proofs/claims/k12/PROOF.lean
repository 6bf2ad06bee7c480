import PyProof.Rows.All
import Wide.All
import OpenK.AllK
import Wide.FinOn
import PyProof.ExcBaseAll.LookupError
import PyProof.ExcBaseAll.IndexError
import PyProof.ExcBaseAll.TypeError
import PyProof.ExcBaseAll.OverflowError
import KE.KExcInit
import HandS.ExcInit
import HandS.ForMost
import HandS.IsInst
import HandS.TupAny
import HandS.RaiseMore
import HandS.DictComp
import HandS.SetKeys
import HandS.Star
import HandS.Defaults
import HandS.WordsExc
import HandS.ExcOwn
import HandS.SetFor
import PyProof.SeqIndex
import HandS.SortOrd
import HandS.DictTup
import PySem.Str
import KE.OsSort
import HandS.DeepEq
import HandS.MakeKw
import HandS.ListItems
import HandS.Zip
import HandS.GenList
import HandS.ExcIs
import HandS.ExcField
import HandS.Walk
import HandS.FStr
import HandS.Text
import KE.KCallOwn
import PyProof.FitsInt
import HandS.MakeKwOnly
import PyProof.ToksMono
import OpenK.ZGo
import HandS.Words
import HandS.Replace
import PyProof.Rows.StrSplitAre
import PyProof.Rows.StrStrike
import HandS.StrMore
import PyProof.Rows.StrCut
import PyProof.Rows.StrFit
import PyProof.NeData
import PyProof.StrOps2
import KE.KExcPX
import HandS.Base
import HandS.Call
import HandS.Exc
import HandS.TryOnly
import PyProof.StrLoop
import KE.KUnpackStar
import HandS.Flow
import HandS.ExcValue
import HandS.CallLocal
import HandS.Strs
import HandS.HeadHook3
import HandS.Deep
import HandS.Style
import HandS.Comp
import KE.KNest
import HandS.Lambda
import HandS.EndBits
import PyProof.SetRoads
import PyProof.Rows.SetFrom
import HandS.More
import PySem.Challenge.RW_equalunlike_k12_rows_read
set_option Elab.async false
set_option maxRecDepth 100000
set_option maxHeartbeats 4000000
set_option linter.unusedVariables false
namespace My
open PySem PySem.HandSPX
open Builtin Builtin.ObjectAttr
section
variable {M : Model} {A : Around} {E : Value → Shared → Prop} {h : Heap} {g : Array GenState} {d : Drawn} {t : Nat} {os : OsState}
variable {nm q : Str} {C N : Addr} {bs bm bmB : List Value} {hdct : Bool} {sn : List Str} {sub : List Value} {ab : Bool} {col : Option Bool} {dd : Option Addr} {k0 k1 k2 k3 k5 : Option Value} {B newId initId : String}
theorem checkNewX (F : ExcBaseFacts B newId initId bmB) (hB : bm.contains (.type B) = true) {rest : List Value} {Q : Unit → Shared → Prop}
    (hC : h.get? C = some (excClassObj nm q C N bs bm hdct sn sub ab col dd k0 k1 k2 k3 k5 newId)) (hq : Q () ⟨h, g, d, t, os⟩) : wpAny M A (checkBuiltinCall newId ⟨.ref C :: rest, []⟩) Q E ⟨h, g, d, t, os⟩ := by
  have hcont : (Value.ref C :: bm).contains (.type B) = true := by rw [List.contains_cons, hB, Bool.or_true]
  have hstar := F.noStar
  simp only [checkBuiltinCall, F.newKind, F.newSplit, F.newRow]
  repeat (first | refine wpAny_loadPart_at hC ?_ | (refine wpAny_isSubtype_exc hC ?_; rw [hcont]) | refine wpAny_staticBase_exc hC ?_ | refine wpAny_madeBy_exc hC ?_ | simp only [bne_self_eq_false, Bool.false_eq_true, if_false] | wp_step)
  exact hq
end
section
variable {prog : Program} {w : World} {A : Around} {E : Value → Shared → Prop} {R : Result → Shared → Prop} {h : Heap} {g : Array GenState} {d : Drawn} {t : Nat} {os : OsState}
variable {nm q : Str} {C N : Addr} {bs bm bmB : List Value} {hdct : Bool} {sn : List Str} {sub : List Value} {ab : Bool} {col : Option Bool} {dd : Option Addr} {k0 k1 k2 k3 k5 : Option Value} {B newId initId : String}
theorem newX (F : ExcBaseFacts B newId initId bmB) (hB : bm.contains (.type B) = true) (hA : bm.contains (.type "AttributeError") = false) (hN : bm.contains (.type "NameError") = false) {rest : List Value}
    (hC : h.get? C = some (excClassObj nm q C N bs bm hdct sn sub ab col dd k0 k1 k2 k3 k5 newId))
    (hq : R (.ok (.ret (.ref (h.objs.size + 1)))) ⟨(h.push { cls := .type "tuple", data := .seq rest.toArray }).push
      { cls := .ref C, data := .fields #[.ref h.objs.size, .none, .none, .none, .bool false, .none] }, g, d, t, os⟩) (hrest : rest.length ≤ sizeLine) :
    codeAny (model prog w) A (.builtin newId ⟨.ref C :: rest, []⟩) R ⟨h, g, d, t, os⟩ := by
  have hends := F.ends
  have hcB : (Value.ref C :: bm).contains (.type B) = true := by rw [List.contains_cons, hB, Bool.or_true]
  have hcA : (Value.ref C :: bm).contains (.type "AttributeError") = false := by rw [List.contains_cons, hA]; rfl
  have hcN : (Value.ref C :: bm).contains (.type "NameError") = false := by rw [List.contains_cons, hN]; rfl
  refine codeAny_builtinAt F.entry ?_
  unfold Builtin.«BaseException.__new__»
  refine wpAt_bind ?_
  show wpAt _ _ _ (stack >>= _) _ _ _
  refine wpAt_bind (wpAt_stack fun p below => wpAt_of_wpAny ?_)
  wp_walk
  refine wpAt_of_wpAny ?_
  rw [F.owner]
  repeat (first | with_reducible refine wpAny_madeHere_exc F.canon hC ?_ | with_reducible refine wpAny_loadPart_at hC ?_ | (with_reducible refine wpAny_isSubtype_exc hC ?_; first | rw [hcB] | rw [hcA] | rw [hcN]) | wp_step)
  show R _ _
  rw [Heap.size_push]
  exact hq
theorem typeCallX (F : ExcBaseFacts B newId initId bmB) (hB : bm.contains (.type B) = true) (hA : bm.contains (.type "AttributeError") = false) (hN : bm.contains (.type "NameError") = false) {rest : List Value} {fI : Addr} {Q : Fin → Shared → Prop}
    (hC : h.get? C = some (excClassObj nm q C N bs bm hdct sn sub ab col dd k0 k1 k2 k3 k5 newId))
    (hi : W.Looks (model prog w) h (typeLookup (.ref C) "__init__") (some (.ref fI))) (hb : ∀ self, W.Looks (model prog w) h (bindSpecial (.ref fI) self) (.ref fI, [self])) (hrest : rest.length ≤ sizeLine)
    (hq : codeAny (model prog w) A (.call (.ref fI) ⟨.ref (h.objs.size + 1) :: rest, []⟩)
      (fun r s' => match r with | .ok (.ret v) => v = .none ∧ Q (.done (.ret (.ref (h.objs.size + 1)))) s' | .ok _ => False | .error e => E e s')
      ⟨(h.push (W.kdv_tup rest)).push (excO C h.objs.size), g, d, t, os⟩) :
    wpAny (model prog w) A (Builtin.«type.__call__» ⟨.ref C :: rest, []⟩) Q E ⟨h, g, d, t, os⟩ := by
  repeat (first | with_reducible refine wpAny_loadPart_at hC ?_ | with_reducible refine wpAny_madeBy_exc hC ?_ | wp_step)
  refine codeAny_call_builtin_code (Code.quiet_builtin _ F.quiet) (checkNewX F hB hC ?_)
  refine newX F hB hA hN hC ?_ hrest
  show wpAny _ _ _ _ _ _
  have k : ∀ b o, h.get? b = some o → ((h.push (W.kdv_tup rest)).push (excO C h.objs.size)).get? b = some o := fun b o e => Heap.get?_push_of_some _ (Heap.get?_push_of_some _ e)
  have hC₁ := k _ _ hC
  have hget : ((h.push (W.kdv_tup rest)).push (excO C h.objs.size)).get? (h.objs.size + 1) = some (excO C h.objs.size) := by heap_get
  have hcC : (Value.ref C :: bm).contains (.ref C) = true := by simp
  have i1 := hi.keeps k
  have b1 := (hb (.ref (h.objs.size + 1))).keeps k
  unfold isInstance
  repeat (first | with_reducible refine wpAny_loadPart_at hget ?_ | (with_reducible refine wpAny_isSubtype_exc hC₁ ?_; rw [hcC]) | wp_step)
  show wpAny _ _ (typeLookup (.ref C) _) _ _ _
  refine i1.at ?_
  refine wpAny_holding (wpAny_bind (b1.at ?_))
  refine wpAny_bind (wpAny_call (codeAny_mono hq fun r s' z => ?_))
  rcases r with e | (v | _ | _ | _) <;> first | exact z | exact z.elim | skip
  obtain ⟨rfl, z⟩ := z
  first
    | exact wpAny_pure (wpAny_pure z)
    | (wp_walk; exact z)
theorem callX (F : ExcBaseFacts B newId initId bmB) (hB : bm.contains (.type B) = true) (hA : bm.contains (.type "AttributeError") = false) (hN : bm.contains (.type "NameError") = false) {rest : List Value} {fI : Addr}
    (hC : h.get? C = some (excClassObj nm q C N bs bm hdct sn sub ab col dd k0 k1 k2 k3 k5 newId))
    (hi : W.Looks (model prog w) h (typeLookup (.ref C) "__init__") (some (.ref fI))) (hb : ∀ self, W.Looks (model prog w) h (bindSpecial (.ref fI) self) (.ref fI, [self])) (hrest : rest.length ≤ sizeLine)
    (hq : codeAny (model prog w) (A.under (.builtin "type.__call__" ⟨.ref C :: rest, []⟩)) (.call (.ref fI) ⟨.ref (h.objs.size + 1) :: rest, []⟩) (W.InitBack (h.objs.size + 1) R)
      ⟨(h.push (W.kdv_tup rest)).push (excO C h.objs.size), g, d, t, os⟩) :
    codeAny (model prog w) A (.call (.ref C) ⟨rest, []⟩) R ⟨h, g, d, t, os⟩ := by
  have f1 := tc_lookup
  have f2 := tc_bind (.ref C)
  have hTy : (⟨h, g, d, t, os⟩ : Shared).TypeIs (.ref C) "type" := ⟨_, hC, rfl⟩
  refine codeAny_of_tree ?_
  show wpAny _ _ (callAny (.ref C) _) _ _ _
  repeat (any_goals (first | assumption | with_reducible refine wpAny_loadPart_at hC ?_ | wp_step))
  refine ⟨rfl, ?_⟩
  refine codeAny_call_builtin_at (Code.quiet_builtin _ (by decide +kernel)) entry_typeCall (wpAny_check_type_call_sub hC (typeCallX F hB hA hN hC hi hb hrest ?_))
  refine codeAny_mono hq fun r s' z => ?_
  rcases r with e | (v | _ | _ | _) <;> exact z
end
end My
namespace My
open PySem PySem.W PySem.Calls PyProof.Rows PySem.HandSPX
section
open Builtin Builtin.ObjectAttr
variable {prog : Program} {w : World} {A : Around} {E : Value → Shared → Prop} {R : Result → Shared → Prop} {hp : Heap} {g : Array GenState} {d : Drawn} {t : Nat} {os : OsState}
structure Stores (mro : List Value) : Prop where
  ne : mro.isEmpty = false
  obj : mro.contains (.type "object") = true
  pass : ∀ self, refuseLoop self "__setattr__" mro = pure ()
theorem storeX_first {K : W.Frag} {name : Str} {tk : Tok} {v : Value} {x C : Addr} {fv : Array Value} {cd : ClassData}
    (X : K.In hp) (hx : hp.get? x = some { cls := .ref C, data := .fields fv }) (hcd : W.clsIn K C = some cd) (hm : Stores cd.mro) (hh : cd.hasDict = true) (ha : W.findIn K (.ref C) name = some none)
    (hq : ∀ h' tk' dx, (∀ b o, b ≠ x → hp.get? b = some o → h'.get? b = some o) → hp.objs.size ≤ dx → dx ≠ x → h'.get? x = some { cls := .ref C, dict := some dx, data := .fields fv } →
      h'.Ns1 dx (fun y => if y = name then some v else none) → R (.ok (.ret .none)) ⟨h', g, d, tk', os⟩) :
    codeAny (model prog w) A (.call (.builtin "object.__setattr__") ⟨[.ref x, .str name tk, v], []⟩) R ⟨hp, g, d, t, os⟩ := by
  have I : W.InstAt hp x { cls := .ref C, data := .fields fv } C none := ⟨hx, rfl, rfl, trivial⟩
  have SF := F.store_object
  have hxs : x ≠ hp.objs.size := Nat.ne_of_lt (Heap.lt_size hx)
  have sub : W.Looks (model prog w) hp (isInstance (.ref x) (.type "object")) true := I.type.andThen (W.looks_mroIn X (by unfold W.mroIn; rw [hcd, Option.bind_some, if_neg (by rw [hm.ne]; decide), hm.obj]))
  refine codeAny_call_builtin SF.slot.plain SF.entry (@W.check_slot (model prog w) _ _ ⟨hp, g, d, t, os⟩ "object.__setattr__" "object" "__setattr__" (.ref x) [.str name tk, v] [] _ SF.kind SF.split sub (SF.args (.ref x) (.str name tk) v) ?_)
  have hmr : W.Looks (model prog w) hp (mroOf (.ref C)) cd.mro := (W.looks_clsIn X hcd).andThen .now
  have L3 : W.Looks (model prog w) hp (storeTaker? none) none := .now
  have hcls : W.Looks (model prog w) hp (classData C) cd := W.looks_clsIn X hcd
  rw [W.osa_eq, refuse_eq]
  refine wpAny_bind (wpAny_bind (I.type.at (wpAny_bind (hmr.at ?_))))
  rw [hm.pass]
  refine wpAny_pure (wpAny_bind (I.type.at (wpAny_bind ((W.looks_findIn X ha).at (wpAny_bind (L3.at ?_))))))
  show wpAny _ _ (storeInOwnDict (.ref x) (.ref C) (.str name tk) name v false) _ _ _
  obtain ⟨nm, bs, mro, ns, qn, hd, sn, sb, ab, col, del⟩ := cd
  dsimp only at hh
  subst hh
  unfold storeInOwnDict ownDictForStores
  repeat (first | with_reducible refine store_in_new ?_ ?_ | with_reducible refine wpAny_loadPart_at hx ?_ | with_reducible refine hcls.at ?_ | wp_step)
  · exact ⟨_, #[], _, (Heap.get?_update_ne _ _ _ _ hxs.symm).trans (Heap.get?_push_at rfl rfl), rfl, fun e he => absurd he (by simp), fun _ => rfl⟩
  · intro h' tk' hn' hs
    have hx₁ : (hp.push { cls := .type "dict", data := .dict #[] }).get? x = some { cls := .ref C, data := .fields fv } := Heap.get?_push_of_some _ hx
    refine hq h' tk' hp.objs.size (fun b o hb ho => ?_) (Nat.le_refl _) hxs.symm ?_ hn'
    · exact (hs.2 b (Nat.ne_of_lt (Heap.lt_size ho))).trans ((Heap.get?_update_ne _ _ _ _ hb).trans (Heap.get?_push_of_some _ ho))
    · exact (hs.2 x hxs).trans (Heap.get?_update_self _ hx₁ rfl)
theorem storeX_more {K : W.Frag} {name : Str} {tk : Tok} {v : Value} {x C dx : Addr} {fv : Array Value} {cd : ClassData} {m0 : Str → Option Value} {nl : List Str}
    (X : K.In hp) (hx : hp.get? x = some { cls := .ref C, dict := some dx, data := .fields fv }) (hns : hp.Ns1 dx m0) (hw : Within m0 nl) (hz : nl.length ≤ 1000) (hcd : W.clsIn K C = some cd) (hm : Stores cd.mro) (hh : cd.hasDict = true)
    (ha : W.findIn K (.ref C) name = some none)
    (hq : ∀ h' tk', (∀ b o, b ≠ dx → hp.get? b = some o → h'.get? b = some o) → h'.Ns1 dx (fun y => if y = name then some v else m0 y) → R (.ok (.ret .none)) ⟨h', g, d, tk', os⟩) :
    codeAny (model prog w) A (.call (.builtin "object.__setattr__") ⟨[.ref x, .str name tk, v], []⟩) R ⟨hp, g, d, t, os⟩ := by
  obtain ⟨oD, esD, epD, hoD, hdD, _⟩ := hns.count hw
  have I : W.InstAt hp x { cls := .ref C, dict := some dx, data := .fields fv } C (some oD) := ⟨hx, rfl, rfl, hoD⟩
  have SF := F.store_object
  have sub : W.Looks (model prog w) hp (isInstance (.ref x) (.type "object")) true := I.type.andThen (W.looks_mroIn X (by unfold W.mroIn; rw [hcd, Option.bind_some, if_neg (by rw [hm.ne]; decide), hm.obj]))
  refine codeAny_call_builtin SF.slot.plain SF.entry (@W.check_slot (model prog w) _ _ ⟨hp, g, d, t, os⟩ "object.__setattr__" "object" "__setattr__" (.ref x) [.str name tk, v] [] _ SF.kind SF.split sub (SF.args (.ref x) (.str name tk) v) ?_)
  have hmr : W.Looks (model prog w) hp (mroOf (.ref C)) cd.mro := (W.looks_clsIn X hcd).andThen .now
  have L3 : W.Looks (model prog w) hp (storeTaker? none) none := .now
  have hcls : W.Looks (model prog w) hp (classData C) cd := W.looks_clsIn X hcd
  rw [W.osa_eq, refuse_eq]
  refine wpAny_bind (wpAny_bind (I.type.at (wpAny_bind (hmr.at ?_))))
  rw [hm.pass]
  refine wpAny_pure (wpAny_bind (I.type.at (wpAny_bind ((W.looks_findIn X ha).at (wpAny_bind (L3.at ?_))))))
  show wpAny _ _ (storeInOwnDict (.ref x) (.ref C) (.str name tk) name v false) _ _ _
  obtain ⟨nm, bs, mro, ns, qn, hd, sn, sb, ab, col, del⟩ := cd
  dsimp only at hh
  subst hh
  unfold storeInOwnDict ownDictForStores
  repeat (first | with_reducible refine PySem.OEX.store_in_old hns hw hz ?_ | with_reducible refine wpAny_loadPart_at hx ?_ | with_reducible refine hcls.at ?_ | wp_step)
  intro h' tk' hn' hs
  exact hq h' tk' (fun b o hb ho => (hs.2 b hb).trans ho) hn'
end
end My
set_option Elab.async false
set_option maxRecDepth 100000
set_option maxHeartbeats 4000000
set_option linter.unusedVariables false
namespace My
open PySem PySem.Spec PyProof.Rows L2
structure OwnX (K : PySem.W.Frag) (C : Addr) : Prop where
  cls : ∃ nm q N bs bm sn sub ab col dd k0 k1 k2 k3 k5 B newId initId bmB, K.lookup C = some (excClassObj nm q C N bs bm true sn sub ab col dd k0 k1 k2 k3 k5 newId) ∧ ExcBaseFacts B newId initId bmB ∧
    bm.contains (.type B) = true ∧ bm.contains (.type "AttributeError") = false ∧ bm.contains (.type "NameError") = false ∧ Stores (.ref C :: bm)
  sa : PySem.W.findIn K (.ref C) "__setattr__" = some (some (.builtin "object.__setattr__"))
  exC : PySem.W.subIn K (.ref C) (.type "BaseException") = some true
  tyC : PySem.W.typeIn K (.ref C) = some (.type "type")
  kC : PySem.W.keepIn K (.ref C) = true
section
variable {X : Cx} {pins : List (Addr × Obj)} {σ : L2.St} {H : Hp} {s : Shared} {a C dx : Addr} {f : Str} {y : V} {u : Value} {fs : List (Str × V)} {Q : Unit → Shared → Prop} {E : Value → Shared → Prop} {A : Around}
theorem putX_first (T : OwnX X.K C) (I : Inv X pins σ H s) (e : H a = some (exo a C none)) (hno : PySem.W.findIn X.K (.ref C) f = some none) (ry : RelV y u)
    (h : ∀ dx s', H dx = none → dx ≠ a → Inv X pins σ (upd (upd H dx (exd dx [(f, y)])) a (exo a C (some dx))) s' → Q () s') : wpAny (model X.prog X.w) A (setAttr (.ref a) f u) Q E s := by
  obtain ⟨nm, q, N, bs, bm, sn, sub, ab, col, dd, k0, k1, k2, k3, k5, B, newId, initId, bmB, hC, _, _, _, _, hst⟩ := T.cls
  have hcl : PySem.W.clsIn X.K C = some { name := nm, bases := bs, mro := .ref C :: bm, ns := N, qualname := q, hasDict := true, slotNames := sn, subclasses := sub, abstract := ab, collection := col, hasDel := false } := by unfold PySem.W.clsIn; rw [hC] <;> rfl
  obtain ⟨t1, ho⟩ := exo_at I.hok e
  obtain ⟨hp, g, d, t, os⟩ := s
  refine PySem.W.set_plain I.kIn (ox := { cls := .ref C, dict := none, data := .fields #[.ref t1, .none, .none, .none, .bool false, .none] }) (od := none) ⟨ho, rfl, rfl, trivial⟩ T.sa ?_
  refine storeX_first I.kIn ho hcl hst rfl hno (fun h' tk' dx k dn dne hx hn => ?_)
  have hnd : H dx = none := I.hok.fresh dn
  have nd : ∀ {b : Addr} {o : Obj}, hp.get? b = some o → b ≠ dx := fun {b o} q => Nat.ne_of_lt (Nat.lt_of_lt_of_le (Heap.lt_size q) dn)
  have na : ∀ {b : Addr}, H b = none → b ≠ a := fun {b} n z => by
    rw [z, e] at n
    cases n
  have Un1 : Un X.fs [] H (upd (upd H dx (exd dx [(f, y)])) a (exo a C (some dx))) hp h' := {
    keep := fun b o q n _ _ => k b o (na n) q
    slot := fun b o q n _ _ => ⟨o.slots, k b o (na n) q⟩
    free := fun b o q n _ => by rw [upd_ne (na n), upd_ne (nd q)]; exact n
    there := fun b o q _ => by
      by_cases hb : b = a
      · exact ⟨_, by rw [hb]; exact hx⟩
      · exact ⟨o, k b o hb q⟩
    tups := fun b xs q => by rw [upd_ne (at_ne e q exo_tup), upd_ne (ne_of_none q hnd)]; exact q
    frzs := fun b o v q => by rw [upd_ne (at_ne e q exo_frz), upd_ne (ne_of_none q hnd)]; exact q
    tbls := fun b ps q => ⟨#[], by rw [upd_ne (at_ne e q exo_tbl), upd_ne (ne_of_none q hnd), q]; simp⟩ }
  refine h dx _ hnd dne (I.un (t' := tk') Un1 fun b o q => ?_)
  by_cases hb : b = a
  · subst hb
    rw [upd_same] at q
    cases q
    exact exo_ok hx
  · rw [upd_ne hb] at q
    by_cases hd : b = dx
    · subst hd
      rw [upd_same] at q
      cases q
      exact exd_ok hn (relO_put (fs := []) ry fun g => True.intro)
    · rw [upd_ne hd] at q
      exact (I.hok b o q).stay (fun c v hc z => k c v (by
          rcases hc with hc | hc
          · rw [hc]
            exact hb
          · exact at_ne e hc exo_own) z)
        (fun c hc => by rw [upd_ne (at_ne e hc exo_own), upd_ne (ne_of_none hc hnd)]; exact hc) (fun c xs hc => by rw [upd_ne (at_ne e hc exo_tup), upd_ne (ne_of_none hc hnd)]; exact hc)
theorem putX_more (T : OwnX X.K C) (I : Inv X pins σ H s) (e : H a = some (exo a C (some dx))) (ed : H dx = some (exd dx fs)) (hl : fs.length ≤ 900) (hno : PySem.W.findIn X.K (.ref C) f = some none) (ry : RelV y u)
    (h : ∀ s', Inv X pins σ (upd H dx (exd dx ((f, y) :: fs))) s' → Q () s') : wpAny (model X.prog X.w) A (setAttr (.ref a) f u) Q E s := by
  obtain ⟨nm, q, N, bs, bm, sn, sub, ab, col, dd, k0, k1, k2, k3, k5, B, newId, initId, bmB, hC, _, _, _, _, hst⟩ := T.cls
  have hcl : PySem.W.clsIn X.K C = some { name := nm, bases := bs, mro := .ref C :: bm, ns := N, qualname := q, hasDict := true, slotNames := sn, subclasses := sub, abstract := ab, collection := col, hasDel := false } := by unfold PySem.W.clsIn; rw [hC] <;> rfl
  obtain ⟨t1, ho⟩ := exo_at I.hok e
  obtain ⟨mA, hns, rel⟩ := exd_at I.hok ed
  have hw := within_of rel
  obtain ⟨hp, g, d, t, os⟩ := s
  obtain ⟨oD, _, _, hoD, _, _⟩ := hns.count hw
  refine PySem.W.set_plain I.kIn (ox := { cls := .ref C, dict := some dx, data := .fields #[.ref t1, .none, .none, .none, .bool false, .none] }) (od := some oD) ⟨ho, rfl, rfl, hoD⟩ T.sa ?_
  refine storeX_more I.kIn ho hns hw (by rw [List.length_map]; omega) hcl hst rfl hno (fun h' tk' k hn => ?_)
  have hd : ∃ o, h'.get? dx = some o := by
    obtain ⟨o, _, _, e', _⟩ := hn
    exact ⟨o, e'⟩
  exact h _ (I.write (t' := tk') (x := dx) (e := dx) (o := exd dx ((f, y) :: fs)) (by rw [ed]; exact True.intro) (.inl rfl) k hd (exd_ok hn (relO_put ry rel)))
end
def tPutX (K : PySem.W.Frag) (f : Str) (to te : TE) : TS := fun D σ H => te σ H fun y H1 => to σ H1 fun x H2 => ∃ a C : Addr, x = .ref a ∧ OwnX K C ∧ PySem.W.findIn K (.ref C) f = some none ∧
  ((H2 a = some (exo a C none) ∧ ∀ dx, H2 dx = none → dx ≠ a → D.nx σ (upd (upd H2 dx (exd dx [(f, y)])) a (exo a C (some dx)))) ∨
    ∃ (dx : Addr) (fs : List (Str × V)), H2 a = some (exo a C (some dx)) ∧ H2 dx = some (exd dx fs) ∧ fs.length ≤ 900 ∧ D.nx σ (upd H2 dx (exd dx ((f, y) :: fs))))
section
variable {X : Cx} {C fI : Addr} {k : Nat} {fd : FuncData} {ps : List Str} {sp : Sp} {ds : List Value} {dvs : List V} {o e : Expr} {es : List Expr} {to te : TE} {ta : TA} {f x : Str} {p p' p1 p2 pos : Pos}
theorem ps_putX (ho : PE X o to) (he : PE X e te) (hs : swapsWith e (some (.Attribute o f p')) pos.line X.env = pure false := by rfl) : PS X (.Assign [.Attribute o f p'] e pos) (tPutX X.K f to te) := by
  refine ⟨fun pins s σ H D I h => ?_⟩
  refine plainObj_wpAny_Assign_Attribute (thn (he.run pins s σ H _ I h) fun v s1 ⟨y, H1, I1, r1, q1⟩ => thn (ho.run pins s1 σ H1 _ I1 q1) fun u s2 ⟨x, H2, I2, r2, a, C, ex, T, hno, q⟩ => ?_) hs
  subst ex
  obtain rfl : u = Value.ref a := r2
  rcases q with ⟨ea, q⟩ | ⟨dx, fs, ea, ed, hl, q⟩
  · exact putX_first T I2 ea hno r1 fun dx s' n ne J => ⟨σ, _, J, q dx n ne⟩
  · exact putX_more T I2 ea ed hl hno r1 fun s' J => ⟨σ, _, J, q⟩
theorem pmkX {CX : CXT} (T : OwnX X.K C) (iC : PySem.W.findIn X.K (.ref C) "__init__" = some (some (.ref fI))) (tI : PySem.W.typeIn X.K (.ref fI) = some (.type "function"))
    (F1 : FnOk X.prog X.w X.K X.mg X.base CX k fI fd ps sp) (hr : Room (k + 1) X.A) (hb : Binds X.K fd ps ds) (hd : Vals dvs ds) (hx : Passes CX X (fun _ _ _ => False)) (hg : Gl X x) (hm : X.mg x = some (.ref C)) (ha : PA X (e :: es) ta)
    (hdb : (x == ("__debug__" : Str)) = false := by decide) (he : starEach (e :: es) X.env = (false, eval e X.env) :: starEach es X.env := by rfl) (hpl : (backTo pos (starEach es X.env)).any (·.1) = false := by rfl) :
    PMk X (.Call (.Name x p) (e :: es) [] pos) (tMkO C sp dvs ta) := by
  intro pins s σ H Q I h
  obtain ⟨nm, q, N, bs, bm, sn, sub, ab, col, dd, k0, k1, k2, k3, k5, B, newId, initId, bmB, hC, FB, hB, hA, hN, hst⟩ := T.cls
  refine wpAny_Call_Name_kw (ld_glob I hg hm ?_ hdb)
  refine PySem.W.callWith_K (h₀ := X.base) I.ok.mod.kin T.kC (thn (ha.run pos pins s σ H _ I h) fun us s1 ⟨vs, H1, I1, r1, hz, q1⟩ => ⟨I1.kIn, ?_⟩) he hpl
  show wpAny _ _ (call (.ref C) us) _ _ _
  obtain ⟨hp, g, dr, tk, os⟩ := s1
  have hsz : hp.objs.size ≤ hp.objs.size + 1 := Nat.le_succ _
  have hn : H1 (hp.objs.size + 1) = none := I1.hok.fresh hsz
  have hq := q1 (hp.objs.size + 1) hn
  have kk : ∀ b o, hp.get? b = some o → ((hp.push (PySem.W.kdv_tup us)).push (PySem.HandSPX.excO C hp.objs.size)).get? b = some o := fun b o e => Heap.get?_push_of_some _ (Heap.get?_push_of_some _ e)
  have hget : ((hp.push (PySem.W.kdv_tup us)).push (PySem.HandSPX.excO C hp.objs.size)).get? (hp.objs.size + 1) = some (PySem.HandSPX.excO C hp.objs.size) := by heap_get
  have I2 : Inv X pins σ (upd H1 (hp.objs.size + 1) (exo (hp.objs.size + 1) C none)) ⟨(hp.push (PySem.W.kdv_tup us)).push (PySem.HandSPX.excO C hp.objs.size), g, dr, tk, os⟩ :=
    I1.laid (t' := tk) (a := hp.objs.size + 1) (o := exo (hp.objs.size + 1) C none) (h' := (hp.push (PySem.W.kdv_tup us)).push (PySem.HandSPX.excO C hp.objs.size)) kk hsz (exo_ok hget)
  have r2 : Vals (V.ref (hp.objs.size + 1) :: (vs ++ dvs)) (Value.ref (hp.objs.size + 1) :: (us ++ ds)) := .cons rfl (r1.append hd)
  have hl : (Value.ref (hp.objs.size + 1) :: us ++ ds).length = ps.length := by
    have e := r2.length
    rw [F1.len _ _ _ _ hq] at e
    exact e.symm
  have hus : us.length ≤ sizeLine := by
    rw [← Paired.length r1, sizeLine_eq]
    omega
  refine wpAny_call (callX FB hB hA hN (I1.kIn _ _ hC) (PySem.W.looks_findIn I1.kIn iC) (fun self => PySem.W.bind_fn I1.kIn self tI) hus
    (codeAny_mono (F1.run _ X.stack _ _ ⟨Value.ref (hp.objs.size + 1) :: us, []⟩ (Value.ref (hp.objs.size + 1) :: (us ++ ds)) _ _ (fun _ _ _ => False) (hr.make C us []) (I2.env0.make C us []) (hb _ (Value.ref (hp.objs.size + 1) :: us) I2.kIn hl) r2 hq) fun r s' hq' => ?_))
  cases r with
  | error er => exact hx pins σ _ _ er s' I2 hq'
  | ok fl =>
    cases fl with
    | ret u =>
      obtain ⟨v, H2, os2, bare2, un2, hok2, rv, ev, d, fs, ea, ed, hd1, q2⟩ := hq'
      subst ev
      obtain ⟨h2, g2, d2, t2, os'⟩ := s'
      exact ⟨rv, mk_end (raises_own T.exC T.tyC) I1 hsz kk un2 hok2 os2 bare2 ea ed hd1 q2⟩
    | next => exact False.elim hq'
    | brk => exact False.elim hq'
    | cont => exact False.elim hq'
end
end My
set_option Elab.async false
set_option maxRecDepth 100000
set_option maxHeartbeats 4000000
set_option linter.unusedVariables false
namespace My
open PySem PySem.Spec PyProof.Rows L2
open Builtin Builtin.ObjectAttr in
theorem stores_of {B : String} {bmB : List Value} (S : StoreFacts B bmB "object.__setattr__" "object") (C : Addr) (ne : bmB.isEmpty = false) (ob : bmB.contains (.type "object") = true) : Stores (.ref C :: bmB) where
  ne := rfl
  obj := by rw [List.contains_cons, ob, Bool.or_true]
  pass := fun self => by rw [refuseLoop_ref]; exact S.passes self
structure SeenX (K : PySem.W.Frag) (C : Addr) (bmB : List Value) (newId : String) : Prop where
  cls : ∃ nm q N bs sn sub ab col dd k0 k1 k2 k3 k5, K.lookup C = some (excClassObj nm q C N bs bmB true sn sub ab col dd k0 k1 k2 k3 k5 newId)
  sa : PySem.W.findIn K (.ref C) "__setattr__" = some (some (.builtin "object.__setattr__"))
  exC : PySem.W.subIn K (.ref C) (.type "BaseException") = some true
  tyC : PySem.W.typeIn K (.ref C) = some (.type "type")
  kC : PySem.W.keepIn K (.ref C) = true
theorem ownX_of {K : PySem.W.Frag} {C : Addr} {bmB bmN : List Value} {B B2 newId initId : String} (T : SeenX K C bmB newId) (F : ExcBaseFacts B newId initId bmN) (S : StoreFacts B2 bmB "object.__setattr__" "object")
    (hB : bmB.contains (.type B) = true) (hA : bmB.contains (.type "AttributeError") = false) (hN : bmB.contains (.type "NameError") = false) (ne : bmB.isEmpty = false) (ob : bmB.contains (.type "object") = true) : OwnX K C := by
  obtain ⟨nm, q, N, bs, sn, sub, ab, col, dd, k0, k1, k2, k3, k5, hC⟩ := T.cls
  exact ⟨⟨nm, q, N, bs, bmB, sn, sub, ab, col, dd, k0, k1, k2, k3, k5, B, newId, initId, bmN, hC, F, hB, hA, hN, stores_of S C ne ob⟩, T.sa, T.exC, T.tyC, T.kC⟩
section
variable {K : PySem.W.Frag} {C : Addr}
abbrev mroVal : List Value := [.type "ValueError", .type "Exception", .type "BaseException", .type "object"]
theorem ownX_val (T : SeenX K C mroVal "ValueError.__new__") : OwnX K C := ownX_of T F.excBase_ValueError F.store_ValueError (by decide +kernel) (by decide +kernel) (by decide +kernel) rfl (by decide +kernel)
end
def spInit1 (K : PySem.W.Frag) (f : Str) : Sp := fun vs H Q _ => ∃ (a C : Addr) (y : V), vs = [.ref a, y] ∧ OwnX K C ∧ PySem.W.findIn K (.ref C) f = some none ∧ H a = some (exo a C none) ∧
  ∀ dx, H dx = none → dx ≠ a → Q .non (upd (upd H dx (exd dx [(f, y)])) a (exo a C (some dx)))
end My
set_option Elab.async false
set_option maxRecDepth 100000
set_option maxHeartbeats 4000000
namespace My
open PySem PySem.Spec PyProof.Rows L2
section
variable {P : Program} {w : World} {K : PySem.W.Frag} {mg : Str → Option Value} {base : Heap} {CX : CXT}
structure FnG (P : Program) (w : World) (K : PySem.W.Frag) (mg : Str → Option Value) (base : Heap)
    (CX : CXT) (k : Nat) (f : Addr) (fd : FuncData) (ps : List Str) (sp : Sp) : Prop where
  len : ∀ vs H Q E, sp vs H Q E → vs.length = ps.length
  run : ∀ (A : Around) (outer : List Env) (s : Shared) (H : Hp) (args : Args) (us : List Value)
    (vs : List V) (Q : VK) (E : XK), A.guards = some [] → Room k A →
    Env0 P w K mg base A outer s H → BindsTo s fd args (ps.zip us) → Vals vs us →
    sp vs H Q E → codeAny (model P w) A (.call (.ref f) args) (CR CX outer P w H s Q E) s
theorem FnG.of {k : Nat} {f : Addr} {fd : FuncData} {ps : List Str} {sp : Sp}
    (F : FnOk P w K mg base CX k f fd ps sp) : FnG P w K mg base CX k f fd ps sp :=
  ⟨F.len, fun A outer s H args us vs Q E _ hr he hb hv hs => F.run A outer s H args us vs Q E hr he hb hv hs⟩
theorem deeper_guards (A : Around) (env : Env) (h : A.guards = some []) : (A.deeper env).guards = some [] := by
  first
  | exact h
  | (simp [Around.deeper]; exact h)
end
section
variable {P : Program} {w : World} {K : PySem.W.Frag}
def only1 (a : Addr) (o : Obj) (u : HO) : Hp := fun b => if b = a then some (.frz o u) else none
theorem only1_at {a : Addr} {o : Obj} {u : HO} : only1 a o u a = some (.frz o u) := if_pos rfl
theorem only1_ne {a b : Addr} {o : Obj} {u : HO} (h : b ≠ a) : only1 a o u b = none := if_neg h
end
end My
set_option Elab.async false
set_option maxRecDepth 100000
set_option maxHeartbeats 4000000
namespace My
open PySem PySem.Spec PyProof.Rows L2
def flatD : V → Option PyData
  | .non => some .none
  | .bl b => some (.bool b)
  | .int i => some (.int i)
  | .str x => some (.str x)
  | _ => none
def keyD : Key → PyData
  | .inl i => .int i
  | .inr x => .str x
inductive FlatKv : List (Key × V) → List (PyData × PyData) → Prop
  | nil : FlatKv [] []
  | cons {k : Key} {v : V} {d : PyData} {r : List (Key × V)} {ds : List (PyData × PyData)} :
      flatD v = some d → FlatKv r ds → FlatKv ((k, v) :: r) ((keyD k, d) :: ds)
inductive Dx (K : PySem.W.Frag) (H : Hp) : V → PyData → Prop
  | of {v : V} {d : PyData} : Dp K H v d → Dx K H v d
  | dict {a : Addr} {kvs : List (Key × V)} {ds : List (PyData × PyData)} :
      H a = some (.dK kvs) → FlatKv kvs ds → Dx K H (.ref a) (.dict ds)
theorem same_seqT {K : PySem.W.Frag} {H H' : Hp} {a : Addr} {xs : List V} (s : Same H H') (h : SqT K H a xs) : SqT K H' a xs := by
  rcases h with (h | ⟨o, h⟩) | h
  · exact Or.inl (Or.inl (s _ _ h))
  · exact Or.inl (Or.inr ⟨o, s _ _ h⟩)
  · exact Or.inr h
mutual
theorem dp_same {K : PySem.W.Frag} {H H' : Hp} (s : Same H H') : ∀ (d : PyData) (v : V), Dp K H v d → Dp K H' v d
  | .none, _, h => by cases h; exact .non
  | .bool b, _, h => by cases h; exact .bl b
  | .int i, _, h => by cases h; exact .int i
  | .str x, _, h => by cases h; exact .str x
  | .list ds, _, h => by
    cases h with
    | lst hs ha => exact .lst (s.seq hs) (dpAll_same s ds _ ha)
  | .tuple ds, _, h => by
    cases h with
    | tup hs ha =>
      refine .tup ?_ (dpAll_same s ds _ ha)
      exact same_seqT s hs
  | .dict _, _, h => by cases h
theorem dpAll_same {K : PySem.W.Frag} {H H' : Hp} (s : Same H H') : ∀ (ds : List PyData) (vs : List V), DpAll K H vs ds → DpAll K H' vs ds
  | [], _, h => by cases h; exact .nil
  | d :: ds, _, h => by
    cases h with
    | cons h1 h2 => exact .cons (dp_same s d _ h1) (dpAll_same s ds _ h2)
end
theorem Dx.same {K : PySem.W.Frag} {H H' : Hp} {v : V} {d : PyData} (h : Dx K H v d) (s : Same H H') : Dx K H' v d := by
  cases h with
  | of h => exact .of (dp_same s _ _ h)
  | dict h f => exact .dict (s _ _ h) f
section
variable {X : Cx} {pins : List (Addr × Obj)} {σ : L2.St} {H : Hp} {s : Shared}
theorem flat_reads {h : Heap} {v : V} {d : PyData} {u : Value} (e : flatD v = some d) (r : RelV v u) : Reads h u d [] := by
  cases v with
  | non => cases e; cases r; exact .none
  | bl b => cases e; cases r; exact .bool b
  | int i => cases e; obtain ⟨t, rfl⟩ := r; exact .int i t
  | str x => cases e; obtain ⟨t, rfl⟩ := r; exact .str x t
  | byt b => cases e
  | flt b => cases e
  | ref a => cases e
  | ty n => cases e
theorem key_reads {h : Heap} {prog : Program} {w : World} {k : Key} {u : Value} (e : (mixKind prog w).is k u = true) : Reads h u (keyD k) [] := by
  rw [mixKind_is] at e
  rcases keyIs_shape e with ⟨i, t, rfl, rfl⟩ | ⟨x, t, rfl, rfl⟩
  · exact .int i t
  · exact .str x t
theorem readsAll_flat {h : Heap} {prog : Program} {w : World} : ∀ {es : List DictEntry} {vs : List (Key × Value)}
    {kvs : List (Key × V)} {ds : List (PyData × PyData)}, Pairs (mixKind prog w) es vs → KV kvs vs → FlatKv kvs ds →
    ReadsAll h (es.map (·.key)) (ds.map (·.1)) [] ∧ ReadsAll h (es.map (·.val)) (ds.map (·.2)) []
  | _, _, _, _, .nil, r, f => by
    cases r; cases f
    exact ⟨.nil, .nil⟩
  | _, _, _, _, .cons h1 h2 p, r, f => by
    cases r with
    | cons r1 r2 =>
      cases f with
      | cons f1 f2 =>
        obtain ⟨z1, z2⟩ := readsAll_flat (h := h) p r2 f2
        obtain ⟨e1, e2⟩ := r1
        rw [← e1] at h1
        rw [← h2] at e2
        exact ⟨.cons (as := []) (bs := []) (key_reads h1) z1, .cons (as := []) (bs := []) (flat_reads f1 e2) z2⟩
theorem dp_noDict {K : PySem.W.Frag} {H : Hp} : ∀ (d : PyData) (v : V), Dp K H v d → d.hasDict = false
  | .none, _, _ => by simp only [PyData.hasDict]
  | .bool _, _, _ => by simp only [PyData.hasDict]
  | .int _, _, _ => by simp only [PyData.hasDict]
  | .str _, _, _ => by simp only [PyData.hasDict]
  | .list ds, _, h => by
    cases h with
    | lst hs ha => simp only [PyData.hasDict]; exact all ds _ ha
  | .tuple ds, _, h => by
    cases h with
    | tup hs ha => simp only [PyData.hasDict]; exact all ds _ ha
  | .dict _, _, h => by cases h
where all {K : PySem.W.Frag} {H : Hp} : ∀ (ds : List PyData) (vs : List V), DpAll K H vs ds → PyData.hasDictAll ds = false
  | [], _, _ => by simp only [PyData.hasDictAll]
  | d :: ds, _, h => by
    cases h with
    | cons h1 h2 => simp only [PyData.hasDictAll, dp_noDict d _ h1, all ds _ h2, Bool.or_self]
def rRepr (K : PySem.W.Frag) : List V → Hp → VK → Prop := fun xs H Q => ∃ x d, xs = [x] ∧ Dx K H x d ∧
  d.showable = true ∧ d.depth ≤ 60 ∧ d.shown.length ≤ sizeLine ∧ Q (.str d.shown) H
theorem call_repr (g : X.A.guards = some []) (hu : X.A.units + 64 < cLine) : CallR X (.builtin "repr") (rRepr X.K) := by
  intro pins s σ H xs us Q I r h
  obtain ⟨x, d, rfl, hx, hs, hd, hz, q⟩ := h
  obtain ⟨u, rfl, ru⟩ := vals1 r
  have fin : ∀ h' t tk, (∀ b o, s.heap.get? b = some o → h'.get? b = some o) →
      EP X pins σ Q (.str d.shown t) { s with heap := h', toks := tk } :=
    fun h' t tk k => ⟨.str d.shown, H, I.kept k, ⟨t, rfl⟩, q⟩
  have ref : ∀ {a : Addr} {as : List Addr}, Reads s.heap (.ref a) d as → (d.hasDict = true → sysModules ∉ as) →
      wpAny (model X.prog X.w) X.A (call (.builtin "repr") [.ref a]) (EP X pins σ Q) X.xe s := by
    intro a as rd nm
    exact repr_of_reads' rd hs nm g (by omega) (fun _ _ e => e) fin hz
  cases hx with
  | of hp =>
    have nd := dp_noDict d x hp
    obtain ⟨as, rd⟩ := Dp.reads I d x u hp ru
    cases hp with
    | non => cases ru; exact PySem.P.repr_of_none (by simpa [PyData.shown] using fin s.heap s.toks (s.toks + 1) fun _ _ e => e)
    | bl b => cases ru; exact PySem.P.repr_of_bool (by simpa [PyData.shown] using fin s.heap s.toks (s.toks + 1) fun _ _ e => e)
    | int i =>
      obtain ⟨t, rfl⟩ := ru
      exact PySem.P.repr_of_int (by simpa [PyData.showable] using hs) (by simpa [PyData.shown] using fin s.heap s.toks (s.toks + 1) fun _ _ e => e)
    | str y =>
      obtain ⟨t, rfl⟩ := ru
      exact PySem.P.repr_of_str (by simpa [PyData.shown] using fin s.heap s.toks (s.toks + 1) fun _ _ e => e) (by simpa [PyData.shown] using hz)
    | lst h1 h2 => cases ru; exact ref rd fun z => by rw [nd] at z; cases z
    | tup h1 h2 => cases ru; exact ref rd fun z => by rw [nd] at z; cases z
  | @dict a kvs ds ha f =>
    cases ru
    obtain ⟨_, ne, vs, kv, o, es, ep, e1, e2, e3, _, p, _⟩ := I.hok a _ ha
    obtain ⟨z1, z2⟩ := readsAll_flat (h := s.heap) p kv f
    refine ref (Reads.dict e1 e2.1 e3 z1 z2) fun _ m => ?_
    have m2 : sysModules ∈ [a] := by simpa using m
    rw [List.mem_singleton] at m2
    subst m2
    simp at ne
end
def repS (x : Str) (n : Nat) : Str := ⟨(List.replicate n x.cps).foldl (· ++ ·) #[]⟩
theorem repS_one (x : Str) : repS x 1 = x := by
  unfold repS
  simp
theorem repFold : ∀ (n : Nat) (x a : Array Nat), ((List.replicate n x).foldl (· ++ ·) a).size = a.size + n * x.size
  | 0, x, a => by simp
  | n + 1, x, a => by
    rw [List.replicate_succ, List.foldl_cons, repFold n x (a ++ x), Array.size_append, Nat.succ_mul]
    omega
theorem repS_len (x : Str) (n : Nat) : (repS x n).length = n * x.length := by
  show ((List.replicate n x.cps).foldl (· ++ ·) #[]).size = n * x.cps.size
  rw [repFold]
  simp
theorem op_mul_str {X : Cx} : OpR X (binaryOp .Mult) (fun x y H Q => ∃ z n, x = .str z ∧ y = .int n ∧ 1 ≤ n ∧ n ≤ 1000 ∧
    0 < z.length ∧ z.length ≤ 1000 ∧ Q (.str (repS z n.toNat)) H) := by
  intro pins s σ H x y v u Q I rx ry h
  obtain ⟨z, n, rfl, rfl, h1, h2, h3, h4, q⟩ := h
  obtain ⟨t, rfl⟩ := rx
  obtain ⟨t', rfl⟩ := ry
  refine PySem.P.mul_str ?_ ?_ ?_ ?_
  · have a1 : ¬ n < -(2 ^ 63 : Int) := by omega
    have a2 : ¬ n ≥ 2 ^ 63 := by omega
    rw [decide_eq_false a1, decide_eq_false a2]; rfl
  · intro _ _ hgt
    have : (1000 : Int) ≤ (2 ^ 63 - 1) / n := (Int.le_ediv_iff_mul_le (by omega)).mpr (by
      have := Int.mul_le_mul_of_nonneg_left h2 (show (0 : Int) ≤ 1000 by decide)
      omega)
    omega
  · intro _ _
    unfold Builtin.Str.tooLong
    refine decide_eq_false ?_
    have a : z.length * n.toNat ≤ 1000 * 1000 := Nat.mul_le_mul h4 (by omega)
    have b : (1000 * 1000 : Nat) ≤ sizeLine := by decide
    omega
  · rw [if_neg (by omega)]
    by_cases e : n = 1
    · subst e
      rw [if_pos (by simp)]
      exact ⟨.str z, H, I, ⟨t, rfl⟩, by rw [← repS_one z]; exact q⟩
    · rw [if_neg (by simp; omega)]
      have sz : (repS z n.toNat).length ≤ sizeLine := by
        have a : (repS z n.toNat).length = n.toNat * z.length := repS_len z n.toNat
        have b : n.toNat * z.length ≤ 1000 * 1000 := Nat.mul_le_mul (by omega) h4
        have c : (1000 * 1000 : Nat) ≤ sizeLine := by decide
        omega
      exact ⟨sz, .str (repS z n.toNat), H, I.tok _, ⟨_, rfl⟩, q⟩
end My
set_option Elab.async false
set_option maxRecDepth 100000
set_option maxHeartbeats 4000000
namespace My
open PySem PySem.Spec PyProof.Rows L2
def Fn (P : Program) (w : World) (K : PySem.W.Frag) (mg : Str → Option Value) (base : Heap) (k : Nat) (x : Str) (ps : List Str) (sp : Sp) : Prop :=
  ∃ f fd, mg x = some (.ref f) ∧ FnOk P w K mg base CX0 k f fd ps sp ∧ PySem.W.keepIn K (.ref f) = true ∧ Binds K fd ps []
section
variable {X : Cx} {k : Nat} {ps : List Str} {sp : Sp} {x : Str} {p pos : Pos} {e : Expr} {es : List Expr} {t : TA}
theorem pe_fn (D : Fn X.prog X.w X.K X.mg X.base k x ps sp) (hr : Room k X.A) (hg : Gl X x) (ha : PA X (e :: es) t)
    (hdb : (x == ("__debug__" : Str)) = false := by decide)
    (he : starEach (e :: es) X.env = (false, eval e X.env) :: starEach es X.env := by rfl)
    (hpl : (backTo pos (starEach es X.env)).any (·.1) = false := by rfl) :
    PE X (.Call (.Name x p) (e :: es) [] pos) (tCall sp [] E0 t) := by
  obtain ⟨f, fd, hm, F, kp, b⟩ := D
  exact pe_call F hr hg hm kp b .nil pass0 ha hdb he hpl
end
def Bag (H : Hp) (a : Addr) (n : Nat) : Prop := ∃ x y z : Int, H a = some (.lst [.int x, .int y, .int z]) ∧ 0 ≤ y ∧ y < 2305843009213693951 ∧ 0 ≤ z ∧ z ≤ n
def But (a : Addr) (H H' : Hp) : Prop := ∀ b, b ≠ a → H' b = H b
theorem But.refl (a : Addr) (H : Hp) : But a H H := fun _ _ => rfl
theorem But.upd {a : Addr} {H : Hp} {o : HO} : But a H (upd H a o) := fun _ h => upd_ne h
theorem But.trans {a : Addr} {H H1 H2 : Hp} (x : But a H H1) (y : But a H1 H2) : But a H H2 := fun b h => (y b h).trans (x b h)
def spBag (K : PySem.W.Frag) : Sp := fun vs H Q _ => ∃ (p : Addr) (ns : List Int) (i : Nat), vs = [.ref p, .int (i : Int)] ∧ SqL K H p (ns.map V.int) ∧ i < 64 ∧
  ∀ (a : Addr) (o : HO), H a = none → Bag (upd H a o) a 0 → Q (.ref a) (upd H a o)
def spTake : Sp := fun vs H Q _ => ∃ (a : Addr) (m : Int) (n : Nat), vs = [.ref a, .int m] ∧ Bag H a n ∧ n < 1000000 ∧ 0 < m ∧ m < 1073741824 ∧
  ∀ (i : Int) (H' : Hp), 0 ≤ i → i < m → But a H H' → Bag H' a (n + 1) → Q (.int i) H'
end My
set_option Elab.async false
set_option maxRecDepth 100000
set_option maxHeartbeats 4000000
namespace My
open PySem PySem.Spec PyProof.Rows L2
theorem same_new {H : Hp} {p : Addr} {o : HO} (h : H p = none) : Same H (upd H p o) := fun _ _ e => (upd_ne (ne_of_none e h)).trans e
theorem new_same {H H1 : Hp} {p : Addr} {o : HO} (e : upd H p o = H1) (h : H p = none) : Same H H1 := e ▸ same_new h
theorem new_at {H H1 : Hp} {p : Addr} {o : HO} (e : upd H p o = H1) : H1 p = some o := e ▸ upd_same
def Ext (a : Addr) (H H' : Hp) : Prop := ∀ b o, b ≠ a → H b = some o → H' b = some o
theorem Ext.of {a : Addr} {H H' : Hp} (s : Same H H') : Ext a H H' := fun b o _ e => s b o e
theorem Ext.trans {a : Addr} {H H1 H2 : Hp} (x : Ext a H H1) (y : Ext a H1 H2) : Ext a H H2 := fun b o n e => y b o n (x b o n e)
def del (a : Addr) (H : Hp) : Hp := fun b => if b = a then none else H b
theorem Bag.ne {H : Hp} {a b : Addr} {n : Nat} (h : Bag H a n) (e : H b = none) : b ≠ a := by
  rintro rfl
  obtain ⟨x, y, z, h, _⟩ := h
  rw [h] at e; cases e
theorem Bag.same {H H' : Hp} {a : Addr} {n : Nat} (h : Bag H a n) (s : Same H H') : Bag H' a n := by
  obtain ⟨x, y, z, h, r⟩ := h
  exact ⟨x, y, z, s _ _ h, r⟩
theorem Bag.mono {H : Hp} {a : Addr} {n m : Nat} (h : Bag H a n) (l : n ≤ m) : Bag H a m := by
  obtain ⟨x, y, z, h, r1, r2, r3, r4⟩ := h
  exact ⟨x, y, z, h, r1, r2, r3, by omega⟩
theorem lc_text {x : Str} {g : TG} {tt : TT} {te : TE} {vs : List Nat} {σ : L2.St} {H1 : Hp} {D : Addr} {Qd : Hp → Prop}
    (Pv : Nat → Hp → Prop) (h0 : Pv 0 (upd H1 D (.lst [])))
    (hs : ∀ i c H, x.cps[i]? = some c → Pv i H → g (.str ⟨#[c]⟩) (wipe σ vs) H fun σ2 H2 =>
      wipe σ2 vs = wipe σ vs ∧ tt σ2 H2 fun b H3 => if b = true then te σ2 H3 fun y H4 =>
        ∃ acc, H4 D = some (.lst acc) ∧ acc.length < sizeLine ∧ Pv (i + 1) (upd H4 D (.lst (acc ++ [y])))
      else Pv (i + 1) H3)
    (hd : ∀ H, Pv x.cps.size H → Qd H) :
    ∃ W : Nat → Nat → Hp → Prop, (∃ m, W 0 m (upd H1 D (.lst []))) ∧ ∀ i m H, W i m H →
      ((Its x).stop i H ∧ Qd H) ∨ ((Its x).go i H ∧ ∃ Nx : Hp → Prop, (∀ H', Nx H' → ∃ m', m' < m ∧ W (i + 1) m' H') ∧
        ∀ v H', (Its x).yld i H v H' → g v (wipe σ vs) H' fun σ2 H2 => wipe σ2 vs = wipe σ vs ∧ tt σ2 H2 fun b H3 =>
          if b = true then te σ2 H3 fun y H4 => ∃ acc, H4 D = some (.lst acc) ∧ acc.length < sizeLine ∧
            Nx (upd H4 D (.lst (acc ++ [y]))) else Nx H3) := by
  refine ⟨fun i m H => i ≤ x.cps.size ∧ m + i = x.cps.size ∧ Pv i H, ⟨x.cps.size, Nat.zero_le _, rfl, h0⟩, ?_⟩
  rintro i m H ⟨hi, hm, p⟩
  by_cases l : i < x.cps.size
  · right
    refine ⟨l, Pv (i + 1), fun H' z => ⟨m - 1, by omega, by omega, by omega, z⟩, ?_⟩
    rintro v H' ⟨rfl, c, hc, rfl⟩
    exact hs i c H' hc p
  · left
    obtain rfl : i = x.cps.size := by omega
    exact ⟨Nat.le_refl _, hd H p⟩
def tyD : PyData → String
  | .none => "NoneType"
  | .bool _ => "bool"
  | .int _ => "int"
  | .str _ => "str"
  | .list _ => "list"
  | .tuple _ => "tuple"
  | .dict _ => "dict"
theorem ty_of {K : PySem.W.Frag} {H : Hp} {v : V} {d : PyData} (h : Dx K H v d) : TyX K H v (.type (tyD d)) := by
  cases h with
  | of h =>
    cases h with
    | non => exact .base .non
    | bl b => exact .base (.bl b)
    | int i => exact .base (.int i)
    | str x => exact .base (.str x)
    | lst hs _ =>
      rcases hs with (h | ⟨o, h⟩) | ⟨o, its, n, h, c, _⟩
      · exact .base (.lst h)
      · exact .base (.frz h)
      · exact .kList h c
    | tup hs _ =>
      rcases hs with (h | ⟨o, h⟩) | ⟨o, its, n, h, c, _⟩
      · exact .base (.tup h)
      · exact .fTuple h
      · exact .kTuple h c
  | dict h f => exact .base (.dK h)
def isD (T : String) (d : PyData) : Bool := (kitB (tyD d) T).getD false
theorem kit_all : ∀ S ∈ ["NoneType", "bool", "int", "str", "list", "tuple", "dict"], ∀ T ∈ ["int", "bool", "str", "tuple", "list", "dict"],
    (kitB S T).isSome = true := by decide +kernel
theorem isD_some {T : String} {d : PyData} (h : T = "int" ∨ T = "bool" ∨ T = "str" ∨ T = "tuple" ∨ T = "list" ∨ T = "dict") : kitB (tyD d) T = some (isD T d) := by
  have e : (kitB (tyD d) T).isSome = true := by
    refine kit_all (tyD d) ?_ T ?_
    · cases d <;> simp [tyD]
    · simpa using h
  unfold isD
  cases q : kitB (tyD d) T with
  | none => rw [q] at e; cases e
  | some b => rfl
theorem isi_of {K : PySem.W.Frag} {H : Hp} {v : V} {d : PyData} {T : String} {Q : VK} (h : Dx K H v d)
    (hT : T = "int" ∨ T = "bool" ∨ T = "str" ∨ T = "tuple" ∨ T = "list" ∨ T = "dict") (q : Q (.bl (isD T d)) H) : rIsi K [v, .ty T] H Q :=
  ⟨v, .ty T, _, _, _, rfl, .ty T, ty_of h, kit_ty (isD_some hT), q⟩
def isS (S T : String) : Bool := (kitB S T).getD false
theorem isD_str (d : PyData) : isD "str" d = (match d with | .str _ => true | _ => false) := by
  cases d with
  | none => exact (by decide +kernel : isS "NoneType" "str" = false)
  | bool b => exact (by decide +kernel : isS "bool" "str" = false)
  | int i => exact (by decide +kernel : isS "int" "str" = false)
  | str x => exact (by decide +kernel : isS "str" "str" = true)
  | list xs => exact (by decide +kernel : isS "list" "str" = false)
  | tuple xs => exact (by decide +kernel : isS "tuple" "str" = false)
  | dict kvs => exact (by decide +kernel : isS "dict" "str" = false)
end My
set_option Elab.async false
set_option maxRecDepth 100000
set_option maxHeartbeats 4000000
namespace My
open PySem PySem.Spec PyProof.Rows L2
section
variable {X : Cx} {pins : List (Addr × Obj)} {σ : L2.St} {H : Hp} {s : Shared}
structure OwnOp (X : Cx) (C : Addr) (name : Str) (k : Nat) (ps : List Str) (sp : Sp) : Prop where
  ex : ∃ f fd, PySem.W.findIn X.K (.ref C) name = some (some (.ref f)) ∧ PySem.W.isFn X.K (.ref f) = true ∧
    FnOk X.prog X.w X.K X.mg X.base CX0 k f fd ps sp ∧ Binds X.K fd ps []
end
end My
set_option Elab.async false
set_option maxRecDepth 100000
set_option maxHeartbeats 4000000
namespace My
open PySem PySem.Spec PyProof.Rows L2
def ents (es : List (Int × Str)) : List (Key × V) := es.map fun p => (Sum.inl p.1, V.str p.2)
def keys (es : List (Int × Str)) : List Int := es.map (·.1)
theorem ents_len (es : List (Int × Str)) : (ents es).length = es.length := List.length_map _
def look (es : List (Int × Str)) (k : Int) : Option Str := (es.find? fun p => decide (p.1 = k)).map (·.2)
theorem look_cons (p : Int × Str) (es : List (Int × Str)) (k : Int) : look (p :: es) k = if p.1 = k then some p.2 else look es k := by
  unfold look
  rw [List.find?_cons]
  by_cases e : p.1 = k
  · rw [if_pos e, decide_eq_true e]; rfl
  · rw [if_neg e, decide_eq_false e]
theorem look_none {es : List (Int × Str)} {k : Int} : look es k = none ↔ k ∉ keys es := by
  induction es with
  | nil => exact ⟨fun _ => List.not_mem_nil, fun _ => rfl⟩
  | cons p es ih =>
    rw [look_cons]
    unfold keys at ih ⊢
    rw [List.map_cons, List.mem_cons, not_or]
    by_cases e : p.1 = k
    · rw [if_pos e]
      exact ⟨fun z => (nomatch z), fun z => absurd e.symm z.1⟩
    · rw [if_neg e, ih]
      exact ⟨fun z => ⟨fun q => e q.symm, z⟩, fun z => z.2⟩
theorem look_some {es : List (Int × Str)} {k : Int} : (look es k).isSome = true ↔ k ∈ keys es := by
  cases e : look es k with
  | none =>
    refine ⟨fun z => ?_, fun z => absurd z (look_none.mp e)⟩
    cases z
  | some x =>
    refine ⟨fun _ => Decidable.byContradiction fun n => ?_, fun _ => rfl⟩
    rw [look_none.mpr n] at e
    cases e
end My
set_option Elab.async false
set_option maxRecDepth 100000
set_option maxHeartbeats 4000000
set_option Elab.async false
set_option maxRecDepth 100000
set_option maxHeartbeats 4000000
namespace My
open PySem PySem.Spec PyProof.Rows L2
def laid (d : PyData) : Prop := d.canLay0 = true ∨ ∃ kvs, d = .dict kvs
def sm (d : PyData) : Prop := d.weight ≤ 100000 ∧ laid d
def abc : Str := "abcdefghijklmnopqrstuvwxyz"
def nameOk (x : Str) : Bool := decide (1 ≤ x.length ∧ x.length ≤ 4) && !(inV (.str x) [.str "keys", .str "look", .str "self"]) &&
  x.cps.toList.all fun c => decide (c ∈ abc.cps.toList)
def mName : PyData → Bool
  | .str x => nameOk x
  | _ => false
def spIs (K : PySem.W.Frag) (m : PyData → Bool) : Sp := fun vs H Q _ => ∃ v d, vs = [v] ∧ Dx K H v d ∧ sm d ∧ ∀ H', Same H H' → Q (.bl (m d)) H'
def spLaw (K : PySem.W.Frag) : Sp := fun vs H Q _ => ∃ (a : Addr) (ns : List Int), vs = [.ref a] ∧ SqL K H a (ns.map V.int) ∧ ns.length ≤ 63 ∧ ∀ H', Q (.bl true) H'
theorem dx_str {K : PySem.W.Frag} {H : Hp} {v : V} {x : Str} (h : Dx K H v (.str x)) : v = .str x := by
  cases h with
  | of h => cases h; rfl
theorem rd_isi {K : PySem.W.Frag} {i : Nat} {σ : L2.St} {H : Hp} {v : V} {d : PyData} {T : String} {Q : VK} (hσ : σ[i]? = some (some v)) (hx : Dx K H v d)
    (hT : T = "int" ∨ T = "bool" ∨ T = "str" ∨ T = "tuple" ∨ T = "list" ∨ T = "dict") (q : Q (.bl (isD T d)) H) :
    tCB (rIsi K) (tCons (tVar i) (tCons (tC (.ty T)) tNil)) σ H Q := ⟨v, hσ, isi_of hx hT q⟩
theorem take_snoc {xs : Array Nat} {i c : Nat} (h : xs[i]? = some c) : xs.toList.take (i + 1) = xs.toList.take i ++ [c] := by
  rw [List.take_add_one]
  have e : xs.toList[i]? = some c := by rw [Array.getElem?_toList]; exact h
  rw [e]
  rfl
def inAbc (c : Nat) : Bool := decide (c ∈ abc.cps.toList)
theorem len_le {x : Str} (h : sm (.str x)) : x.length ≤ 100000 := h.1
theorem size_ok {n : Nat} (h : n ≤ 1000000) : n ≤ sizeLine := Nat.le_trans h (by decide)
theorem size_lt {n : Nat} (h : n ≤ 1000000) : n < sizeLine := Nat.lt_of_le_of_lt h (by decide)
theorem all_ids (l : List Nat) (p : Nat → Bool) : (l.map p).all id = l.all p := by
  induction l with
  | nil => rfl
  | cons a r ih => rw [List.map_cons, List.all_cons, List.all_cons, ih]; rfl
def okP (W D : Nat) (d : PyData) : Prop := d.showable = true ∧ d.leavesShort 100 = true ∧ d.weight ≤ W ∧ d.depth ≤ D ∧ d.canLay0 = true
end My
set_option Elab.async false
set_option maxRecDepth 100000
set_option maxHeartbeats 4000000
namespace My
open PySem PySem.Spec PyProof.Rows L2
structure FunV (K : PySem.W.Frag) (x qual : Str) (st : Stmt) (dV : Value) (f : Addr) (fd : FuncData) : Prop where
  ex : ∃ (oc : Value) (od : Option Addr) (kV doc pm : Value) (an : Option Addr) (cdv ct : Value) (osl : Array (Option Value)),
    fd = PySem.W.fnOf x qual (defArgs st) (defBody st) (defScope st) dV kV doc pm an cdv ct ∧ K.lookup f = some ⟨oc, od, .func fd, osl⟩ ∧ PySem.W.codeIn K cdv qual = true
section
variable {P : Program} {w : World} {K : PySem.W.Frag} {mg : Str → Option Value} {base : Heap} {x qual : Str} {st : Stmt} {f : Addr} {fd : FuncData} {dV : Value}
theorem FunV.ok {N ps : List Str} {k : Nat} {sp : Sp} (F : FunV K x qual st dV f fd) (S : FnScope N ps (defScope st))
    (len : ∀ vs H Q E, sp vs H Q E → vs.length = ps.length)
    (hbody : ∀ (cdv : Value) (A : Around) (outer : List Env) (s : Shared) (H : Hp) (vs : List V) (Q : VK) (E : XK), Room k (A.deeper (envOfC qual (defScope st) s.heap.objs.size f cdv)) → sp vs H Q E →
      ∃ t, PSs (cxOf CX0 P w K mg base N qual (defScope st) f cdv A outer s H E).nox (defBody st) t ∧ t { nx := fun _ H' => Q .non H', rt := Q } (start N vs) H) : FnOk P w K mg base CX0 (k + 1) f fd ps sp := by
  obtain ⟨oc, od, kV, doc, pm, an, cdv, ct, osl, rfl, lk, hcd⟩ := F.ex
  refine fn_of lk hcd S len fun A outer s H vs Q E hr hsp => ?_
  obtain ⟨t, h, q⟩ := hbody cdv A outer s H vs Q E hr hsp
  exact ⟨t, h.nox, q⟩
end
def Mt (P : Program) (w : World) (K : PySem.W.Frag) (mg : Str → Option Value) (base : Heap) (C : Addr) (m : Str) (k : Nat) (ps : List Str) (sp : Sp) : Prop :=
  ∃ f fd, PySem.W.findIn K (.ref C) m = some (some (.ref f)) ∧ PySem.W.isFn K (.ref f) = true ∧ PySem.W.keepIn K (.ref f) = true ∧
    FnOk P w K mg base CX0 k f fd ps sp ∧ Binds K fd ps []
section
variable {X : Cx} {k : Nat} {C : Addr} {ps : List Str} {sp : Sp} {x m : Str} {p pos apos : Pos} {e o : Expr} {es : List Expr} {ta : TE} {t : TA}
theorem Mt.op (D : Mt X.prog X.w X.K X.mg X.base C m k ps sp) : OwnOp X C m k ps sp := by
  obtain ⟨f, fd, h1, h2, _, h4, h5⟩ := D
  exact ⟨f, fd, h1, h2, h4, h5⟩
theorem pe_mt {pl : Sem Bool} (D : Mt X.prog X.w X.K X.mg X.base C m k ps sp) (hr : Room k X.A) (c : Cls X.K C) (he : PE X o ta) (ha : PA X (e :: es) t)
    (hst : starEach (e :: es) X.env = (false, eval e X.env) :: starEach es X.env := by rfl) (hpl : (backTo pos (starEach es X.env)).any (·.1) = false := by rfl)
    (ht : eval (.Call (.Attribute o m apos) (e :: es) [] pos) X.env = (do
      let ov ← eval o X.env
      standAt apos.atName
      let (f, first) ← holding [ov] (getMethod ov m pl)
      callWith pos f first (backTo pos (starEach (e :: es) X.env)) (backToKw pos (keywordEach [] X.env))) := by rfl) :
    PE X (.Call (.Attribute o m apos) (e :: es) [] pos) (tMeth C m sp [] E0 ta t) := by
  obtain ⟨f, fd, h1, h2, h3, F, b⟩ := D
  exact pe_meth (ds := []) he c ⟨h1, h2, h3⟩ F hr b .nil pass0 ha hst hpl ht
end
def Good (U : List Int) (es : List (Int × Str)) : Prop := (keys es).Nodup ∧ (∀ k ∈ keys es, k ∈ U) ∧ U.length ≤ 1000
def FD (U : List Int) (H : Hp) (d : Addr) (es : List (Int × Str)) : Prop := H d = some (.dK (ents es)) ∧ Good U es
def FS (C : Addr) (U : List Int) (H : Hp) (x : Addr) (es : List (Int × Str)) : Prop := ∃ dx d, H x = some (.ins C dx [("_forms", .ref d)]) ∧ FD U H d es
theorem FD.same {U : List Int} {H H' : Hp} {d : Addr} {es : List (Int × Str)} (h : FD U H d es) (s : Same H H') : FD U H' d es := ⟨s _ _ h.1, h.2⟩
theorem FS.same {C : Addr} {U : List Int} {H H' : Hp} {d : Addr} {es : List (Int × Str)} (h : FS C U H d es) (s : Same H H') : FS C U H' d es := by
  obtain ⟨dx, d, h1, h2⟩ := h
  exact ⟨dx, d, s _ _ h1, h2.same s⟩
theorem nodup_sub : ∀ {l U : List Int}, l.Nodup → (∀ k ∈ l, k ∈ U) → l.length ≤ U.length
  | [], U, _, _ => Nat.zero_le _
  | a :: r, U, nd, h => by
    have ha : a ∈ U := h a List.mem_cons_self
    have := nodup_sub (l := r) (U := U.erase a) (List.nodup_cons.mp nd).2 fun k hk =>
      (List.mem_erase_of_ne (fun e : k = a => (List.nodup_cons.mp nd).1 (by rw [← e]; exact hk))).mpr (h k (List.mem_cons_of_mem _ hk))
    rw [List.length_erase_of_mem ha] at this
    have p := List.length_pos_of_mem ha
    rw [List.length_cons]
    omega
theorem Good.len {U : List Int} {es : List (Int × Str)} (g : Good U es) : es.length ≤ 1000 := by
  have := nodup_sub g.1 g.2.1
  unfold keys at this
  rw [List.length_map] at this
  exact Nat.le_trans this g.2.2
def has (es : List (Int × Str)) (k : Int) : Bool := (look es k).isSome
theorem has_iff {es : List (Int × Str)} {k : Int} : has es k = true ↔ k ∈ keys es := look_some
def united (es fs : List (Int × Str)) : List (Int × Str) := es ++ fs.filter fun p => !has es p.1
def rest (es fs : List (Int × Str)) : List (Int × Str) := es.filter fun p => !has fs p.1
theorem keys_filter_sub (c : Int × Str → Bool) (es : List (Int × Str)) : (keys (es.filter c)).Sublist (keys es) := List.Sublist.map _ List.filter_sublist
theorem Good.filter {U : List Int} {es : List (Int × Str)} (g : Good U es) (c : Int × Str → Bool) : Good U (es.filter c) :=
  ⟨g.1.sublist (keys_filter_sub c es), fun k hk => g.2.1 k ((keys_filter_sub c es).subset hk), g.2.2⟩
theorem keys_app (es fs : List (Int × Str)) : keys (es ++ fs) = keys es ++ keys fs := List.map_append
inductive ElAll (K : PySem.W.Frag) (H : Hp) : List V → List (Int × Str) → Prop
  | nil : ElAll K H [] []
  | cons {t : Addr} {k : Int} {x : Str} {vs : List V} {es : List (Int × Str)} (h : SqT K H t [.int k, .str x]) (hk : 0 ≤ k ∧ k ≤ 999999) (hx : nameOk x = true) (r : ElAll K H vs es) : ElAll K H (.ref t :: vs) ((k, x) :: es)
theorem sqT_same {K : PySem.W.Frag} {H H' : Hp} {a : Addr} {xs : List V} (e : Same H H') (h : SqT K H a xs) : SqT K H' a xs := by
  rcases h with h | h
  · rcases h with h | ⟨o, h⟩
    · exact .inl (.inl (e _ _ h))
    · exact .inl (.inr ⟨o, e _ _ h⟩)
  · exact .inr h
theorem ElAll.same {K : PySem.W.Frag} {H H' : Hp} (s : Same H H') : ∀ {vs : List V} {es : List (Int × Str)}, ElAll K H vs es → ElAll K H' vs es
  | _, _, .nil => .nil
  | _, _, .cons h hk hx r => .cons (sqT_same s h) hk hx (ElAll.same s r)
theorem ElAll.len {K : PySem.W.Frag} {H : Hp} : ∀ {vs : List V} {es : List (Int × Str)}, ElAll K H vs es → vs.length = es.length
  | _, _, .nil => rfl
  | _, _, .cons _ _ _ r => by rw [List.length_cons, List.length_cons, r.len]
theorem ElAll.at {K : PySem.W.Frag} {H : Hp} : ∀ {vs : List V} {es : List (Int × Str)} {i : Nat} {v : V}, ElAll K H vs es → vs[i]? = some v →
    ∃ t k x, v = .ref t ∧ es[i]? = some (k, x) ∧ SqT K H t [.int k, .str x] ∧ (0 ≤ k ∧ k ≤ 999999) ∧ nameOk x = true
  | _, _, i, v, .nil, h => by simp at h
  | _, _, 0, v, .cons h1 hk hx r, h => by
    cases Option.some.inj h
    exact ⟨_, _, _, rfl, rfl, h1, hk, hx⟩
  | _, _, i + 1, v, .cons h1 hk hx r, h => r.at h
def firsts (l : List (Int × Str)) : List (Int × Str) := l.foldl (fun acc p => if has acc p.1 = true then acc else acc ++ [p]) []
end My
set_option Elab.async false
set_option maxRecDepth 100000
set_option maxHeartbeats 4000000
set_option linter.unusedVariables false
namespace My
open PySem PySem.Spec PyProof.Rows L2
def Xc (P : Program) (w : World) (K : PySem.W.Frag) (mg : Str → Option Value) (base : Heap) (C : Addr) (k : Nat) (ps : List Str) (sp : Sp) : Prop :=
  ∃ f fd, OwnX K C ∧ PySem.W.findIn K (.ref C) "__init__" = some (some (.ref f)) ∧ PySem.W.typeIn K (.ref f) = some (.type "function") ∧ FnOk P w K mg base CX0 k f fd ps sp ∧ Binds K fd ps []
def MtX (P : Program) (w : World) (K : PySem.W.Frag) (mg : Str → Option Value) (base : Heap) (C : Addr) (m : Str) (k : Nat) (ps : List Str) (sp : Sp) : Prop :=
  ∃ f fd, PySem.W.findIn K (.ref C) m = some (some (.ref f)) ∧ PySem.W.isFn K (.ref f) = true ∧ PySem.W.keepIn K (.ref f) = true ∧ FnOk P w K mg base (L2.CX P w) k f fd ps sp ∧ Binds K fd ps []
section
variable {X : Cx} {C : Addr} {k : Nat} {ps : List Str} {sp : Sp} {x m : Str} {p pos apos : Pos} {e o : Expr} {es : List Expr} {t ta : TA} {to : TE} {E : XK}
theorem mk_xc (D : Xc X.prog X.w X.K X.mg X.base C k ps sp) (hr : Room (k + 1) X.A) (hg : Gl X x) (hm : X.mg x = some (.ref C)) (ha : PA X (e :: es) ta)
    (hdb : (x == ("__debug__" : Str)) = false := by decide) (he : starEach (e :: es) X.env = (false, eval e X.env) :: starEach es X.env := by rfl) (hpl : (backTo pos (starEach es X.env)).any (·.1) = false := by rfl) :
    PMk X (.Call (.Name x p) (e :: es) [] pos) (tMkO C sp [] ta) := by
  obtain ⟨f, fd, T, h1, h2, F, b⟩ := D
  exact pmkX (CX := CX0) T h1 h2 F hr b .nil (fun _ _ _ _ _ _ _ h => h.elim) hg hm ha hdb he hpl
theorem pe_mtX {pl : Sem Bool} (D : MtX X.prog X.w X.K X.mg X.base C m k ps sp) (hr : Room k X.A) (c : Cls X.K C) (hx : Passes (L2.CX X.prog X.w) X E) (he : PE X o to) (ha : PA X (e :: es) t)
    (hst : starEach (e :: es) X.env = (false, eval e X.env) :: starEach es X.env := by rfl) (hpl : (backTo pos (starEach es X.env)).any (·.1) = false := by rfl)
    (ht : eval (.Call (.Attribute o m apos) (e :: es) [] pos) X.env = (do
      let ov ← eval o X.env
      standAt apos.atName
      let (f, first) ← holding [ov] (getMethod ov m pl)
      callWith pos f first (backTo pos (starEach (e :: es) X.env)) (backToKw pos (keywordEach [] X.env))) := by rfl) :
    PE X (.Call (.Attribute o m apos) (e :: es) [] pos) (tMeth C m sp [] E to t) := by
  obtain ⟨f, fd, h1, h2, h3, F, b⟩ := D
  exact pe_meth (ds := []) he c ⟨h1, h2, h3⟩ F hr b .nil hx ha hst hpl ht
end
end My
set_option Elab.async false
set_option maxRecDepth 100000
set_option maxHeartbeats 4000000
namespace My
open PySem PySem.Spec PyProof.Rows L2
def joinAll (es : List (Int × Str)) (ls : List (List (Int × Str))) : List (Int × Str) := ls.foldl united es
inductive FSs (C : Addr) (U : List Int) (H : Hp) : List V → List (List (Int × Str)) → Prop
  | nil : FSs C U H [] []
  | cons {x : Addr} {es : List (Int × Str)} {vs : List V} {ls : List (List (Int × Str))} (h : FS C U H x es) (r : FSs C U H vs ls) : FSs C U H (.ref x :: vs) (es :: ls)
theorem FSs.same {C : Addr} {U : List Int} {H H' : Hp} (s : Same H H') : ∀ {vs : List V} {ls : List (List (Int × Str))}, FSs C U H vs ls → FSs C U H' vs ls
  | _, _, .nil => .nil
  | _, _, .cons h r => .cons (h.same s) (FSs.same s r)
theorem FSs.len {C : Addr} {U : List Int} {H : Hp} : ∀ {vs : List V} {ls : List (List (Int × Str))}, FSs C U H vs ls → vs.length = ls.length
  | _, _, .nil => rfl
  | _, _, .cons _ r => by rw [List.length_cons, List.length_cons, r.len]
theorem FSs.at {C : Addr} {U : List Int} {H : Hp} : ∀ {vs : List V} {ls : List (List (Int × Str))} {i : Nat} {v : V}, FSs C U H vs ls → vs[i]? = some v → ∃ x es, v = .ref x ∧ ls[i]? = some es ∧ FS C U H x es
  | _, _, i, v, .nil, h => by simp at h
  | _, _, 0, v, .cons h1 r, h => by
    cases Option.some.inj h
    exact ⟨_, _, rfl, rfl, h1⟩
  | _, _, i + 1, v, .cons h1 r, h => r.at h
def below (m : Nat) : List Int := (List.range m).map fun i : Nat => (i : Int)
theorem FD.app {U : List Int} {es fs : List (Int × Str)} (g : Good U es) (h : Good U fs) (i : Nat) : (ents (es ++ (fs.take i).filter fun p => !has es p.1)).length < sizeLine := by
  rw [ents_len, List.length_append]
  have h1 := g.len
  have h2 := h.len
  have h3 : ((fs.take i).filter fun p => !has es p.1).length ≤ fs.length := Nat.le_trans (List.length_filter_le _ _) (by rw [List.length_take]; omega)
  exact Nat.lt_of_le_of_lt (Nat.le_trans (Nat.add_le_add h1 (Nat.le_trans h3 h2)) (by decide : 1000 + 1000 ≤ 2000)) (by decide)
theorem name_sm {x : Str} (h : nameOk x = true) : sm (.str x) := by
  unfold nameOk at h
  rw [Bool.and_eq_true, Bool.and_eq_true] at h
  have h1 := of_decide_eq_true h.1.1
  refine ⟨?_, .inl ?_⟩
  · show x.length ≤ 100000
    omega
  · show x.cps.all (· < 0x110000) = true
    rw [Array.all_eq_true']
    intro c hc
    have := List.all_eq_true.mp h.2 c (by simpa using hc)
    have m := of_decide_eq_true this
    have : ∀ c ∈ abc.cps.toList, c < 0x110000 := by decide
    exact decide_eq_true (this c m)
end My
set_option Elab.async false
set_option maxRecDepth 100000
set_option maxHeartbeats 4000000
set_option linter.unusedVariables false
namespace My
open PySem PySem.Spec PyProof.Rows L2
abbrev Rl := List (Int × Str) → List (Int × Str) → Prop
def Pairs (C : Addr) (U : List Int) (R : Rl) (H : Hp) (ps : List V) : Prop := ∀ v ∈ ps, ∃ t x y es fs, v = V.ref t ∧ H t = some (.tup [.ref x, .ref y]) ∧ FS C U H x es ∧ FS C U H y fs ∧ R es fs
theorem Pairs.same {C : Addr} {U : List Int} {R : Rl} {H H' : Hp} {ps : List V} (h : Pairs C U R H ps) (s : Same H H') : Pairs C U R H' ps := fun v hv => by
  obtain ⟨t, x, y, es, fs, h1, h2, h3, h4, h5⟩ := h v hv
  exact ⟨t, x, y, es, fs, h1, s _ _ h2, h3.same s, h4.same s, h5⟩
theorem FS.upd {C : Addr} {U : List Int} {H : Hp} {D x : Addr} {ls : List V} {o : HO} {es : List (Int × Str)} (h : FS C U H x es) (e : H D = some (.lst ls)) : FS C U (upd H D o) x es := by
  obtain ⟨dx, d, h1, h2, h3⟩ := h
  refine ⟨dx, d, (upd_ne fun z => ?_).trans h1, (upd_ne fun z => ?_).trans h2, h3⟩
  · rw [z, e] at h1; cases h1
  · rw [z, e] at h2; cases h2
theorem Pairs.upd {C : Addr} {U : List Int} {R : Rl} {H : Hp} {D : Addr} {ls : List V} {o : HO} {ps : List V} (h : Pairs C U R H ps) (e : H D = some (.lst ls)) : Pairs C U R (L2.upd H D o) ps := fun v hv => by
  obtain ⟨t, x, y, es, fs, h1, h2, h3, h4, h5⟩ := h v hv
  exact ⟨t, x, y, es, fs, h1, (upd_ne fun z => by rw [z, e] at h2; cases h2).trans h2, h3.upd e, h4.upd e, h5⟩
theorem Pairs.app {C : Addr} {U : List Int} {R : Rl} {H : Hp} {ps qs : List V} (h : Pairs C U R H ps) (g : Pairs C U R H qs) : Pairs C U R H (ps ++ qs) := fun v hv => by
  rcases List.mem_append.mp hv with hv | hv
  · exact h v hv
  · exact g v hv
end My
set_option Elab.async false
set_option maxRecDepth 100000
set_option maxHeartbeats 4000000
set_option linter.unusedVariables false
set_option Elab.async false
set_option maxRecDepth 100000
set_option maxHeartbeats 4000000
set_option linter.unusedVariables false
namespace My
open PySem PySem.Spec PyProof.Rows L2
theorem sqT_chg {K : PySem.W.Frag} {H H' : Hp} {a t : Addr} {ls xs : List V} (e : H a = some (.lst ls)) (x : Ext a H H') (h : SqT K H t xs) : SqT K H' t xs := by
  rcases h with (h | ⟨o, h⟩) | h
  · exact .inl (.inl (x _ _ (fun z => by rw [z, e] at h; cases h) h))
  · exact .inl (.inr ⟨o, x _ _ (fun z => by rw [z, e] at h; cases h) h⟩)
  · exact .inr h
theorem ElAll.chg {K : PySem.W.Frag} {H H' : Hp} {a : Addr} {ls : List V} (e : H a = some (.lst ls)) (x : Ext a H H') : ∀ {vs : List V} {es : List (Int × Str)}, ElAll K H vs es → ElAll K H' vs es
  | _, _, .nil => .nil
  | _, _, .cons h hk hx r => .cons (sqT_chg e x h) hk hx (ElAll.chg e x r)
theorem ElAll.app {K : PySem.W.Frag} {H : Hp} {t : Addr} {k : Int} {x : Str} (h : SqT K H t [.int k, .str x]) (hk : 0 ≤ k ∧ k ≤ 999999) (hx : nameOk x = true) :
    ∀ {vs : List V} {es : List (Int × Str)}, ElAll K H vs es → ElAll K H (vs ++ [.ref t]) (es ++ [(k, x)])
  | _, _, .nil => .cons h hk hx .nil
  | _, _, .cons h1 hk1 hx1 r => .cons h1 hk1 hx1 (ElAll.app h hk hx r)
theorem FS.chg {C : Addr} {U : List Int} {H H' : Hp} {g x : Addr} {ls : List V} {es : List (Int × Str)} (e : H g = some (.lst ls)) (s : Ext g H H') (h : FS C U H x es) : FS C U H' x es := by
  obtain ⟨dx, d, h1, h2, h3⟩ := h
  exact ⟨dx, d, s _ _ (fun z => by rw [z, e] at h1; cases h1) h1, s _ _ (fun z => by rw [z, e] at h2; cases h2) h2, h3⟩
theorem FSs.chg {C : Addr} {U : List Int} {H H' : Hp} {g : Addr} {ls : List V} (e : H g = some (.lst ls)) (s : Ext g H H') : ∀ {vs : List V} {es : List (List (Int × Str))}, FSs C U H vs es → FSs C U H' vs es
  | _, _, .nil => .nil
  | _, _, .cons h r => .cons (h.chg e s) (FSs.chg e s r)
theorem FSs.app {C : Addr} {U : List Int} {H : Hp} {x : Addr} {es : List (Int × Str)} (h : FS C U H x es) : ∀ {vs : List V} {ls : List (List (Int × Str))}, FSs C U H vs ls → FSs C U H (vs ++ [.ref x]) (ls ++ [es])
  | _, _, .nil => .cons h .nil
  | _, _, .cons h1 r => .cons h1 (FSs.app h r)
end My
set_option Elab.async false
set_option maxRecDepth 100000
set_option maxHeartbeats 4000000
set_option linter.unusedVariables false
namespace My
open PySem PySem.Spec PyProof.Rows L2
section
variable {P : Program} {w : World} {s : Shared} {A : Around} {E : Value → Shared → Prop}
abbrev bare (w : World) : Obj := { cls := .type "set", dict := none, data := .set #[] 0 (.fresh 0 0 (!w.params.followText "set-order")) }
end
end My
set_option Elab.async false
set_option maxRecDepth 100000
set_option maxHeartbeats 4000000
set_option linter.unusedVariables false
set_option Elab.async false
set_option maxRecDepth 100000
set_option maxHeartbeats 4000000
set_option linter.unusedVariables false
set_option Elab.async false
set_option maxRecDepth 100000
set_option maxHeartbeats 4000000
set_option linter.unusedVariables false
namespace My
open PySem PySem.Spec PyProof.Rows L2
def Ent (h : Heap) (v : Value) (x : Int) (y : Str) : Prop := ∃ a o t u n, v = .ref a ∧ h.get? a = some o ∧ o.cls = .type "tuple" ∧ o.data = .seq #[.int x t, .str y u] n
theorem Ent.keeps {h h' : Heap} {v : Value} {x : Int} {y : Str} (p : Ent h v x y) (k : ∀ b o, h.get? b = some o → o.cls = .type "tuple" → h'.get? b = some o) : Ent h' v x y := by
  obtain ⟨a, o, t, u, n, e, ho, hc, hd⟩ := p
  exact ⟨a, o, t, u, n, e, k a o ho hc, hc, hd⟩
end My
set_option Elab.async false
set_option maxRecDepth 100000
set_option maxHeartbeats 4000000
set_option linter.unusedVariables false
namespace My
open PySem PySem.Spec PyProof.Rows L2 L2.DX
inductive TupS (H : Hp) : List V → List (Int × Str) → Prop
  | nil : TupS H [] []
  | cons {a : Addr} {k : Int} {x : Str} {vs : List V} {es : List (Int × Str)} (h : H a = some (.tup [.int k, .str x])) (r : TupS H vs es) : TupS H (.ref a :: vs) ((k, x) :: es)
end My
set_option Elab.async false
set_option maxRecDepth 100000
set_option linter.unusedVariables false
namespace My
open PySem
section
variable {α β : Type}
def lk (es : List (Int × α)) (k : Int) : Option α := (es.find? fun p => decide (p.1 = k)).map (·.2)
def ks (es : List (Int × α)) : List Int := es.map (·.1)
def hs (es : List (Int × α)) (k : Int) : Bool := (lk es k).isSome
theorem lk_cons (p : Int × α) (es : List (Int × α)) (k : Int) : lk (p :: es) k = if p.1 = k then some p.2 else lk es k := by
  unfold lk
  rw [List.find?_cons]
  by_cases e : p.1 = k
  · rw [if_pos e, decide_eq_true e]; rfl
  · rw [if_neg e, decide_eq_false e]
theorem ks_len (es : List (Int × α)) : (ks es).length = es.length := List.length_map _
theorem ks_app (es fs : List (Int × α)) : ks (es ++ fs) = ks es ++ ks fs := List.map_append
theorem lk_none {es : List (Int × α)} {k : Int} : lk es k = none ↔ k ∉ ks es := by
  induction es with
  | nil => exact ⟨fun _ => List.not_mem_nil, fun _ => rfl⟩
  | cons p es ih =>
    rw [lk_cons]
    unfold ks at ih ⊢
    rw [List.map_cons, List.mem_cons, not_or]
    by_cases e : p.1 = k
    · rw [if_pos e]
      exact ⟨fun z => (nomatch z), fun z => absurd e.symm z.1⟩
    · rw [if_neg e, ih]
      exact ⟨fun z => ⟨fun q => e q.symm, z⟩, fun z => z.2⟩
theorem hs_iff {es : List (Int × α)} {k : Int} : hs es k = true ↔ k ∈ ks es := by
  unfold hs
  cases e : lk es k with
  | none =>
    refine ⟨fun z => ?_, fun z => absurd z (lk_none.mp e)⟩
    cases z
  | some x =>
    refine ⟨fun _ => Decidable.byContradiction fun n => ?_, fun _ => rfl⟩
    rw [lk_none.mpr n] at e
    cases e
theorem lk_mem {es : List (Int × α)} {k : Int} {x : α} (h : lk es k = some x) : (k, x) ∈ es := by
  induction es with
  | nil => cases h
  | cons p r ih =>
    rw [lk_cons] at h
    by_cases e : p.1 = k
    · rw [if_pos e] at h
      cases h
      subst e
      exact List.mem_cons_self
    · rw [if_neg e] at h
      exact List.mem_cons_of_mem _ (ih h)
theorem ks_filter_sub (c : Int × α → Bool) (es : List (Int × α)) : (ks (es.filter c)).Sublist (ks es) := List.Sublist.map _ List.filter_sublist
def putA (es : List (Int × α)) (k : Int) (x : α) : List (Int × α) := if hs es k = true then es.map fun p => if p.1 = k then (p.1, x) else p else es ++ [(k, x)]
theorem ks_put (es : List (Int × α)) (k : Int) (x : α) : ks (putA es k x) = if hs es k = true then ks es else ks es ++ [k] := by
  unfold putA
  by_cases h : hs es k = true
  · rw [if_pos h, if_pos h]
    unfold ks
    rw [List.map_map]
    refine List.map_congr_left fun p _ => ?_
    show (if p.1 = k then (p.1, x) else p).1 = p.1
    split <;> rfl
  · rw [if_neg h, if_neg h, ks_app]
    rfl
theorem put_all {P : Int × α → Prop} {es : List (Int × α)} (h : ∀ p ∈ es, P p) (k : Int) (x : α) (hx : P (k, x)) : ∀ p ∈ putA es k x, P p := by
  intro p hp
  unfold putA at hp
  split at hp
  · obtain ⟨q, hq, rfl⟩ := List.mem_map.mp hp
    split
    · rename_i e; rw [e]; exact hx
    · exact h q hq
  · rcases List.mem_append.mp hp with hp | hp
    · exact h p hp
    · rw [List.mem_singleton.mp hp]; exact hx
theorem nd_sub : ∀ {l U : List Int}, l.Nodup → (∀ k ∈ l, k ∈ U) → l.length ≤ U.length
  | [], U, _, _ => Nat.zero_le _
  | a :: r, U, nd, h => by
    have ha : a ∈ U := h a List.mem_cons_self
    have := nd_sub (l := r) (U := U.erase a) (List.nodup_cons.mp nd).2 fun k hk =>
      (List.mem_erase_of_ne (fun e : k = a => (List.nodup_cons.mp nd).1 (by rw [← e]; exact hk))).mpr (h k (List.mem_cons_of_mem _ hk))
    rw [List.length_erase_of_mem ha] at this
    have p := List.length_pos_of_mem ha
    rw [List.length_cons]
    omega
def Gd (U : List Int) (es : List (Int × α)) : Prop := (ks es).Nodup ∧ (∀ k ∈ ks es, k ∈ U) ∧ U.length ≤ 1000
theorem Gd.len {U : List Int} {es : List (Int × α)} (g : Gd U es) : es.length ≤ 1000 := by
  have := nd_sub g.1 g.2.1
  rw [ks_len] at this
  exact Nat.le_trans this g.2.2
theorem Gd.nil {U : List Int} (h : U.length ≤ 1000) : Gd U ([] : List (Int × α)) := ⟨List.nodup_nil, fun _ h => (nomatch h), h⟩
theorem Gd.filter {U : List Int} {es : List (Int × α)} (g : Gd U es) (c : Int × α → Bool) : Gd U (es.filter c) :=
  ⟨g.1.sublist (ks_filter_sub c es), fun k hk => g.2.1 k ((ks_filter_sub c es).subset hk), g.2.2⟩
theorem Gd.put {U : List Int} {es : List (Int × α)} (g : Gd U es) {k : Int} (x : α) (hk : k ∈ U) : Gd U (putA es k x) := by
  unfold Gd
  rw [ks_put]
  by_cases h : hs es k = true
  · rw [if_pos h]; exact g
  · rw [if_neg h]
    refine ⟨List.nodup_append.mpr ⟨g.1, List.nodup_cons.mpr ⟨List.not_mem_nil, List.nodup_nil⟩, fun a ha b hb e => ?_⟩, fun q hq => ?_, g.2.2⟩
    · rw [List.mem_singleton.mp hb] at e
      rw [e] at ha
      exact h (hs_iff.mpr ha)
    · rcases List.mem_append.mp hq with hq | hq
      · exact g.2.1 q hq
      · rw [List.mem_singleton.mp hq]; exact hk
end
abbrev Rw := Str × Int
def over1 (a : Option Rw) (b : Rw) : Rw := ((a.map (·.1)).getD b.1, b.2)
def over (a b : Option Rw) : Option Rw := match b with
  | none => a
  | some r => some (over1 a r)
def lay1 (base acc : List (Int × Rw)) (r : Int × Rw) : List (Int × Rw) := putA acc r.1 (over1 (lk base r.1) r.2)
def laid1 (acc : List (Int × Rw)) (r : Int × Rw) : List (Int × Rw) := lay1 acc acc r
def laidA (es fs : List (Int × Rw)) : List (Int × Rw) := fs.foldl laid1 es
section
variable {U : List Int} {P : Int × Rw → Prop}
theorem Gd.lay {acc : List (Int × Rw)} (base : List (Int × Rw)) {r : Int × Rw} (g : Gd U acc) (h : r.1 ∈ U) : Gd U (lay1 base acc r) := g.put _ h
theorem Gd.laid {es fs : List (Int × Rw)} (g : Gd U es) (h : ∀ p ∈ fs, p.1 ∈ U) : Gd U (laidA es fs) := by
  unfold laidA
  induction fs generalizing es with
  | nil => exact g
  | cons p r ih => exact ih (g.lay es (h p List.mem_cons_self)) fun q hq => h q (List.mem_cons_of_mem _ hq)
end
end My
set_option Elab.async false
set_option maxRecDepth 100000
set_option maxHeartbeats 4000000
set_option linter.unusedVariables false
namespace My
open PySem PySem.Spec PyProof.Rows L2
def EntV (h : Heap) (v : Value) (x : Int) (y : Value) : Prop := ∃ a o t n, v = .ref a ∧ h.get? a = some o ∧ o.cls = .type "tuple" ∧ o.data = .seq #[.int x t, y] n
theorem EntV.keeps {h h' : Heap} {v : Value} {x : Int} {y : Value} (p : EntV h v x y) (k : ∀ b o, h.get? b = some o → o.cls = .type "tuple" → h'.get? b = some o) : EntV h' v x y := by
  obtain ⟨a, o, t, n, e, ho, hc, hd⟩ := p
  exact ⟨a, o, t, n, e, k a o ho hc, hc, hd⟩
end My
set_option Elab.async false
set_option maxRecDepth 100000
set_option maxHeartbeats 4000000
set_option linter.unusedVariables false
namespace My
open PySem PySem.Spec PyProof.Rows L2 L2.DX
theorem tupS_same {H H' : Hp} (s : Same H H') : ∀ {ts : List V} {es : List (Int × Str)}, TupS H ts es → TupS H' ts es
  | _, _, .nil => .nil
  | _, _, .cons h r => .cons (s _ _ h) (tupS_same s r)
theorem tupS_chg {H H' : Hp} {a : Addr} {ls : List V} (e : H a = some (.lst ls)) (x : Ext a H H') : ∀ {ts : List V} {es : List (Int × Str)}, TupS H ts es → TupS H' ts es
  | _, _, .nil => .nil
  | _, _, .cons h r => .cons (x _ _ (fun z => by rw [z, e] at h; cases h) h) (tupS_chg e x r)
theorem name_lay {x : Str} (h : nameOk x = true) : PyData.canLay0 (.str x) = true := by
  rcases (name_sm h).2 with q | ⟨_, q⟩
  · exact q
  · cases q
def NE (es : List (Int × Str)) : Prop := ∀ p ∈ es, nameOk p.2 = true
inductive FDs (U : List Int) (H : Hp) : List V → List (List (Int × Str)) → Prop
  | nil : FDs U H [] []
  | cons {x : Addr} {es : List (Int × Str)} {vs : List V} {ls : List (List (Int × Str))} (h : FD U H x es) (r : FDs U H vs ls) : FDs U H (.ref x :: vs) (es :: ls)
theorem FDs.same {U : List Int} {H H' : Hp} (s : Same H H') : ∀ {vs : List V} {ls : List (List (Int × Str))}, FDs U H vs ls → FDs U H' vs ls
  | _, _, .nil => .nil
  | _, _, .cons h r => .cons (h.same s) (FDs.same s r)
theorem FDs.len {U : List Int} {H : Hp} : ∀ {vs : List V} {ls : List (List (Int × Str))}, FDs U H vs ls → vs.length = ls.length
  | _, _, .nil => rfl
  | _, _, .cons _ r => by rw [List.length_cons, List.length_cons, r.len]
theorem FDs.at {U : List Int} {H : Hp} : ∀ {vs : List V} {ls : List (List (Int × Str))} {i : Nat} {v : V}, FDs U H vs ls → vs[i]? = some v → ∃ x es, v = .ref x ∧ ls[i]? = some es ∧ FD U H x es
  | _, _, i, v, .nil, h => by simp at h
  | _, _, 0, v, .cons h1 r, h => by
    cases Option.some.inj h
    exact ⟨_, _, rfl, rfl, h1⟩
  | _, _, i + 1, v, .cons h1 r, h => r.at h
end My
set_option Elab.async false
set_option maxRecDepth 100000
set_option maxHeartbeats 4000000
set_option linter.unusedVariables false
namespace My
open PySem PySem.Spec PyProof.Rows L2 L2.DX
def putE (es : List (Int × Str)) (k : Int) (x : Str) : List (Int × Str) := if has es k = true then es.map fun p => if p.1 = k then (p.1, x) else p else es ++ [(k, x)]
theorem keys_put (es : List (Int × Str)) (k : Int) (x : Str) : keys (putE es k x) = if has es k = true then keys es else keys es ++ [k] := by
  unfold putE
  by_cases h : has es k = true
  · rw [if_pos h, if_pos h]
    unfold keys
    rw [List.map_map]
    refine List.map_congr_left fun p _ => ?_
    show (if p.1 = k then (p.1, x) else p).1 = p.1
    split <;> rfl
  · rw [if_neg h, if_neg h, keys_app]
    rfl
theorem Good.put {U : List Int} {es : List (Int × Str)} (g : Good U es) {k : Int} (x : Str) (hk : k ∈ U) : Good U (putE es k x) := by
  unfold Good
  rw [keys_put]
  by_cases h : has es k = true
  · rw [if_pos h]; exact g
  · rw [if_neg h]
    refine ⟨List.nodup_append.mpr ⟨g.1, List.nodup_cons.mpr ⟨List.not_mem_nil, List.nodup_nil⟩, fun a ha b hb e => ?_⟩, fun q hq => ?_, g.2.2⟩
    · rw [List.mem_singleton.mp hb] at e
      rw [e] at ha
      exact h (has_iff.mpr ha)
    · rcases List.mem_append.mp hq with hq | hq
      · exact g.2.1 q hq
      · rw [List.mem_singleton.mp hq]; exact hk
theorem NE.put {es : List (Int × Str)} (g : NE es) (k : Int) {x : Str} (hx : nameOk x = true) : NE (putE es k x) := by
  unfold putE
  intro p hp
  by_cases h : has es k = true
  · rw [if_pos h] at hp
    obtain ⟨q, hq, rfl⟩ := List.mem_map.mp hp
    split
    · exact hx
    · exact g q hq
  · rw [if_neg h] at hp
    rcases List.mem_append.mp hp with hp | hp
    · exact g p hp
    · rw [List.mem_singleton.mp hp]; exact hx
end My
set_option Elab.async false
set_option maxRecDepth 100000
set_option maxHeartbeats 4000000
set_option linter.unusedVariables false
namespace My
open PySem PySem.Spec PyProof.Rows L2 L2.DX
theorem FD.chg {U : List Int} {H H' : Hp} {g d : Addr} {ls : List V} {es : List (Int × Str)} (e : H g = some (.lst ls)) (s : Ext g H H') (h : FD U H d es) : FD U H' d es :=
  ⟨s _ _ (fun z => by have := h.1; rw [z, e] at this; cases this) h.1, h.2⟩
theorem FDs.chg {U : List Int} {H H' : Hp} {g : Addr} {ls : List V} (e : H g = some (.lst ls)) (s : Ext g H H') : ∀ {vs : List V} {es : List (List (Int × Str))}, FDs U H vs es → FDs U H' vs es
  | _, _, .nil => .nil
  | _, _, .cons h r => .cons (h.chg e s) (FDs.chg e s r)
theorem FDs.app {U : List Int} {H : Hp} {x : Addr} {es : List (Int × Str)} (h : FD U H x es) : ∀ {vs : List V} {ls : List (List (Int × Str))}, FDs U H vs ls → FDs U H (vs ++ [.ref x]) (ls ++ [es])
  | _, _, .nil => .cons h .nil
  | _, _, .cons h1 r => .cons h1 (FDs.app h r)
theorem FDs.set {U : List Int} {H : Hp} {x : Addr} {es : List (Int × Str)} (h : FD U H x es) : ∀ {vs : List V} {ls : List (List (Int × Str))} (i : Nat), FDs U H vs ls → FDs U H (vs.set i (.ref x)) (ls.set i es)
  | _, _, _, .nil => .nil
  | _, _, 0, .cons h1 r => .cons h r
  | _, _, i + 1, .cons h1 r => .cons h1 (FDs.set h i r)
theorem NE.join {ls : List (List (Int × Str))} (h : ∀ es ∈ ls, NE es) : NE (joinAll [] ls) := by
  have : ∀ (ls : List (List (Int × Str))) (acc : List (Int × Str)), NE acc → (∀ es ∈ ls, NE es) → NE (ls.foldl united acc) := by
    intro ls
    induction ls with
    | nil => exact fun acc g _ => g
    | cons x r ih =>
      refine fun acc g h => ih _ (fun p hp => ?_) fun y hy => h y (List.mem_cons_of_mem _ hy)
      unfold united at hp
      rcases List.mem_append.mp hp with hp | hp
      · exact g p hp
      · exact h x List.mem_cons_self p (List.mem_filter.mp hp).1
  exact this ls [] (fun p hp => (nomatch hp)) h
theorem FDs.take {U : List Int} {H : Hp} : ∀ {vs : List V} {ls : List (List (Int × Str))} (i : Nat), FDs U H vs ls → FDs U H (vs.take i) (ls.take i)
  | _, _, 0, _ => by rw [List.take_zero, List.take_zero]; exact .nil
  | _, _, i + 1, .nil => .nil
  | _, _, i + 1, .cons h r => .cons h (FDs.take i r)
end My
set_option Elab.async false
set_option maxRecDepth 100000
set_option maxHeartbeats 4000000
set_option linter.unusedVariables false
namespace My
open PySem PySem.Spec PyProof.Rows L2 L2.DX
def entsV (es : List (Int × V)) : List (Key × V) := es.map fun p => (Sum.inl p.1, p.2)
inductive Rws (K : PySem.W.Frag) (H : Hp) : List (Int × V) → List (Int × Rw) → Prop
  | nil : Rws K H [] []
  | cons {t : Addr} {k : Int} {x : Str} {v : Int} {es : List (Int × V)} {rs : List (Int × Rw)} (h : SqT K H t [.str x, .int v]) (r : Rws K H es rs) : Rws K H ((k, .ref t) :: es) ((k, (x, v)) :: rs)
section
variable {K : PySem.W.Frag} {H H' : Hp}
theorem Rws.same (s : Same H H') : ∀ {es : List (Int × V)} {rs : List (Int × Rw)}, Rws K H es rs → Rws K H' es rs
  | _, _, .nil => .nil
  | _, _, .cons h r => .cons (sqT_same s h) (Rws.same s r)
theorem sqT_chg2 {K : PySem.W.Frag} {H H' : Hp} {a t : Addr} {o : HO} {xs : List V} (e : H a = some o) (n1 : ∀ ys, o ≠ .tup ys) (n2 : ∀ q ys, o ≠ .frz q (.tup ys)) (x : Ext a H H') (h : SqT K H t xs) : SqT K H' t xs := by
  rcases h with (h | ⟨q, h⟩) | h
  · exact .inl (.inl (x _ _ (fun z => by rw [z, e] at h; exact n1 _ (Option.some.inj h)) h))
  · exact .inl (.inr ⟨q, x _ _ (fun z => by rw [z, e] at h; exact n2 _ _ (Option.some.inj h)) h⟩)
  · exact .inr h
theorem Rws.chg2 {a : Addr} {o : HO} (e : H a = some o) (n1 : ∀ ys, o ≠ .tup ys) (n2 : ∀ q ys, o ≠ .frz q (.tup ys)) (x : Ext a H H') : ∀ {es : List (Int × V)} {rs : List (Int × Rw)}, Rws K H es rs → Rws K H' es rs
  | _, _, .nil => .nil
  | _, _, .cons h r => .cons (sqT_chg2 e n1 n2 x h) (Rws.chg2 e n1 n2 x r)
theorem Rws.chg {a : Addr} {ls : List V} (e : H a = some (.lst ls)) (x : Ext a H H') {es : List (Int × V)} {rs : List (Int × Rw)} (r : Rws K H es rs) : Rws K H' es rs :=
  r.chg2 e (fun _ z => nomatch z) (fun _ _ z => nomatch z) x
theorem Rws.ks : ∀ {es : List (Int × V)} {rs : List (Int × Rw)}, Rws K H es rs → My.ks es = My.ks rs
  | _, _, .nil => rfl
  | _, _, .cons (k := k) h r => congrArg (k :: ·) r.ks
theorem Rws.len {es : List (Int × V)} {rs : List (Int × Rw)} (h : Rws K H es rs) : es.length = rs.length := by
  rw [← ks_len, h.ks, ks_len]
theorem Rws.at : ∀ {es : List (Int × V)} {rs : List (Int × Rw)} {i : Nat} {k : Int} {v : V}, Rws K H es rs → es[i]? = some (k, v) → ∃ t x n, v = .ref t ∧ rs[i]? = some (k, (x, n)) ∧ SqT K H t [.str x, .int n]
  | _, _, i, _, _, .nil, h => by simp at h
  | _, _, 0, _, _, .cons h1 r, h => by
    cases Option.some.inj h
    exact ⟨_, _, _, rfl, rfl, h1⟩
  | _, _, i + 1, _, _, .cons h1 r, h => r.at h
theorem Rws.lk (k : Int) : ∀ {es : List (Int × V)} {rs : List (Int × Rw)}, Rws K H es rs → (My.lk es k = none ∧ My.lk rs k = none) ∨ ∃ t x n, My.lk es k = some (.ref t) ∧ My.lk rs k = some (x, n) ∧ SqT K H t [.str x, .int n]
  | _, _, .nil => .inl ⟨rfl, rfl⟩
  | _, _, .cons (t := t) (k := j) (x := x) (v := v) (es := es) (rs := rs) h r => by
    rw [lk_cons, lk_cons]
    by_cases e : j = k
    · rw [if_pos e, if_pos e]
      exact .inr ⟨t, x, v, rfl, rfl, h⟩
    · rw [if_neg e, if_neg e]
      exact r.lk k
theorem Rws.hs {es : List (Int × V)} {rs : List (Int × Rw)} (h : Rws K H es rs) (k : Int) : My.hs es k = My.hs rs k := by
  unfold My.hs
  rcases h.lk k with ⟨h1, h2⟩ | ⟨t, x, n, h1, h2, _⟩
  · rw [h1, h2]; rfl
  · rw [h1, h2]; rfl
theorem Rws.app : ∀ {es fs : List (Int × V)} {rs qs : List (Int × Rw)}, Rws K H es rs → Rws K H fs qs → Rws K H (es ++ fs) (rs ++ qs)
  | _, _, _, _, .nil, g => g
  | _, _, _, _, .cons h r, g => .cons h (Rws.app r g)
theorem Rws.mapPut {k : Int} {t : Addr} {x : Str} {n : Int} (ht : SqT K H t [.str x, .int n]) : ∀ {es : List (Int × V)} {rs : List (Int × Rw)}, Rws K H es rs → Rws K H (es.map fun p => if p.1 = k then (p.1, .ref t) else p) (rs.map fun p => if p.1 = k then (p.1, (x, n)) else p)
  | _, _, .nil => .nil
  | _, _, .cons (t := u) (k := j) (x := y) (v := v) (es := es) (rs := rs) h r => by
    rw [List.map_cons, List.map_cons]
    show Rws K H ((if j = k then (j, V.ref t) else (j, V.ref u)) :: _) ((if j = k then (j, (x, n)) else (j, (y, v))) :: _)
    by_cases e : j = k
    · rw [if_pos e, if_pos e]
      exact .cons ht (Rws.mapPut ht r)
    · rw [if_neg e, if_neg e]
      exact .cons h (Rws.mapPut ht r)
theorem Rws.put {es : List (Int × V)} {rs : List (Int × Rw)} (h : Rws K H es rs) (k : Int) {t : Addr} {x : Str} {n : Int} (ht : SqT K H t [.str x, .int n]) : Rws K H (putA es k (.ref t)) (putA rs k (x, n)) := by
  unfold putA
  rw [h.hs k]
  split
  · exact h.mapPut ht
  · exact h.app (.cons ht .nil)
theorem Rws.filter (c : Int → Bool) : ∀ {es : List (Int × V)} {rs : List (Int × Rw)}, Rws K H es rs → Rws K H (es.filter fun p => c p.1) (rs.filter fun p => c p.1)
  | _, _, .nil => .nil
  | _, _, .cons (k := j) h r => by
    rw [List.filter_cons, List.filter_cons]
    dsimp only
    split
    · exact .cons h (r.filter c)
    · exact r.filter c
theorem Rws.take : ∀ {es : List (Int × V)} {rs : List (Int × Rw)} (i : Nat), Rws K H es rs → Rws K H (es.take i) (rs.take i)
  | _, _, 0, _ => by rw [List.take_zero, List.take_zero]; exact .nil
  | _, _, i + 1, .nil => .nil
  | _, _, i + 1, .cons h r => .cons h (r.take i)
end
def rowOk (r : Int × Rw) : Prop := (0 ≤ r.1 ∧ r.1 ≤ 999999) ∧ nameOk r.2.1 = true ∧ (1 - 10 ^ 40 ≤ r.2.2 ∧ r.2.2 ≤ 10 ^ 40 - 1)
def VR (rs : List (Int × Rw)) : Prop := ∀ r ∈ rs, rowOk r
def RD (K : PySem.W.Frag) (U : List Int) (H : Hp) (d : Addr) (rs : List (Int × Rw)) : Prop := ∃ es, H d = some (.dK (entsV es)) ∧ Rws K H es rs ∧ Gd U rs
def DD (K : PySem.W.Frag) (C : Addr) (U : List Int) (H : Hp) (x : Addr) (rs : List (Int × Rw)) : Prop := ∃ dx d, H x = some (.ins C dx [("_rows", .ref d)]) ∧ RD K U H d rs ∧ VR rs
section
variable {K : PySem.W.Frag} {C : Addr} {U : List Int} {H H' : Hp} {d x : Addr} {rs qs : List (Int × Rw)}
theorem RD.same (h : RD K U H d rs) (s : Same H H') : RD K U H' d rs := by
  obtain ⟨es, h1, h2, h3⟩ := h
  exact ⟨es, s _ _ h1, h2.same s, h3⟩
theorem DD.same (h : DD K C U H x rs) (s : Same H H') : DD K C U H' x rs := by
  obtain ⟨dx, d, h1, h2, h3⟩ := h
  exact ⟨dx, d, s _ _ h1, h2.same s, h3⟩
theorem RD.chg {g : Addr} {ls : List V} (e : H g = some (.lst ls)) (s : Ext g H H') (h : RD K U H d rs) : RD K U H' d rs := by
  obtain ⟨es, h1, h2, h3⟩ := h
  exact ⟨es, s _ _ (fun z => by rw [z, e] at h1; cases h1) h1, h2.chg e s, h3⟩
theorem DD.chg {g : Addr} {ls : List V} (e : H g = some (.lst ls)) (s : Ext g H H') (h : DD K C U H x rs) : DD K C U H' x rs := by
  obtain ⟨dx, d, h1, h2, h3⟩ := h
  exact ⟨dx, d, s _ _ (fun z => by rw [z, e] at h1; cases h1) h1, h2.chg e s, h3⟩
theorem VR.put {k : Int} {r : Rw} (h : VR rs) (hr : rowOk (k, r)) : VR (putA rs k r) := put_all h k r hr
theorem VR.lay {base : List (Int × Rw)} {r : Int × Rw} (h : VR rs) (hb : VR base) (hr : rowOk r) : VR (lay1 base rs r) := by
  refine h.put ?_
  unfold over1
  cases e : lk base r.1 with
  | none => exact hr
  | some p => exact ⟨hr.1, (hb _ (lk_mem e)).2.1, hr.2.2⟩
theorem VR.laid (h : VR rs) (g : VR qs) : VR (laidA rs qs) := by
  unfold laidA
  induction qs generalizing rs with
  | nil => exact h
  | cons p r ih => exact ih (VR.lay (base := rs) h h (g p List.mem_cons_self)) fun q hq => g q (List.mem_cons_of_mem _ hq)
theorem VR.filter (h : VR rs) (c : Int × Rw → Bool) : VR (rs.filter c) := fun r hr => h r (List.mem_filter.mp hr).1
end
end My
set_option Elab.async false
set_option maxRecDepth 100000
set_option maxHeartbeats 4000000
set_option linter.unusedVariables false
namespace My
open PySem PySem.Spec PyProof.Rows L2 L2.DX
inductive TupV (H : Hp) : List V → List (Int × V) → Prop
  | nil : TupV H [] []
  | cons {a : Addr} {k : Int} {x : V} {vs : List V} {es : List (Int × V)} (h : H a = some (.tup [.int k, x])) (r : TupV H vs es) : TupV H (.ref a :: vs) ((k, x) :: es)
theorem TupV.at {H : Hp} : ∀ {ts : List V} {es : List (Int × V)} {i : Nat} {v : V}, TupV H ts es → ts[i]? = some v → ∃ a k x, v = .ref a ∧ es[i]? = some (k, x) ∧ H a = some (.tup [.int k, x])
  | _, _, i, v, .nil, h => by simp at h
  | _, _, 0, v, .cons h1 r, h => by
    cases Option.some.inj h
    exact ⟨_, _, _, rfl, rfl, h1⟩
  | _, _, i + 1, v, .cons h1 r, h => r.at h
theorem TupV.len {H : Hp} : ∀ {ts : List V} {es : List (Int × V)}, TupV H ts es → ts.length = es.length
  | _, _, .nil => rfl
  | _, _, .cons _ r => by rw [List.length_cons, List.length_cons, r.len]
theorem TupV.same {H H' : Hp} (s : Same H H') : ∀ {ts : List V} {es : List (Int × V)}, TupV H ts es → TupV H' ts es
  | _, _, .nil => .nil
  | _, _, .cons h r => .cons (s _ _ h) (TupV.same s r)
end My
set_option Elab.async false
set_option maxRecDepth 100000
set_option maxHeartbeats 4000000
set_option linter.unusedVariables false
set_option Elab.async false
set_option maxRecDepth 100000
set_option maxHeartbeats 4000000
set_option linter.unusedVariables false
namespace My
open PySem PySem.Spec PyProof.Rows L2 L2.DX
inductive EnAll (K : PySem.W.Frag) (H : Hp) : List V → List (Int × Rw) → Prop
  | nil : EnAll K H [] []
  | cons {t : Addr} {k : Int} {x : Str} {n : Int} {vs : List V} {rs : List (Int × Rw)} (h : SqT K H t [.int k, .str x, .int n]) (ok : rowOk (k, (x, n))) (r : EnAll K H vs rs) : EnAll K H (.ref t :: vs) ((k, (x, n)) :: rs)
inductive Tup3 (H : Hp) : List V → List (Int × Rw) → Prop
  | nil : Tup3 H [] []
  | cons {t : Addr} {k : Int} {x : Str} {n : Int} {vs : List V} {rs : List (Int × Rw)} (h : H t = some (.tup [.int k, .str x, .int n])) (r : Tup3 H vs rs) : Tup3 H (.ref t :: vs) ((k, (x, n)) :: rs)
section
variable {K : PySem.W.Frag} {H H' : Hp}
theorem EnAll.same (s : Same H H') : ∀ {vs : List V} {rs : List (Int × Rw)}, EnAll K H vs rs → EnAll K H' vs rs
  | _, _, .nil => .nil
  | _, _, .cons h ok r => .cons (sqT_same s h) ok (EnAll.same s r)
theorem EnAll.len : ∀ {vs : List V} {rs : List (Int × Rw)}, EnAll K H vs rs → vs.length = rs.length
  | _, _, .nil => rfl
  | _, _, .cons _ _ r => by rw [List.length_cons, List.length_cons, r.len]
theorem EnAll.at : ∀ {vs : List V} {rs : List (Int × Rw)} {i : Nat} {v : V}, EnAll K H vs rs → vs[i]? = some v → ∃ t k x n, v = .ref t ∧ rs[i]? = some (k, (x, n)) ∧ SqT K H t [.int k, .str x, .int n] ∧ rowOk (k, (x, n))
  | _, _, i, v, .nil, h => by simp at h
  | _, _, 0, v, .cons h1 ok r, h => by
    cases Option.some.inj h
    exact ⟨_, _, _, _, rfl, rfl, h1, ok⟩
  | _, _, i + 1, v, .cons h1 ok r, h => r.at h
theorem Tup3.same (s : Same H H') : ∀ {vs : List V} {rs : List (Int × Rw)}, Tup3 H vs rs → Tup3 H' vs rs
  | _, _, .nil => .nil
  | _, _, .cons h r => .cons (s _ _ h) (Tup3.same s r)
theorem Tup3.len : ∀ {vs : List V} {rs : List (Int × Rw)}, Tup3 H vs rs → vs.length = rs.length
  | _, _, .nil => rfl
  | _, _, .cons _ r => by rw [List.length_cons, List.length_cons, r.len]
theorem Tup3.at : ∀ {vs : List V} {rs : List (Int × Rw)} {i : Nat} {v : V}, Tup3 H vs rs → vs[i]? = some v → ∃ t k x n, v = .ref t ∧ rs[i]? = some (k, (x, n)) ∧ H t = some (.tup [.int k, .str x, .int n])
  | _, _, i, v, .nil, h => by simp at h
  | _, _, 0, v, .cons h1 r, h => by
    cases Option.some.inj h
    exact ⟨_, _, _, _, rfl, rfl, h1⟩
  | _, _, i + 1, v, .cons h1 r, h => r.at h
theorem Tup3.chg {a : Addr} {ls : List V} (e : H a = some (.lst ls)) (x : Ext a H H') : ∀ {vs : List V} {rs : List (Int × Rw)}, Tup3 H vs rs → Tup3 H' vs rs
  | _, _, .nil => .nil
  | _, _, .cons h r => .cons (x _ _ (fun z => by rw [z, e] at h; cases h) h) (Tup3.chg e x r)
theorem Tup3.app {t : Addr} {k : Int} {x : Str} {n : Int} (h : H t = some (.tup [.int k, .str x, .int n])) : ∀ {vs : List V} {rs : List (Int × Rw)}, Tup3 H vs rs → Tup3 H (vs ++ [.ref t]) (rs ++ [(k, (x, n))])
  | _, _, .nil => .cons h .nil
  | _, _, .cons h1 r => .cons h1 (Tup3.app h r)
end
inductive DDs (K : PySem.W.Frag) (C : Addr) (U : List Int) (H : Hp) : List V → List (List (Int × Rw)) → Prop
  | nil : DDs K C U H [] []
  | cons {x : Addr} {rs : List (Int × Rw)} {vs : List V} {ls : List (List (Int × Rw))} (h : DD K C U H x rs) (r : DDs K C U H vs ls) : DDs K C U H (.ref x :: vs) (rs :: ls)
inductive RDs (K : PySem.W.Frag) (U : List Int) (H : Hp) : List V → List (List (Int × Rw)) → Prop
  | nil : RDs K U H [] []
  | cons {x : Addr} {rs : List (Int × Rw)} {vs : List V} {ls : List (List (Int × Rw))} (h : RD K U H x rs) (r : RDs K U H vs ls) : RDs K U H (.ref x :: vs) (rs :: ls)
section
variable {K : PySem.W.Frag} {C : Addr} {U : List Int} {H H' : Hp}
theorem DDs.same (s : Same H H') : ∀ {vs : List V} {ls : List (List (Int × Rw))}, DDs K C U H vs ls → DDs K C U H' vs ls
  | _, _, .nil => .nil
  | _, _, .cons h r => .cons (h.same s) (DDs.same s r)
theorem DDs.len : ∀ {vs : List V} {ls : List (List (Int × Rw))}, DDs K C U H vs ls → vs.length = ls.length
  | _, _, .nil => rfl
  | _, _, .cons _ r => by rw [List.length_cons, List.length_cons, r.len]
theorem DDs.at : ∀ {vs : List V} {ls : List (List (Int × Rw))} {i : Nat} {v : V}, DDs K C U H vs ls → vs[i]? = some v → ∃ x rs, v = .ref x ∧ ls[i]? = some rs ∧ DD K C U H x rs
  | _, _, i, v, .nil, h => by simp at h
  | _, _, 0, v, .cons h1 r, h => by
    cases Option.some.inj h
    exact ⟨_, _, rfl, rfl, h1⟩
  | _, _, i + 1, v, .cons h1 r, h => r.at h
theorem DDs.chg {g : Addr} {ls : List V} (e : H g = some (.lst ls)) (s : Ext g H H') : ∀ {vs : List V} {es : List (List (Int × Rw))}, DDs K C U H vs es → DDs K C U H' vs es
  | _, _, .nil => .nil
  | _, _, .cons h r => .cons (h.chg e s) (DDs.chg e s r)
theorem DDs.app {x : Addr} {rs : List (Int × Rw)} (h : DD K C U H x rs) : ∀ {vs : List V} {ls : List (List (Int × Rw))}, DDs K C U H vs ls → DDs K C U H (vs ++ [.ref x]) (ls ++ [rs])
  | _, _, .nil => .cons h .nil
  | _, _, .cons h1 r => .cons h1 (DDs.app h r)
theorem DDs.take : ∀ {vs : List V} {ls : List (List (Int × Rw))} (i : Nat), DDs K C U H vs ls → DDs K C U H (vs.take i) (ls.take i)
  | _, _, 0, _ => by rw [List.take_zero, List.take_zero]; exact .nil
  | _, _, i + 1, .nil => .nil
  | _, _, i + 1, .cons h r => .cons h (DDs.take i r)
theorem RDs.same (s : Same H H') : ∀ {vs : List V} {ls : List (List (Int × Rw))}, RDs K U H vs ls → RDs K U H' vs ls
  | _, _, .nil => .nil
  | _, _, .cons h r => .cons (h.same s) (RDs.same s r)
theorem RDs.len : ∀ {vs : List V} {ls : List (List (Int × Rw))}, RDs K U H vs ls → vs.length = ls.length
  | _, _, .nil => rfl
  | _, _, .cons _ r => by rw [List.length_cons, List.length_cons, r.len]
theorem RDs.at : ∀ {vs : List V} {ls : List (List (Int × Rw))} {i : Nat} {v : V}, RDs K U H vs ls → vs[i]? = some v → ∃ x rs, v = .ref x ∧ ls[i]? = some rs ∧ RD K U H x rs
  | _, _, i, v, .nil, h => by simp at h
  | _, _, 0, v, .cons h1 r, h => by
    cases Option.some.inj h
    exact ⟨_, _, rfl, rfl, h1⟩
  | _, _, i + 1, v, .cons h1 r, h => r.at h
theorem RDs.chg {g : Addr} {ls : List V} (e : H g = some (.lst ls)) (s : Ext g H H') : ∀ {vs : List V} {es : List (List (Int × Rw))}, RDs K U H vs es → RDs K U H' vs es
  | _, _, .nil => .nil
  | _, _, .cons h r => .cons (h.chg e s) (RDs.chg e s r)
theorem RDs.app {x : Addr} {rs : List (Int × Rw)} (h : RD K U H x rs) : ∀ {vs : List V} {ls : List (List (Int × Rw))}, RDs K U H vs ls → RDs K U H (vs ++ [.ref x]) (ls ++ [rs])
  | _, _, .nil => .cons h .nil
  | _, _, .cons h1 r => .cons h1 (RDs.app h r)
theorem RDs.set {x : Addr} {rs : List (Int × Rw)} (h : RD K U H x rs) : ∀ {vs : List V} {ls : List (List (Int × Rw))} (i : Nat), RDs K U H vs ls → RDs K U H (vs.set i (.ref x)) (ls.set i rs)
  | _, _, _, .nil => .nil
  | _, _, 0, .cons h1 r => .cons h r
  | _, _, i + 1, .cons h1 r => .cons h1 (RDs.set h i r)
theorem RDs.take : ∀ {vs : List V} {ls : List (List (Int × Rw))} (i : Nat), RDs K U H vs ls → RDs K U H (vs.take i) (ls.take i)
  | _, _, 0, _ => by rw [List.take_zero, List.take_zero]; exact .nil
  | _, _, i + 1, .nil => .nil
  | _, _, i + 1, .cons h r => .cons h (RDs.take i r)
end
def VS (es : List (Int × Str)) : Prop := ∀ p ∈ es, (0 ≤ p.1 ∧ p.1 ≤ 999999) ∧ nameOk p.2 = true
end My
set_option Elab.async false
set_option maxRecDepth 100000
set_option maxHeartbeats 4000000
set_option linter.unusedVariables false
set_option Elab.async false
set_option maxRecDepth 100000
set_option maxHeartbeats 4000000
set_option linter.unusedVariables false
set_option Elab.async false
set_option maxRecDepth 100000
set_option maxHeartbeats 4000000
set_option linter.unusedVariables false
set_option Elab.async false
set_option maxRecDepth 100000
set_option maxHeartbeats 4000000
set_option linter.unusedVariables false
namespace My
open PySem PySem.Spec PyProof.Rows L2 L2.DX
theorem DD.nd {K : PySem.W.Frag} {C : Addr} {U : List Int} {H : Hp} {x : Addr} {rs : List (Int × Rw)} (h : DD K C U H x rs) : (ks rs).Nodup := by
  obtain ⟨_, _, _, ⟨_, _, _, g⟩, _⟩ := h
  exact g.1
end My
set_option Elab.async false
set_option maxRecDepth 100000
set_option maxHeartbeats 4000000
set_option linter.unusedVariables false
set_option Elab.async false
set_option maxRecDepth 100000
set_option maxHeartbeats 4000000
set_option linter.unusedVariables false
namespace My
open PySem
open Sem (wp)
def noWake : Resume → Sem Fin := fun _ => .unsupported "asleep"
abbrev Sleepers := Nat → Option GenState
structure Hid (D : Sleepers) (G : Array GenState) : Prop where
  hid : ∀ i S, D i = some S → ∃ k l c p fs cl, S = .suspended k l c p fs cl ∧ G[i]? = some (.suspended noWake l c p fs cl)
  own : ∀ i k l c p fs cl, D i = none → G[i]? = some (.suspended k l c p fs cl) → splitAtGen fs = none
theorem Hid.setGen {D : Sleepers} {s : Shared} {g : Nat} {x : GenState} (h : Hid D s.gens) (n : D g = none) (hx : ∀ k l c p fs cl, x = .suspended k l c p fs cl → splitAtGen fs = none) : Hid D (s.setGen g x).gens := by
  have other : ∀ i, g ≠ i → (s.setGen g x).gens[i]? = s.gens[i]? := fun i hi => Array.getElem?_setIfInBounds_ne hi
  refine ⟨fun i S e => ?_, fun i k l c p fs cl e q => ?_⟩
  · have hi : g ≠ i := fun z => by rw [z, e] at n; cases n
    rw [other i hi]; exact h.hid i S e
  · by_cases hi : g = i
    · subst hi
      have q2 : (s.gens.setIfInBounds g x)[g]? = some (.suspended k l c p fs cl) := q
      rw [Array.getElem?_setIfInBounds] at q2
      simp only [if_true] at q2
      split at q2
      · exact hx _ _ _ _ _ _ (Option.some.inj q2)
      · cases q2
    · rw [other i hi] at q; exact h.own i k l c p fs cl e q
theorem Hid.push {D : Sleepers} {G : Array GenState} {c : Code} (h : Hid D G) : Hid D (G.push (.fresh c)) := by
  refine ⟨fun i S e => ?_, fun i k l c' p fs cl e q => ?_⟩
  · obtain ⟨k, l, c', p, fs, cl, e1, e2⟩ := h.hid i S e
    refine ⟨k, l, c', p, fs, cl, e1, ?_⟩
    have hl := (Array.getElem?_eq_some_iff.mp e2).1
    rw [Array.getElem?_push_lt hl, ← Array.getElem?_eq_getElem hl]; exact e2
  · rw [Array.getElem?_push] at q
    split at q
    · cases q
    · exact h.own i k l c' p fs cl e q
def hush : GenState → GenState
  | .suspended _ l c p fs cl => .suspended noWake l c p fs cl
  | x => x
def hid (s : Shared) : Shared := { s with gens := s.gens.map hush }
end My
set_option Elab.async false
set_option maxRecDepth 100000
set_option maxHeartbeats 4000000
set_option linter.unusedVariables false
namespace My
open PySem PySem.Spec PyProof.Rows L2 GenW
open Sem (wp)
abbrev Stop := End → Shared → Prop
def Piece (M : Model) (A : Around) (Φ : Stop) (c : Code) (t : Sem PySem.Fin) (fs : List Frame) (s : Shared) : Prop :=
  ∀ Γ p, Γ.code = c → Γ.Woken A → ∃ e s', Runs M Γ p t fs s e s' ∧ Φ e s'
section
variable {M : Model} {A : Around} {Φ : Stop} {c : Code} {fs : List Frame} {s : Shared}
theorem pc_wrap {α : Type} {m : Sem α} {K : α → Sem PySem.Fin} {J : Value → Sem PySem.Fin} {gd lv}
    (h : wpAny M (A.over c fs) m (fun a s' => Piece M A Φ c (K a) fs s') (fun x s' => Piece M A Φ c (J x) fs s') s) : Piece M A Φ c (m.wrap K J gd lv) fs s := by
  intro Γ p hc hw
  subst hc
  exact runs_wrap_of_wp K J gd lv m (h (Γ.over fs) p (hw.over fs)) (fun _ p' _ y => y Γ p' rfl hw) fun _ p' _ y => y Γ p' rfl hw
theorem pc_bind {α : Type} {m : Sem α} {K : α → Sem PySem.Fin}
    (h : wpAny M (A.over c fs) m (fun a s' => Piece M A Φ c (K a) fs s') (fun x s' => Piece M A Φ c (.raise x) fs s') s) : Piece M A Φ c (m >>= K) fs s := by
  rw [Sem.bind_eq_wrap']
  exact pc_wrap h
theorem pc_again {c' : Code} (hq : c'.quiet = true) (hc : Piece M A Φ c' (M.den c') fs s) : Piece M A Φ c (.pure (.again c')) fs s := by
  intro Γ p e hw
  subst e
  obtain ⟨e, s', q, z⟩ := hc (Γ.goto c') p rfl (hw.goto c')
  exact ⟨e, s', Runs.head (c₁ := c') (fun _ _ x => .again hq x) q, z⟩
theorem pc_yield {v g l} {k : Resume → Sem PySem.Fin} (hf : splitAtGen fs = none) (h : ∀ p, Φ (.susp v g l k c p fs) s) : Piece M A Φ c (.yield v g l k) fs s := by
  intro Γ p e _
  subst e
  exact ⟨_, s, Runs.yield' fs hf, h p⟩
end
def GoesTo (M : Model) (A : Around) (Φ : Stop) (gs : GenState) (s : Shared) : Prop := match gs with
  | .fresh c => Piece M A Φ c (M.den c) [] s
  | .suspended k _ c _ fs _ => Piece M A Φ c (k (.send .none)) fs s
  | _ => False
theorem wpAny_resumeE {M : Model} {A : Around} {Φ : Stop} {E : Value → Shared → Prop} {s : Shared} {g : Nat} {gs : GenState} {l : List Value} {α : Type} {k : GenResult → Sem α} {Q : α → Shared → Prop} (hg : s.gens[g]? = some gs)
    (hgo : GoesTo M A Φ gs (s.setGen g .running)) (hq : ∀ e s₁, Φ e s₁ → e.quiet = true)
    (hk : ∀ e s₁, Φ e s₁ → wpAny M A (k e.result) Q E (s₁.setGen g e.genState)) : wpAny M A (.resume g (.send .none) l k) Q E s := by
  intro Γ p hΓ
  rw [Sem.wp_resume]
  cases gs with
  | fresh c =>
    obtain ⟨e, s₁, r, z⟩ := hgo (Γ.wake c p) p rfl (hΓ.wake c p)
    exact ⟨_, _, by unfold Wakes; rw [hg]; exact ⟨e, s₁, r, hq _ _ z, rfl, rfl⟩, hk e s₁ z Γ p hΓ⟩
  | suspended k₀ l₀ c₀ p₀ fs₀ cl =>
    obtain ⟨e, s₁, r, z⟩ := hgo (Γ.wake c₀ p) p₀ rfl (hΓ.wake c₀ p)
    exact ⟨_, _, by unfold Wakes; rw [hg]; exact ⟨e, s₁, r, hq _ _ z, rfl, rfl⟩, hk e s₁ z Γ p hΓ⟩
  | running => exact hgo.elim
  | finished => exact hgo.elim
theorem next_piece {P : Program} {w : World} {A : Around} {E : Value → Shared → Prop} {s : Shared} {a : Addr} {g : Nat} {gs : GenState} {Φ : Stop} {Q : Option Value → Shared → Prop} (hh : A.handled = none) (hl : s.heap.NoLimit) (hroom : A.depth < recursionLimit)
    (hg : s.heap.IsGen a g) (hgs : s.gens[g]? = some gs) (hgo : GoesTo (model P w) A.in1 Φ gs (s.setGen g .running))
    (hq : ∀ e s₁, Φ e s₁ → e.quiet = true) (hr : ∀ r s₁, Φ (.ret r) s₁ → r = .ok (.ret .none))
    (hP : ∀ s₁, Φ (.ret (.ok (.ret .none))) s₁ → ∀ h', (∀ b o, s₁.heap.get? b = some o → h'.get? b = some o) → Q none { s₁.setGen g .finished with heap := h' })
    (hY : ∀ v gd l k c p fs s₁, Φ (.susp v gd l k c p fs) s₁ → Q (some v) (s₁.setGen g (End.susp v gd l k c p fs).genState)) : wpAny (model P w) A (pyNext (.ref a)) Q E s := by
  unfold pyNext
  refine wpAny_bind (wpAny_attempt (wpAny_callSpecial?_slot (name := Str.ofString "__next__") hg.typeIs slot_gen_next
    (wpAny_call_entry slot_gen_next hg.typeIs entry_gen_next ?_ (args_gen_next _))))
  show wpAny _ A.in1 (Builtin.Generator.genWake (.ref a) (.send .none)) _ _ s
  unfold Builtin.Generator.genWake
  refine wpAny_bind (wpAny_holding (wpAny_genNumber hg (wpAny_bind (wpAny_genState hgs ?_))))
  cases gs with
  | running => exact hgo.elim
  | finished => exact hgo.elim
  | _ =>
    refine wpAny_bind (wpAny_roomToWake hl hroom ?_)
    show wpAny _ A.in1 (.resume g (.send .none) [] _) _ _ s
    refine wpAny_resumeE hgs hgo hq fun e s₁ z => ?_
    cases e with
    | ret r =>
      obtain rfl := hr r s₁ z
      show wpAny _ A.in1 (newExc (.type "StopIteration") [] >>= _) _ _ _
      refine wpAny_bind ?_
      simp only [newExc, newTuple]
      refine wpAny_bind (wpAny_newObj_type ?_ (by size_fits))
      refine wpAny_bind (m := firstArgMember _ _) (wpAny_of_eq (a := Value.none) (by first | rfl | (simp only [firstArgMember]; rfl)) ?_)
      refine wpAny_newObj_type ?_ (by size_fits)
      simp only [raiseNew]
      refine wpAny_bind (wpAny_bind (wpAny_handled ?_))
      first | rw [show A.in1.handled = none from hh] | rw [hh]
      refine wpAny_throw ?_
      refine wpAny_bind (wpAny_isInstance (T := "StopIteration") (b := true) ⟨_, Heap.get?_push_size _ rfl, rfl⟩ isSubtype_stop ?_)
      exact wpAny_pure (hP s₁ z _ fun b o hb => Heap.get?_push_of_some _ (Heap.get?_push_of_some _ hb))
    | susp v gd l k c p fs => exact wpAny_pure ⟨v, rfl, wpAny_pure (hY _ _ _ _ _ _ _ s₁ z)⟩
section
variable {prog : Program} {w : World} {A : Around} {E : Value → Shared → Prop} {s : Shared}
theorem ask_list {it l : Addr} {i : Nat} {items : Array Value} {x : Value} {Q : Option Value → Shared → Prop} (hit : s.heap.IsListIter it l i) (hl : s.heap.IsList l items) (hx : items[i]? = some x)
    (hQ : ∀ h', h'.IsListIter it l (i + 1) → Heap.SameBut it s.heap h' → Q (some x) { s with heap := h' }) : wpAny (model prog w) A (callSpecial? (.ref it) "__next__") Q E s := by
  obtain ⟨o, ho, hc, hd⟩ := id hit
  obtain ⟨ol, hol, _, nl, hdl⟩ := hl
  refine wpAny_callSpecial?_slot (name := Str.ofString "__next__") hit.typeIs slot_listiter_next
    (wpAny_call_entry slot_listiter_next hit.typeIs entry_listiter_next ?_ (args_listiter_next _))
  show wpAny _ _ (field (.ref it) 0 >>= _) _ _ s
  refine wpAny_bind (wpAny_field ho hd (x := .ref l) rfl ?_)
  show wpAny _ _ (if (Value.ref l == Value.none) = true then _ else _) _ _ s
  rw [if_neg (show ¬ ((Value.ref l == Value.none) = true) from Bool.false_ne_true)]
  show wpAny _ _ (field (.ref it) 1 >>= _) _ _ s
  refine wpAny_bind (wpAny_field ho hd (x := .int i 0) rfl ?_)
  show wpAny _ _ (seqItems? (.ref l) >>= _) _ _ s
  refine wpAny_bind (wpAny_seqItems hol hdl ?_)
  simp only [Int.toNat_natCast, hx]
  refine wpAny_bind (wpAny_setField ho hd (by simp) (wpAny_pure ⟨x, rfl, hQ _ ?_ (Heap.SameBut.update ..)⟩))
  exact ⟨_, Heap.get?_update_self _ ho (Obj.isFreed_of_fields (Obj.data_mapFields hd _)), (Obj.cls_mapFields ..).trans hc, by
    rw [Obj.data_mapFields hd]; simp [rawInt]⟩
theorem ask_list_end {it l : Addr} {i : Nat} {items : Array Value} {Q : Option Value → Shared → Prop} (hh : A.handled = none) (hit : s.heap.IsListIter it l i) (hl : s.heap.IsList l items) (hx : items[i]? = none)
    (hE : ∀ e h', StopX e h' → Heap.ExtBut it s.heap h' → E e { s with heap := h' }) : wpAny (model prog w) A (callSpecial? (.ref it) "__next__") Q E s := by
  obtain ⟨o, ho, hc, hd⟩ := id hit
  obtain ⟨ol, hol, _, nl, hdl⟩ := hl
  refine wpAny_callSpecial?_slot (name := Str.ofString "__next__") hit.typeIs slot_listiter_next
    (wpAny_call_entry slot_listiter_next hit.typeIs entry_listiter_next ?_ (args_listiter_next _))
  show wpAny _ _ (field (.ref it) 0 >>= _) _ _ s
  refine wpAny_bind (wpAny_field ho hd (x := .ref l) rfl ?_)
  show wpAny _ _ (if (Value.ref l == Value.none) = true then _ else _) _ _ s
  rw [if_neg (show ¬ ((Value.ref l == Value.none) = true) from Bool.false_ne_true)]
  show wpAny _ _ (field (.ref it) 1 >>= _) _ _ s
  refine wpAny_bind (wpAny_field ho hd (x := .int i 0) rfl ?_)
  show wpAny _ _ (seqItems? (.ref l) >>= _) _ _ s
  refine wpAny_bind (wpAny_seqItems hol hdl ?_)
  simp only [Int.toNat_natCast, hx]
  refine wpAny_bind (wpAny_rule (wpAny_bind (wpAny_setField ho hd (by simp) ?_)))
  show wpAny _ _ (newExc (.type "StopIteration") [] >>= _) _ _ _
  refine wpAny_bind ?_
  simp only [newExc, newTuple]
  refine wpAny_bind (wpAny_newObj_type ?_ (by size_fits))
  refine wpAny_bind (m := firstArgMember _ _) (wpAny_of_eq (a := Value.none) (by first | rfl | (simp only [firstArgMember]; rfl)) ?_)
  refine wpAny_newObj_type ?_ (by size_fits)
  simp only [raiseNew]
  refine wpAny_bind (wpAny_handled ?_)
  first | rw [show A.in1.handled = none from hh] | rw [hh]
  refine wpAny_bind (wpAny_pure (wpAny_throw ?_))
  refine hE _ _ ⟨_, _, _, rfl, Heap.get?_push_size _ rfl, rfl, rfl, ?_⟩ (((Heap.SameBut.update ..).extBut.push _).push _)
  first
    | rfl
    | (rw [Array.getElem?_append_left (by decide)]; rfl)
    | kernel_rfl
end
theorem close_list : typeLookup (.type "list_iterator") "close" = pure none := by rw [typeLookup_type, builtinLookup_eq_fast]; kernel_rfl
def Stands (it l : Addr) (us : Array Value) (j : Nat) (h : Heap) : Prop := h.IsListIter it l j ∧ h.IsList l us
structure Turned (it : Addr) (s s' : Shared) : Prop where
  gens : s'.gens = s.gens
  os : s'.os = s.os
  keep : ∀ b o, b ≠ it → s.heap.get? b = some o → s'.heap.get? b = some o
def Rest (M : Model) (A : Around) (it l : Addr) (us : Array Value) : Nat → Nat → Shared → Stop
  | r, _, s₀, .ret x, s => r = 0 ∧ x = .ok (.ret .none) ∧ Turned it s₀ s
  | 0, _, _, .susp .., _ => False
  | r + 1, j, s₀, .susp v gd lv k c p fs, s => (End.susp v gd lv k c p fs).quiet = true ∧ us[j]? = some v ∧ Turned it s₀ s ∧ Stands it l us (j + 1) s.heap ∧
      ∀ s'', Stands it l us (j + 1) s''.heap → Piece M A (Rest M A it l us r (j + 1) s'') c (k (.send .none)) fs s''
theorem Stands.keep {it l : Addr} {us : Array Value} {j : Nat} {h h' : Heap} (x : Stands it l us j h) (k : ∀ b o, h.get? b = some o → h'.get? b = some o) : Stands it l us j h' := by
  obtain ⟨⟨o, e, q⟩, o2, e2, q2⟩ := x
  exact ⟨⟨o, k _ _ e, q⟩, o2, k _ _ e2, q2⟩
abbrev yfCode (it : Addr) : Code := .builtin "proto.yield_from" ⟨[.ref it, .bool false, .none], []⟩
section
variable {P : Program} {w : World} {A : Around} {fs : List Frame} {it l : Addr} {us : Array Value}
theorem den_from : (model P w).den (yfCode it) = Builtin.«proto.yield_from» ⟨[.ref it, .bool false, .none], []⟩ := by
  show (match entryFor table "proto.yield_from" with | some b => b ⟨[.ref it, .bool false, .none], []⟩ | none => unsupported ((withoutEnding? "proto.yield_from" "#data").getD "proto.yield_from")) = _
  rw [entry_yf]
theorem turns (hl : it ≠ l) (ho : (A.over (yfCode it) fs).handled = none) (hsp : splitAtGen fs = none) (hgd : fs.any Frame.guarded = false)
    (hend : ∀ (s₀ s : Shared) (j : Nat), Turned it s₀ s → Piece (model P w) A (Rest (model P w) A it l us 0 j s₀) (yfCode it) (.pure (.done (.ret .none))) fs s) :
    ∀ (r j : Nat) (s : Shared), j + r = us.size → Stands it l us j s.heap → Piece (model P w) A (Rest (model P w) A it l us r j s) (yfCode it) ((model P w).den (yfCode it)) fs s := by
  intro r
  induction r with
  | zero =>
    intro j s hj st
    have hx : us[j]? = none := by rw [Array.getElem?_eq_none_iff]; omega
    rw [den_from]
    unfold Builtin.«proto.yield_from»
    try dsimp only
    refine pc_bind (wpAny_pure ?_)
    try dsimp only
    refine pc_bind (wpAny_attempt (wpAny_holding ?_))
    rw [if_neg Bool.false_ne_true, if_pos (show (Value.none == Value.none) = true from rfl)]
    refine wpAny_bind (wpAny_rule (wpAny_bind ?_))
    refine ask_list_end ho st.1 st.2 hx fun e h' hS hk => ?_
    obtain ⟨a, o, vs, rfl, hoa, hcls, hdat, h5⟩ := hS
    try dsimp only
    refine pc_bind (wpAny_endsTurn (s := { s with heap := h' }) hoa hcls ?_)
    try dsimp only
    rw [if_pos rfl]
    first
      | refine pc_bind (wpAny_rule ?_)
      | (rw [if_neg Bool.false_ne_true]; refine pc_bind (wpAny_rule ?_))
      | (rw [if_neg Bool.false_ne_true]; refine pc_bind (wpAny_pure ?_); refine pc_bind (wpAny_rule ?_))
    refine pc_bind (wpAny_field (s := { s with heap := h' }) hoa hdat h5 ?_)
    exact hend s { s with heap := h' } j ⟨rfl, rfl, fun b o hb e => hk b o hb e⟩
  | succ r ih =>
    intro j s hj st
    have hlt : j < us.size := by omega
    have hx : us[j]? = some us[j] := Array.getElem?_eq_getElem hlt
    rw [den_from]
    unfold Builtin.«proto.yield_from»
    try dsimp only
    refine pc_bind (wpAny_pure ?_)
    try dsimp only
    refine pc_bind (wpAny_attempt (wpAny_holding ?_))
    rw [if_neg Bool.false_ne_true, if_pos (show (Value.none == Value.none) = true from rfl)]
    refine wpAny_bind (wpAny_rule (wpAny_bind ?_))
    refine ask_list st.1 st.2 hx fun h' hit' hs => ?_
    have st' : Stands it l us (j + 1) h' := ⟨hit', let ⟨o, e, q⟩ := st.2; ⟨o, (hs.2 l (Ne.symm hl)).trans e, q⟩⟩
    obtain ⟨oi, hoi, hoc, _⟩ := id hit'
    refine wpAny_pure ?_
    try dsimp only
    refine pc_bind (wpAny_typeOf (s := { s with heap := h' }) (T := "list_iterator") ⟨oi, hoi, hoc⟩ ?_)
    try dsimp only
    first
      | (refine pc_bind (wpAny_of_eq close_list ?_); refine pc_bind (wpAny_pure ?_))
      | refine pc_bind (wpAny_bind (wpAny_of_eq close_list (wpAny_pure ?_)))
      | refine pc_bind (wpAny_of_eq close_list ?_)
    try dsimp only
    refine pc_bind (wpAny_sleptOver (s := { s with heap := h' }) hoi hoc (by decide) ?_)
    refine pc_yield hsp fun p => ⟨by simp [End.quiet, hgd], hx, ⟨rfl, rfl, fun b o hb e => (hs.2 b hb).trans e⟩, st', fun s'' st'' => ?_⟩
    obtain ⟨oj, hoj, hjc, _⟩ := id st''.1
    show Piece _ _ _ _ (Builtin.Generator.sleptOver (.ref it) false >>= fun _ => _) fs s''
    refine pc_bind (wpAny_sleptOver hoj hjc (by decide) ?_)
    try dsimp only
    refine pc_bind (wpAny_pure ?_)
    exact pc_again (plainId_quiet plain_yf _) (ih (j + 1) s'' (by omega) st'')
end
end My
set_option Elab.async false
set_option maxRecDepth 100000
set_option maxHeartbeats 4000000
set_option linter.unusedVariables false
namespace My
open PySem PySem.Spec PyProof.Rows L2 GenW
open Sem (wp)
section
variable {X : Cx} {pins : List (Addr × Obj)} {σ : L2.St} {H H' : Hp} {s s' : Shared}
theorem Inv.spun {it : Addr} (I : Inv X pins σ H s) (f : FpOk X pins H it) (os : s'.os = s.os) (hb : AllBare s'.gens) (k : ∀ b o, b ≠ it → s.heap.get? b = some o → s'.heap.get? b = some o) : Inv X pins σ H s' := by
  obtain ⟨hh, g, d, t, o⟩ := s'
  have e : o = s.os := os
  subst e
  obtain ⟨f0, f1, f2, f3, f4, f5⟩ := f
  have nc : ∀ b, b ∉ [it] → b ≠ it := fun b hb e => hb (by rw [e]; exact List.mem_singleton.mpr rfl)
  refine I.step (g' := g) (t' := t) (d' := d) (ch := [it]) (fun b hb => ?_) (fun b ob _ _ hc q _ => k b ob (nc b hc) q) (fun b ob _ _ hc q _ => ⟨ob.slots, k b ob (nc b hc) q⟩) (fun _ _ _ _ n => n) (fun b ob hc q => ⟨ob, k b ob (nc b hc) q⟩)
    (fun _ _ q => q) (fun _ _ _ q => q) (fun b ps q => ⟨#[], by rw [q]; simp⟩) (fun m hm => ?_) (fun b u q => ?_) hb
  · rw [List.mem_singleton.mp hb]
    exact ⟨f3, f1, f4, f5⟩
  · obtain ⟨ob, es, ep, ho, r⟩ := hm
    exact ⟨ob, es, ep, k _ ob (Ne.symm f1) ho, r⟩
  · refine (I.hok b u q).stay (fun c v hc y => k c v ?_ y) (fun _ y => y) fun _ _ y => y
    have nt : ∀ b u, H b = some u → b ≠ it := fun b u q hb => by rw [hb, f0] at q; cases q
    rcases hc with y | y
    · rw [y]; exact nt b u q
    · exact nt c _ y
end
def Starts (M : Model) (A : Around) (it l : Addr) (us : Array Value) : Stop := fun e s => match e with
  | .ret x => us.size = 0 ∧ x = .ok (.ret .none)
  | .susp v gd lv k c p fs => us[0]? = some v ∧ Stands it l us 1 s.heap ∧ ∀ s'', Stands it l us 1 s''.heap → Piece M A (Rest M A it l us (us.size - 1) 1 s'') c (k (.send .none)) fs s''
def First (P : Program) (w : World) (A : Around) (outer : List Env) (H : Hp) (s : Shared) (a : Addr) (g : Nat) (ps : List (Addr × Obj)) (Q : List V → Hp → Prop) : Stop := fun e s1 =>
  ∃ xs H' us it l, (∀ p ∈ ps, s1.heap.get? p.1 = some p.2 ∧ H' p.1 = none ∧ p.1 ≠ l ∧ p.1 ≠ it) ∧ s1.os = s.os ∧ AllBare s1.gens ∧ Un (frs outer) [] H H' s.heap s1.heap ∧ HOk P w H' s1.heap ∧ s1.heap.IsGen a g ∧ H' it = none ∧ H' l = none ∧ H' a = none ∧ s.heap.objs.size ≤ it ∧ s.heap.get? l = none ∧ it ≠ l ∧ it ≠ a ∧
    Vals xs us.toList ∧ us.size ≤ sizeLine ∧ Q xs H' ∧ Starts (model P w) A it l us e s1 ∧ e.quiet = true
def Made (P : Program) (w : World) (k : Nat) (outer : List Env) (H : Hp) (s : Shared) (Q : List V → Hp → Prop) (u : Value) (s' : Shared) : Prop :=
  ∃ (a : Addr) (g : Nat) (c : Code), u = .ref a ∧ s.heap.objs.size ≤ a ∧ a < s'.heap.objs.size ∧ s'.heap.IsGen a g ∧ s'.gens[g]? = some (.fresh c) ∧ s'.os = s.os ∧ AllBare s'.gens ∧ s'.heap.NoLimit ∧ (∀ b o, s.heap.get? b = some o → s'.heap.get? b = some o) ∧
    ∀ (A : Around) (s2 : Shared) (ps : List (Addr × Obj)), Room k A → A.frames = some outer → (∀ b o, s'.heap.get? b = some o → s2.heap.get? b = some o) → s2.os = s.os → AllBare s2.gens →
      (∀ p ∈ ps, s2.heap.get? p.1 = some p.2 ∧ s'.heap.objs.size ≤ p.1 ∧ ∀ v, p.2.data ≠ .cell v) → Piece (model P w) A (First P w A outer H s a g ps Q) c ((model P w).den c) [] s2
end My
set_option Elab.async false
set_option maxRecDepth 100000
set_option maxHeartbeats 4000000
set_option linter.unusedVariables false
namespace My
open PySem PySem.Spec PyProof.Rows L2 GenW
open Sem (wp)
structure Mid (X : Cx) (pins : List (Addr × Obj)) (a : Addr) (g : Nat) (it l : Addr) (us : Array Value) (xs : List V) (i : Nat) (σ : L2.St) (H : Hp) (s : Shared) : Prop where
  inv : Inv X pins σ H s
  gen : s.heap.IsGen a g
  st : Stands it l us i s.heap
  sl : ∃ k lv c p fs cl, s.gens[g]? = some (.suspended k lv c p fs cl) ∧ ∀ s'', Stands it l us i s''.heap → Piece (model X.prog X.w) X.A.in1 (Rest (model X.prog X.w) X.A.in1 it l us (us.size - i) i s'') c (k (.send .none)) fs s''
  vals : Vals xs us.toList
  fi : FpOk X pins H it
  fl : H l = none ∧ l ≠ X.env.locals ∧ l ∉ X.fs
  fa : H a = none ∧ a ≠ X.env.locals ∧ a ∉ X.fs
  ne : it ≠ l ∧ it ≠ a
  le : i ≤ us.size
theorem Mid.len {X : Cx} {pins : List (Addr × Obj)} {a : Addr} {g : Nat} {it l : Addr} {us : Array Value} {xs : List V} {i : Nat} {σ : L2.St} {H : Hp} {s : Shared} (m : Mid X pins a g it l us xs i σ H s) : xs.length = us.size := by
  have e := m.vals.length
  simpa using e
section
variable {X : Cx} {pins : List (Addr × Obj)} {a : Addr} {g : Nat} {it l : Addr} {us : Array Value} {xs : List V} {i : Nat} {σ : L2.St} {H : Hp} {s : Shared} {E : Value → Shared → Prop}
theorem Mid.next (m : Mid X pins a g it l us xs i σ H s) (hh : X.A.handled = none) (hd : X.A.depth < recursionLimit) : wpAny (model X.prog X.w) X.A (pyNext (.ref a)) (fun r s1 =>
    (r = none ∧ i = xs.length ∧ Inv X pins σ H s1) ∨ ∃ u x, r = some u ∧ xs[i]? = some x ∧ RelV x u ∧ Mid X pins a g it l us xs (i + 1) σ H s1) E s := by
  obtain ⟨k, lv, c, p, fs, cl, hgs, go⟩ := m.sl
  have hlen := m.len
  refine wpAny_gsz (n := g + 1) (Array.getElem?_eq_some_iff.mp hgs).1 ?_
  have spun : ∀ {s1 : Shared} {G : Array GenState}, Turned it (s.setGen g .running) s1 → AllBare G → ∀ h', (∀ b o, b ≠ it → s1.heap.get? b = some o → h'.get? b = some o) → Inv X pins σ H { s1 with gens := G, heap := h' } := fun {s1 G} tu hG h' hk =>
    Inv.spun m.inv m.fi (s' := { s1 with gens := G, heap := h' }) tu.os hG fun b o hb e => hk b o hb (tu.keep b o hb e)
  have bare1 : ∀ {s1 : Shared} {y : GenState}, Turned it (s.setGen g .running) s1 → y.bare = true → AllBare (s1.setGen g y).gens := fun {s1 y} tu hy =>
    allBare_setGen (by rw [tu.gens]; exact allBare_setGen m.inv.bare rfl) hy
  refine next_piece (Φ := Rest (model X.prog X.w) X.A.in1 it l us (us.size - i) i (s.setGen g .running)) hh m.inv.nolimit hd m.gen hgs (go (s.setGen g .running) m.st) (fun e s1 z => ?_) (fun r s1 z => ?_) (fun s1 z h' hk hsz => ?_) fun v gd lv' k' c' p' fs' s1 z hsz => ?_
  · cases hr : us.size - i with
    | zero =>
      rw [hr] at z
      cases e with
      | ret x => rfl
      | susp => exact z.elim
    | succ r =>
      rw [hr] at z
      cases e with
      | ret x => rfl
      | susp => exact z.1
  · cases hr : us.size - i with
    | zero => rw [hr] at z; exact z.2.1
    | succ r => rw [hr] at z; exact z.2.1
  · have hz : us.size - i = 0 := by
      cases hr : us.size - i with
      | zero => rfl
      | succ r => rw [hr] at z; exact z.1
    have tu : Turned it (s.setGen g .running) s1 := by
      rw [hz] at z; exact z.2.2
    have := m.le
    exact .inl ⟨rfl, by omega, spun (G := (s1.setGen g .finished).gens) tu (bare1 tu rfl) h' fun b o _ e => hk b o e⟩
  · cases hr : us.size - i with
    | zero => rw [hr] at z; exact z.elim
    | succ r =>
      rw [hr] at z
      obtain ⟨z1, z2, tu, st, nx⟩ := z
      have hlt : i < us.size := by omega
      have hix : i < xs.length := by omega
      have hx : xs[i]? = some xs[i] := List.getElem?_eq_getElem hix
      obtain ⟨u, hu, ru⟩ := m.vals.get hx
      have euv : u = v := by
        have q : us[i]? = some u := by rw [← Array.getElem?_toList]; exact hu
        rw [z2] at q
        exact (Option.some.inj q).symm
      subst euv
      have hl1 : g < s1.gens.size := by
        have e := setGen_size s1 g (End.susp u gd lv' k' c' p' fs').genState
        have hsz' : g + 1 ≤ (s1.setGen g (End.susp u gd lv' k' c' p' fs').genState).gens.size := hsz
        omega
      have hb := End.bare_of_quiet z1
      refine .inr ⟨u, xs[i], rfl, hx, ru, ⟨spun (s1 := s1) tu (bare1 tu hb) s1.heap fun _ _ _ e => e, ?_, st, ⟨k', lv', c', p', fs', _, setGen_at hl1, fun s'' q => ?_⟩, m.vals, m.fi, m.fl, m.fa, m.ne, hlt⟩⟩
      · obtain ⟨o, nm, qn, e1, r1⟩ := m.gen
        exact ⟨o, nm, qn, tu.keep a o (Ne.symm m.ne.2) e1, r1⟩
      · have e : us.size - (i + 1) = r := by omega
        rw [e]; exact nx s'' q
end
theorem Room.in1 {k : Nat} {A : Around} (r : Room (k + 1) A) : Room k A.in1 := ⟨r.hd, by have := r.dp; show A.depth + 3 * k + 5 < _; omega, by have := r.un; show A.units + 1 + 16 * k + 200 < _; omega⟩
end My
set_option Elab.async false
set_option maxRecDepth 100000
set_option maxHeartbeats 4000000
set_option linter.unusedVariables false
namespace My
open PySem PySem.Spec PyProof.Rows L2 GenW
open Sem (wp)
section
variable {X : Cx} {pins : List (Addr × Obj)} {a : Addr} {gn : Nat} {it l : Addr} {us : Array Value} {xs : List V} {i : Nat} {σ : L2.St} {H : Hp} {s : Shared}
theorem Mid.with (m : Mid X pins a gn it l us xs i σ H s) {σ' : L2.St} (h : Inv X pins σ' H s) : Mid X pins a gn it l us xs i σ' H s :=
  ⟨h, m.gen, m.st, m.sl, m.vals, m.fi, m.fl, m.fa, m.ne, m.le⟩
end
end My
set_option Elab.async false
set_option maxRecDepth 100000
set_option maxHeartbeats 4000000
set_option linter.unusedVariables false
set_option Elab.async false
set_option maxRecDepth 100000
set_option maxHeartbeats 4000000
set_option linter.unusedVariables false
set_option Elab.async false
set_option maxRecDepth 100000
set_option maxHeartbeats 4000000
set_option linter.unusedVariables false
namespace My
open PySem PySem.Spec PyProof.Rows L2 L2.DX
def Px (K : PySem.W.Frag) (C S : Addr) (U : List Int) (H : Hp) (x y : Addr) : Prop :=
  (∃ es fs, FS S U H x es ∧ FS S U H y fs ∧ ∀ k, look es k = look fs k) ∨ ∃ rs qs, DD K C U H x rs ∧ DD K C U H y qs ∧ ∀ k, lk rs k = lk qs k
def PairsX (K : PySem.W.Frag) (C S : Addr) (U : List Int) (H : Hp) (ps : List V) : Prop := ∀ v ∈ ps, ∃ t x y, v = V.ref t ∧ H t = some (.tup [.ref x, .ref y]) ∧ Px K C S U H x y
section
variable {K : PySem.W.Frag} {C S : Addr} {U : List Int} {H H' : Hp}
theorem Px.same {x y : Addr} (h : Px K C S U H x y) (s : Same H H') : Px K C S U H' x y := by
  rcases h with ⟨es, fs, h1, h2, h3⟩ | ⟨rs, qs, h1, h2, h3⟩
  · exact .inl ⟨es, fs, h1.same s, h2.same s, h3⟩
  · exact .inr ⟨rs, qs, h1.same s, h2.same s, h3⟩
theorem Px.chg {x y g : Addr} {ls : List V} (e : H g = some (.lst ls)) (s : Ext g H H') (h : Px K C S U H x y) : Px K C S U H' x y := by
  rcases h with ⟨es, fs, h1, h2, h3⟩ | ⟨rs, qs, h1, h2, h3⟩
  · exact .inl ⟨es, fs, h1.chg e s, h2.chg e s, h3⟩
  · exact .inr ⟨rs, qs, h1.chg e s, h2.chg e s, h3⟩
theorem PairsX.same {ps : List V} (h : PairsX K C S U H ps) (s : Same H H') : PairsX K C S U H' ps := fun v hv => by
  obtain ⟨t, x, y, h1, h2, h3⟩ := h v hv
  exact ⟨t, x, y, h1, s _ _ h2, h3.same s⟩
theorem PairsX.chg {g : Addr} {ls ps : List V} (e : H g = some (.lst ls)) (s : Ext g H H') (h : PairsX K C S U H ps) : PairsX K C S U H' ps := fun v hv => by
  obtain ⟨t, x, y, h1, h2, h3⟩ := h v hv
  exact ⟨t, x, y, h1, s _ _ (fun z => by rw [z, e] at h2; cases h2) h2, h3.chg e s⟩
theorem PairsX.app {ps qs : List V} (h : PairsX K C S U H ps) (g : PairsX K C S U H qs) : PairsX K C S U H (ps ++ qs) := fun v hv => by
  rcases List.mem_append.mp hv with hv | hv
  · exact h v hv
  · exact g v hv
end
end My
set_option Elab.async false
set_option maxRecDepth 100000
set_option maxHeartbeats 4000000
set_option linter.unusedVariables false
namespace My
open PySem PySem.Spec PyProof.Rows L2 L2.DX
def VsX (K : PySem.W.Frag) (C S : Addr) (U : List Int) (sv : List (Addr × (Int → Option Str))) (dv : List (Addr × (Int → Option Rw))) (H : Hp) : Prop :=
  (∀ p ∈ sv, ∃ es, FS S U H p.1 es ∧ ∀ k, look es k = p.2 k) ∧ ∀ p ∈ dv, ∃ rs, DD K C U H p.1 rs ∧ ∀ k, lk rs k = p.2 k
section
variable {K : PySem.W.Frag} {C S : Addr} {U : List Int} {sv : List (Addr × (Int → Option Str))} {dv : List (Addr × (Int → Option Rw))}
theorem VsX.d {H : Hp} (h : VsX K C S U sv dv H) {a : Addr} {f : Int → Option Rw} (m : (a, f) ∈ dv) : ∃ rs, DD K C U H a rs ∧ ∀ k, lk rs k = f k := h.2 _ m
end
section
variable {K : PySem.W.Frag} {H H' : Hp}
theorem EnAll.chg {a : Addr} {ls : List V} (e : H a = some (.lst ls)) (x : Ext a H H') : ∀ {vs : List V} {rs : List (Int × Rw)}, EnAll K H vs rs → EnAll K H' vs rs
  | _, _, .nil => .nil
  | _, _, .cons h ok r => .cons (sqT_chg e x h) ok (EnAll.chg e x r)
theorem EnAll.app {t : Addr} {k n : Int} {x : Str} (h : SqT K H t [.int k, .str x, .int n]) (ok : rowOk (k, (x, n))) : ∀ {vs : List V} {rs : List (Int × Rw)}, EnAll K H vs rs → EnAll K H (vs ++ [.ref t]) (rs ++ [(k, (x, n))])
  | _, _, .nil => .cons h ok .nil
  | _, _, .cons h1 ok1 r => .cons h1 ok1 (EnAll.app h ok r)
end
end My
set_option Elab.async false
set_option maxRecDepth 100000
set_option maxHeartbeats 4000000
set_option linter.unusedVariables false
namespace My
open PySem PySem.Spec PyProof.Rows L2 L2.DX
theorem TupS.at {H : Hp} : ∀ {vs : List V} {es : List (Int × Str)} {i : Nat} {v : V}, TupS H vs es → vs[i]? = some v → ∃ t k x, v = .ref t ∧ es[i]? = some (k, x) ∧ H t = some (.tup [.int k, .str x])
  | _, _, i, v, .nil, h => by simp at h
  | _, _, 0, v, .cons h1 r, h => by
    cases Option.some.inj h
    exact ⟨_, _, _, rfl, rfl, h1⟩
  | _, _, i + 1, v, .cons h1 r, h => r.at (i := i) (v := v) (by simpa using h)
theorem TupS.len {H : Hp} : ∀ {vs : List V} {es : List (Int × Str)}, TupS H vs es → vs.length = es.length
  | _, _, .nil => rfl
  | _, _, .cons _ r => by rw [List.length_cons, List.length_cons, r.len]
end My
set_option Elab.async false
set_option maxRecDepth 100000
set_option maxHeartbeats 4000000
set_option linter.unusedVariables false
namespace My
open PySem PySem.Spec PyProof.Rows L2
theorem mkO_one {K : PySem.W.Frag} {C : Addr} {f : Str} {y : V} {H1 : Hp} {Q : XK} (T : OwnX K C) (hno : PySem.W.findIn K (.ref C) f = some none)
    (k : ∀ d G, Same H1 G → H1 d = none → G d = some (.xd [(f, y)]) → Q (.ref C) (some d) G) :
    ([y] : List V).length ≤ 1000 ∧ ∀ a, H1 a = none → spInit1 K f (.ref a :: ([y] ++ [])) (L2.upd H1 a (exo a C none))
      (fun v H2 => v = .non ∧ ∃ (d : Addr) (fs : List (Str × V)), H2 a = some (exo a C (some d)) ∧ H2 d = some (exd d fs) ∧ H1 d = none ∧ Q (.ref C) (some d) (L2.upd (L2.del H2 a) d (.xd fs))) (fun _ _ _ => False) := by
  refine ⟨by simp, fun a ha => ⟨a, C, y, rfl, T, hno, upd_same, fun dx hdx hne => ⟨rfl, dx, _, upd_same, (upd_ne hne).trans upd_same, ?_, k dx _ ?_ ?_ upd_same⟩⟩⟩
  · exact (upd_ne hne).symm.trans hdx
  · intro b o e
    have n1 := ne_of_none e ha
    have n2 : b ≠ dx := ne_of_none e ((upd_ne hne).symm.trans hdx)
    exact (upd_ne n2).trans ((L2.del_ne n1).trans ((upd_ne n1).trans ((upd_ne n2).trans ((upd_ne n1).trans e))))
  · exact (upd_ne hne).symm.trans hdx
end My
set_option Elab.async false
set_option maxRecDepth 100000
set_option maxHeartbeats 4000000
set_option linter.unusedVariables false
set_option Elab.async false
set_option maxRecDepth 100000
set_option maxHeartbeats 4000000
set_option linter.unusedVariables false
namespace My
open PySem PySem.Spec PyProof.Rows L2
def LitE (K : PySem.W.Frag) (σ : L2.St) (t : TE) (d : PyData) : Prop := ∀ (H : Hp) (Q : VK), (∀ v H', Same H H' → Dp K H' v d → Q v H') → t σ H Q
def LitA (K : PySem.W.Frag) (σ : L2.St) (t : TA) (ds : List PyData) : Prop := ∀ (H : Hp) (Q : List V → Hp → Prop), (∀ vs H', Same H H' → DpAll K H' vs ds → Q vs H') → t σ H Q
section
variable {K : PySem.W.Frag} {σ : L2.St}
theorem dpAll_len {H : Hp} : ∀ {vs : List V} {ds : List PyData}, DpAll K H vs ds → vs.length = ds.length
  | _, _, .nil => rfl
  | _, _, .cons _ r => by rw [List.length_cons, List.length_cons, dpAll_len r]
theorem lit_c {v : V} {d : PyData} (h : ∀ H, Dp K H v d) : LitE K σ (tC v) d := fun H Q k => k v H (Same.refl H) (h H)
theorem lit_int (i : Int) : LitE K σ (tC (.int i)) (.int i) := lit_c fun _ => .int i
theorem lit_str (x : Str) : LitE K σ (tC (.str x)) (.str x) := lit_c fun _ => .str x
theorem lit_bl (b : Bool) : LitE K σ (tC (.bl b)) (.bool b) := lit_c fun _ => .bl b
theorem lit_non : LitE K σ (tC .non) .none := lit_c fun _ => .non
theorem lit_nil : LitA K σ tNil [] := fun H Q k => k [] H (Same.refl H) .nil
theorem lit_cons {t : TE} {u : TA} {d : PyData} {ds : List PyData} (h : LitE K σ t d) (r : LitA K σ u ds) : LitA K σ (tCons t u) (d :: ds) := by
  intro H Q k
  refine h H _ fun v H1 s1 hv => r H1 _ fun vs H2 s2 hvs => ?_
  exact k _ _ (s1.trans s2) (.cons (dp_same s2 _ _ hv) hvs)
theorem lit_len {n : Nat} (h : n ≤ 1000) : n ≤ sizeLine := Nat.le_trans h (by decide)
theorem lit_tup {u : TA} {ds : List PyData} (r : LitA K σ u ds) (hl : ds.length ≤ 1000) : LitE K σ (tTup u) (.tuple ds) := by
  intro H Q k
  refine r H _ fun vs H1 s1 hvs => ⟨lit_len (by rw [dpAll_len hvs]; exact hl), fun p hp => ?_⟩
  have s2 : Same H1 (upd H1 p (.tup vs)) := same_new hp
  exact k _ _ (s1.trans s2) (.tup (.inl (.inl upd_same)) (dpAll_same s2 _ _ hvs))
theorem lit_lst {u : TA} {ds : List PyData} (r : LitA K σ u ds) (hl : ds.length ≤ 1000) : LitE K σ (tLst u) (.list ds) := by
  intro H Q k
  refine r H _ fun vs H1 s1 hvs => ⟨lit_len (by rw [dpAll_len hvs]; exact hl), fun p hp => ?_⟩
  have s2 : Same H1 (upd H1 p (.lst vs)) := same_new hp
  exact k _ _ (s1.trans s2) (.lst (.inl (.inl upd_same)) (dpAll_same s2 _ _ hvs))
def LsD (K : PySem.W.Frag) (H : Hp) (a : Addr) (ds : List PyData) : Prop := ∃ vs, H a = some (.lst vs) ∧ DpAll K H vs ds
theorem LsD.dp {H : Hp} {a : Addr} {ds : List PyData} (h : LsD K H a ds) : Dp K H (.ref a) (.list ds) := by
  obtain ⟨vs, h1, h2⟩ := h
  exact .lst (.inl (.inl h1)) h2
theorem LsD.same {H H' : Hp} {a : Addr} {ds : List PyData} (h : LsD K H a ds) (s : Same H H') : LsD K H' a ds := by
  obtain ⟨vs, h1, h2⟩ := h
  exact ⟨vs, s _ _ h1, dpAll_same s _ _ h2⟩
theorem LsD.len {H : Hp} {a : Addr} {ds : List PyData} {vs : List V} (h : LsD K H a ds) (e : H a = some (.lst vs)) : vs.length = ds.length := by
  obtain ⟨ws, h1, h2⟩ := h
  rw [h1] at e
  cases e
  exact dpAll_len h2
end
theorem lc_w {α : Type} {J : It} {n : Nat} {G : Hp → Prop} {Y : Nat → Hp → V → Hp → Prop} (w : Walk J n G Y) {g : TG} {tt : TT} {te : TE} {vs : List Nat} {σ : L2.St} {H1 : Hp} {D : Addr} {Qd : Hp → Prop}
    (as : List α) (F : α → Option V) (hn : as.length = n) (hsz : n ≤ 1000) (hD : H1 D = none) (hG : ∀ H2, Same H1 H2 → G H2)
    (hs : ∀ (i : Nat) (a : α) (x : V) (H H' : Hp) (R : Option V → Hp → Prop), as[i]? = some a → Same H1 H → Y i H x H' → (∀ H2, Same H H2 → R (F a) H2) →
      g x (wipe σ vs) H' fun σ2 H2 => wipe σ2 vs = wipe σ vs ∧ tt σ2 H2 fun b H3 => if b = true then te σ2 H3 fun y H4 => R (some y) H4 else R none H3)
    (hd : ∀ H2, Same H1 H2 → H2 D = some (.lst (as.filterMap F)) → Qd H2) :
    ∃ W : Nat → Nat → Hp → Prop, (∃ m, W 0 m (upd H1 D (.lst []))) ∧ ∀ i m H, W i m H →
      (J.stop i H ∧ Qd H) ∨ (J.go i H ∧ ∃ Nx : Hp → Prop, (∀ H', Nx H' → ∃ m', m' < m ∧ W (i + 1) m' H') ∧ ∀ x H', J.yld i H x H' → g x (wipe σ vs) H' fun σ2 H2 => wipe σ2 vs = wipe σ vs ∧ tt σ2 H2 fun b H3 =>
        if b = true then te σ2 H3 fun y H4 => ∃ acc, H4 D = some (.lst acc) ∧ acc.length < sizeLine ∧ Nx (upd H4 D (.lst (acc ++ [y]))) else Nx H3) := by
  refine lc_it w (fun i H => Same H1 H ∧ H D = some (.lst ((as.take i).filterMap F))) ⟨same_new hD, upd_same⟩ (fun i H _ p => hG H p.1) ?_
    (fun H p => hd H p.1 (by rw [p.2, ← hn, List.take_length]))
  intro i x H H' hi p y
  obtain ⟨s, hd'⟩ := p
  have hlt : i < as.length := by omega
  have ha : as[i]? = some as[i] := List.getElem?_eq_getElem hlt
  have et : (as.take (i + 1)).filterMap F = (as.take i).filterMap F ++ (F as[i]).toList := by
    rw [List.take_add_one, ha, List.filterMap_append]
    cases q : F as[i] with
    | none => simp [q]
    | some z => simp [q]
  refine hs i as[i] x H H' (fun o H4 => match o with
    | some y => ∃ acc, H4 D = some (.lst acc) ∧ acc.length < sizeLine ∧ (Same H1 (upd H4 D (.lst (acc ++ [y]))) ∧ upd H4 D (.lst (acc ++ [y])) D = some (.lst ((as.take (i + 1)).filterMap F)))
    | none => Same H1 H4 ∧ H4 D = some (.lst ((as.take (i + 1)).filterMap F))) ha s y ?_
  intro H2 s2
  cases q : F as[i] with
  | none =>
    refine ⟨s.trans s2, ?_⟩
    rw [et, q]
    simpa using s2 _ _ hd'
  | some z =>
    refine ⟨_, s2 _ _ hd', ?_, fun b o e => (upd_ne (ne_of_none e hD)).trans ((s.trans s2) b o e), ?_⟩
    · refine Nat.lt_of_le_of_lt (Nat.le_trans (List.length_filterMap_le _ _) ?_) (show 1000 < sizeLine by decide)
      rw [List.length_take]
      omega
    · rw [upd_same, et, q]
      rfl
theorem filterMap_some {α : Type} (f : α → V) : ∀ as : List α, as.filterMap (fun a => some (f a)) = as.map f
  | [] => rfl
  | a :: r => by rw [List.filterMap_cons, List.map_cons, filterMap_some f r]
end My
set_option Elab.async false
set_option maxRecDepth 100000
set_option maxHeartbeats 4000000
set_option linter.unusedVariables false
set_option Elab.async false
set_option maxRecDepth 100000
set_option maxHeartbeats 4000000
set_option linter.unusedVariables false
set_option Elab.async false
set_option maxRecDepth 100000
set_option maxHeartbeats 4000000
set_option linter.unusedVariables false
set_option Elab.async false
set_option maxRecDepth 100000
set_option maxHeartbeats 4000000
set_option linter.unusedVariables false
set_option Elab.async false
set_option maxRecDepth 100000
set_option maxHeartbeats 4000000
set_option linter.unusedVariables false
namespace My
open PySem PySem.Spec PyProof.Rows L2
theorem app_len (x y : Str) : (x ++ y).length = x.length + y.length := by
  show (x.cps ++ y.cps).size = _
  rw [Array.size_append]
  rfl
theorem VS.ne {es : List (Int × Str)} (h : VS es) : NE es := fun p hp => (h p hp).2
end My
set_option Elab.async false
set_option maxRecDepth 100000
set_option maxHeartbeats 4000000
set_option linter.unusedVariables false
namespace My
open PySem PySem.Spec PyProof.Rows L2
theorem Bag.put {H : Hp} {a b : Addr} {n : Nat} {o : HO} (h : Bag H a n) (ne : b ≠ a) : Bag (upd H b o) a n := by
  obtain ⟨x, y, z, h, r⟩ := h
  exact ⟨x, y, z, (upd_ne ne.symm).trans h, r⟩
theorem at_map {α : Type} {xs : List α} {f : α → V} {i : Int} (h0 : 0 ≤ i) (h1 : i < xs.length) : ∃ x, atI (xs.map f) i = some (f x) ∧ x ∈ xs := by
  have hlt : i.toNat < xs.length := by omega
  refine ⟨xs[i.toNat], ?_, List.getElem_mem hlt⟩
  unfold atI ixN
  rw [if_pos h0, if_pos (by rw [List.length_map]; exact h1)]
  simp [hlt]
theorem Bag.ne2 {H : Hp} {a b : Addr} {n : Nat} {kvs : List (Key × V)} (h : Bag H a n) (e : H b = some (.dK kvs)) : b ≠ a := by
  rintro rfl
  obtain ⟨x, y, z, h, _⟩ := h
  rw [h] at e; cases e
end My
set_option Elab.async false
set_option maxRecDepth 100000
set_option maxHeartbeats 4000000
set_option linter.unusedVariables false
set_option Elab.async false
set_option maxRecDepth 100000
set_option maxHeartbeats 4000000
set_option linter.unusedVariables false
namespace My
open PySem PySem.Spec PyProof.Rows L2
structure Liv (K : PySem.W.Frag) (C z1 z2 d1 l : Addr) (xs : List V) (rows : List (Int × Str)) (H0 H : Hp) : Prop where
  one : FS C (keys rows) H z1 (firsts rows)
  two : FS C (keys rows.reverse) H z2 (firsts rows.reverse)
  due : H d1 = some (.dK (ents (firsts rows)))
  lst : H l = some (.lst xs)
  tup : TupS H xs rows
  all : ∀ b o, H0 b = some o → H b = some o
theorem Liv.same {K : PySem.W.Frag} {C z1 z2 d1 l : Addr} {xs : List V} {rows : List (Int × Str)} {H0 H H' : Hp} (h : Liv K C z1 z2 d1 l xs rows H0 H) (s : Same H H') : Liv K C z1 z2 d1 l xs rows H0 H' :=
  ⟨h.one.same s, h.two.same s, s _ _ h.due, s _ _ h.lst, tupS_same s h.tup, fun b o e => s _ _ (h.all b o e)⟩
theorem Liv.ext {K : PySem.W.Frag} {C z1 z2 d1 l g : Addr} {xs : List V} {rows : List (Int × Str)} {H0 H H' : Hp} {n : Nat} (h : Liv K C z1 z2 d1 l xs rows H0 H) (b : Bag H g n) (nl : l ≠ g) (ng : H0 g = none) (s : Ext g H H') : Liv K C z1 z2 d1 l xs rows H0 H' := by
  have b2 := b
  obtain ⟨x, y, z, e, _⟩ := b
  exact ⟨h.one.chg e s, h.two.chg e s, s _ _ (b2.ne2 h.due) h.due, s _ _ nl h.lst, tupS_chg e s h.tup, fun c o q => s _ _ (fun w => by rw [w, ng] at q; cases q) (h.all c o q)⟩
end My
set_option Elab.async false
set_option maxRecDepth 100000
set_option maxHeartbeats 4000000
set_option linter.unusedVariables false
set_option Elab.async false
set_option maxRecDepth 100000
set_option maxHeartbeats 4000000
set_option linter.unusedVariables false
set_option Elab.async false
set_option maxRecDepth 100000
set_option maxHeartbeats 4000000
set_option linter.unusedVariables false
namespace My
open PySem PySem.Spec PyProof.Rows L2
theorem MtX.calm {P : Program} {w : World} {K : PySem.W.Frag} {mg : Str → Option Value} {base : Heap} {C : Addr} {m : Str} {k : Nat} {ps : List Str} {sp : Sp} (D : MtX P w K mg base C m k ps sp) : Mt P w K mg base C m k ps (fun vs H Q _ => sp vs H Q E0) := by
  obtain ⟨f, fd, h1, h2, h3, F, b⟩ := D
  refine ⟨f, fd, h1, h2, h3, ⟨fun vs H Q E h => F.len _ _ _ _ h, fun A outer s H args us vs Q E hr e0 hb r h => ?_⟩, b⟩
  refine codeAny_mono (F.run A outer s H args us vs Q E0 hr e0 hb r h) fun r s' hq => ?_
  cases r with
  | error e =>
    obtain ⟨_, _, _, _, _, _, _, _, _, _, _, _, z⟩ := (show L2.CX P w outer H s E0 e s' from hq)
    exact z.elim
  | ok fl =>
    cases fl with
    | ret u => exact hq
    | next => exact hq
    | brk => exact hq
    | cont => exact hq
end My
set_option Elab.async false
set_option maxRecDepth 100000
set_option maxHeartbeats 4000000
set_option linter.unusedVariables false
namespace My
open PySem PySem.Spec PyProof.Rows L2
abbrev Ps := List Str → Option (PyData × List Str)
def pTok (x : Str) : List Str → Option (List Str)
  | [] => none
  | t :: r => if t = x then some r else none
def pLoop (op : Str) (sub : Ps) : Nat → PyData → Ps
  | 0, l, ts => some (l, ts)
  | n + 1, l, ts => match pTok op ts with
    | none => some (l, ts)
    | some r => match sub r with
      | none => none
      | some (d, r2) => pLoop op sub n (.tuple [.str op, l, d]) r2
def pParts1 (inner : Ps) : Ps := fun ts => match pTok "(" ts with
  | none => none
  | some r => match inner r with
    | none => none
    | some (d, r2) => match pTok ")" r2 with
      | none => none
      | some r3 => some (d, r3)
def pParts2 (inner : Ps) (ts : List Str) : Option (PyData × PyData × List Str) := match pTok "(" ts with
  | none => none
  | some r => match inner r with
    | none => none
    | some (d, r2) => match pTok "," r2 with
      | none => none
      | some r3 => match inner r3 with
        | none => none
        | some (d2, r4) => match pTok ")" r4 with
          | none => none
          | some r5 => some (d, d2, r5)
def pSingle (inner : Ps) : Ps := fun ts => match ts with
  | [] => none
  | t :: r => if nameOk t = true then some (.str t, r) else
    if t = "keys" then (match pParts1 inner r with
      | none => none
      | some (d, q) => some (.tuple [.str "keys", d], q)) else
    if t = "look" then (match pParts2 inner r with
      | none => none
      | some (d, d2, q) => some (.tuple [.str "look", d, d2], q)) else
    pParts1 inner (t :: r)
def ops5 : List Str := ["|", "^", "&", "-", "@"]
def opAt (m : Nat) : Str := ops5.getD (4 - m) Str.empty
def pLev (single : Ps) : Nat → Ps
  | 0 => single
  | m + 1 => fun ts => match pLev single m ts with
    | none => none
    | some (l, r) => pLoop (opAt m) (pLev single m) r.length l r
def pIn : Nat → Ps
  | 0 => fun _ => none
  | n + 1 => pLev (pSingle (pIn n)) 5
def rdF (w : Addr) (i dep : Int) : List (Str × V) := [("words", .ref w), ("at", .int i), ("depth", .int dep)]
structure RdI (C : Addr) (H : Hp) (r dx w : Addr) (ws : List Str) (i dep : Nat) : Prop where
  ins : H r = some (.ins C dx (rdF w i dep))
  lst : H w = some (.lst (ws.map V.str))
  len : ws.length ≤ 1000
theorem RdI.ne {C : Addr} {H : Hp} {r dx w : Addr} {ws : List Str} {i dep : Nat} (h : RdI C H r dx w ws i dep) : w ≠ r := fun e => by
  have := h.lst
  rw [e, h.ins] at this
  cases this
def spTook (C : Addr) : Sp := fun vs H Q _ => ∃ r dx w ws i dep x y, vs = [.ref r, .str x] ∧ RdI C H r dx w ws i dep ∧ ws[i]? = some y ∧
  (y = x → Q (.bl true) (upd H r (.ins C dx (rdF w ((i + 1 : Nat) : Int) dep)))) ∧ (y ≠ x → Q (.bl false) H)
def spNeed (C CB : Addr) : Sp := fun vs H Q E => ∃ r dx w ws i dep x y, vs = [.ref r, .str x] ∧ RdI C H r dx w ws i dep ∧ ws[i]? = some y ∧
  (y = x → Q .non (upd H r (.ins C dx (rdF w ((i + 1 : Nat) : Int) dep)))) ∧
  (y ≠ x → ∀ e H', Same H H' → H e = none → H' e = some (.xd [("place", .int 0)]) → E (.ref CB) (some e) H')
section
variable {X : Cx} {C : Addr} {k : Nat} {ps : List Str} {sp : Sp} {m : Str} {pos apos : Pos} {o : Expr} {to : TE} {E : XK}
theorem pe_mtX0 {pl : Sem Bool} (D : MtX X.prog X.w X.K X.mg X.base C m k ps sp) (hr : Room k X.A) (c : Cls X.K C) (hx : Passes (L2.CX X.prog X.w) X E) (he : PE X o to)
    (ht : eval (.Call (.Attribute o m apos) [] [] pos) X.env = (do
      let ov ← eval o X.env
      standAt apos.atName
      let (f, first) ← holding [ov] (getMethod ov m pl)
      callWith pos f first (backTo pos (starEach [] X.env)) (backToKw pos (keywordEach [] X.env))) := by rfl) :
    PE X (.Call (.Attribute o m apos) [] [] pos) (tMeth C m sp [] E to tNil) := by
  obtain ⟨f, fd, h1, h2, h3, F, b⟩ := D
  exact pe_meth0 (ds := []) he c ⟨h1, h2, h3⟩ F hr b .nil hx ht
end
theorem at_nat {xs : List V} {i : Nat} {v : V} (h : xs[i]? = some v) : atI xs (i : Int) = some v := by
  have hi := (List.getElem?_eq_some_iff.mp h).1
  unfold atI ixN
  rw [if_pos (Int.natCast_nonneg i), if_pos (by omega)]
  simpa using h
theorem RdI.at {C : Addr} {H : Hp} {r dx w : Addr} {ws : List Str} {i dep : Nat} {y : Str} (h : RdI C H r dx w ws i dep) (e : ws[i]? = some y) : atI (ws.map V.str) (i : Int) = some (.str y) :=
  at_nat (by rw [List.getElem?_map, e]; rfl)
structure RdT (C : Addr) (H : Hp) (r dx w : Addr) (toks ts : List Str) (dep : Nat) : Prop where
  rd : RdI C H r dx w (toks ++ ([""] : List Str)) (toks.length - ts.length) dep
  suf : toks.drop (toks.length - ts.length) = ts
  le : ts.length ≤ toks.length
  ne : ∀ t ∈ toks, t ≠ ""
  sms : ∀ t ∈ toks, sm (.str t)
section
variable {C : Addr} {H H' : Hp} {r dx w : Addr} {toks ts : List Str} {dep : Nat}
theorem RdT.at (h : RdT C H r dx w toks ts dep) : (toks ++ ([""] : List Str))[toks.length - ts.length]? = some (ts.headD "") := by
  have e := h.suf
  cases ts with
  | nil =>
    show (toks ++ ([""] : List Str))[toks.length - 0]? = some ""
    simp
  | cons t tl =>
    have hlt : toks.length - (t :: tl).length < toks.length := by
      have := h.le
      rw [List.length_cons] at this ⊢
      omega
    rw [List.getElem?_append_left hlt]
    have e2 : toks[toks.length - (t :: tl).length]? = (toks.drop (toks.length - (t :: tl).length))[0]? := by rw [List.getElem?_drop]; simp
    rw [e2, e]
    rfl
theorem RdT.step {x : Str} (h : RdT C H r dx w toks ts dep) (hx : x ≠ "") (e : ts.headD "" = x) : ∃ tl, ts = x :: tl ∧ pTok x ts = some tl ∧
    RdT C (upd H r (.ins C dx (rdF w ((toks.length - ts.length + 1 : Nat) : Int) dep))) r dx w toks tl dep := by
  cases ts with
  | nil => exact absurd e.symm hx
  | cons t tl =>
    have e : t = x := e
    subst e
    have hle := h.le
    rw [List.length_cons] at hle
    have ei : toks.length - (t :: tl).length + 1 = toks.length - tl.length := by rw [List.length_cons]; omega
    refine ⟨tl, rfl, if_pos rfl, ⟨⟨?_, (upd_ne h.rd.ne).trans h.rd.lst, h.rd.len⟩, ?_, by omega, h.ne, h.sms⟩⟩
    · rw [upd_same, ei]
    · have := h.suf
      rw [← ei, ← List.drop_drop, this]
      rfl
theorem RdT.no {x : Str} (hx : x ≠ "") (e : ts.headD "" ≠ x) : pTok x ts = none := by
  cases ts with
  | nil => rfl
  | cons t tl => exact if_neg e
theorem RdT.deep (h : RdT C H r dx w toks ts dep) (q : Nat) : RdT C (upd H r (.ins C dx (rdF w ((toks.length - ts.length : Nat) : Int) q))) r dx w toks ts q :=
  ⟨⟨upd_same, (upd_ne h.rd.ne).trans h.rd.lst, h.rd.len⟩, h.suf, h.le, h.ne, h.sms⟩
theorem ext_upd {o : HO} : Ext r H (upd H r o) := fun b u n e => (upd_ne n).trans e
theorem Ext.tr {H'' : Hp} (a : Ext r H H') (b : Ext r H' H'') : Ext r H H'' := fun c o n e => b c o n (a c o n e)
theorem ext_none {e : Addr} (x : Ext r H H') (h : H' r ≠ none) (n : H' e = none) : H e = none := by
  cases q : H e with
  | none => rfl
  | some o =>
    by_cases c : e = r
    · rw [c] at n; exact absurd n h
    · rw [x e o c q] at n; cases n
theorem RdT.some (h : RdT C H r dx w toks ts dep) : H r ≠ none := by rw [h.rd.ins]; exact fun z => nomatch z
theorem RdT.same (h : RdT C H r dx w toks ts dep) (s : Same H H') : RdT C H' r dx w toks ts dep := ⟨⟨s _ _ h.rd.ins, s _ _ h.rd.lst, h.rd.len⟩, h.suf, h.le, h.ne, h.sms⟩
end
mutual

def tre : PyData → Bool
  | .str _ => true
  | .tuple ds => treAll ds
  | _ => false
def treAll : List PyData → Bool
  | [] => true
  | d :: ds => tre d && treAll ds
end
def ExtT (H H' : Hp) : Prop := (∀ b xs, H b = some (.tup xs) → H' b = some (.tup xs)) ∧ ∀ b o xs, H b = some (.frz o (.tup xs)) → H' b = some (.frz o (.tup xs))
mutual
theorem extT_dp {K : PySem.W.Frag} {H H' : Hp} (e : ExtT H H') : ∀ (d : PyData) (v : V), tre d = true → Dp K H v d → Dp K H' v d
  | .str _, _, _, h => by cases h; exact .str _
  | .tuple ds, _, t, h => by
    cases h with
    | tup q z =>
      refine .tup ?_ (extT_dpAll e ds _ (by unfold tre at t; exact t) z)
      rcases q with (q | ⟨o, q⟩) | q
      · exact .inl (.inl (e.1 _ _ q))
      · exact .inl (.inr ⟨o, e.2 _ _ _ q⟩)
      · exact .inr q
  | .none, _, t, _ => by cases t
  | .bool _, _, t, _ => by cases t
  | .int _, _, t, _ => by cases t
  | .list _, _, t, _ => by cases t
  | .dict _, _, t, _ => by cases t
theorem extT_dpAll {K : PySem.W.Frag} {H H' : Hp} (e : ExtT H H') : ∀ (ds : List PyData) (vs : List V), treAll ds = true → DpAll K H vs ds → DpAll K H' vs ds
  | [], _, _, h => by cases h; exact .nil
  | d :: ds, _, t, h => by
    unfold treAll at t
    rw [Bool.and_eq_true] at t
    cases h with
    | cons q z => exact .cons (extT_dp e d _ t.1 q) (extT_dpAll e ds _ t.2 z)
end
theorem ExtT.same {H H' : Hp} (s : Same H H') : ExtT H H' := ⟨fun b xs e => s _ _ e, fun b o xs e => s _ _ e⟩
theorem ExtT.ext {H H' : Hp} {r C dx : Addr} {fs : List (Str × V)} (hr : H r = some (.ins C dx fs)) (e : Ext r H H') : ExtT H H' :=
  ⟨fun b xs h => e _ _ (fun c => by rw [c, hr] at h; cases h) h, fun b o xs h => e _ _ (fun c => by rw [c, hr] at h; cases h) h⟩
theorem ExtT.lst {H : Hp} {p : Addr} {ls : List V} {o : HO} (hp : H p = some (.lst ls)) : ExtT H (upd H p o) :=
  ⟨fun b xs h => (upd_ne (fun c => by rw [c, hp] at h; cases h)).trans h, fun b o xs h => (upd_ne (fun c => by rw [c, hp] at h; cases h)).trans h⟩
theorem RdT.put {C : Addr} {H : Hp} {r dx w : Addr} {toks ts : List Str} {dep : Nat} (h : RdT C H r dx w toks ts dep) {p : Addr} {o : HO} (n1 : p ≠ r) (n2 : p ≠ w) : RdT C (upd H p o) r dx w toks ts dep :=
  ⟨⟨(upd_ne n1.symm).trans h.rd.ins, (upd_ne n2.symm).trans h.rd.lst, h.rd.len⟩, h.suf, h.le, h.ne, h.sms⟩
def ParseQ (K : PySem.W.Frag) (C CB : Addr) (p : Ps) (r dx w : Addr) (toks ts : List Str) (dep : Nat) (H : Hp) (Q : VK) (E : XK) : Prop :=
  (∀ d rest v H', p ts = some (d, rest) → Ext r H H' → RdT C H' r dx w toks rest dep → Dp K H' v d → tre d = true → Q v H') ∧
  (p ts = none → ∀ e H', Ext r H H' → H e = none → H' e = some (.xd [("place", .int 0)]) → E (.ref CB) (some e) H')
def spSingleR (K : PySem.W.Frag) (C CB : Addr) (n : Nat) : Sp := fun vs H Q E => ∃ r dx w toks ts dep, vs = [.ref r] ∧ RdT C H r dx w toks ts dep ∧ dep + n = 8 ∧ ParseQ K C CB (pSingle (pIn n)) r dx w toks ts dep H Q E
def spLevelR (K : PySem.W.Frag) (C CB : Addr) (n m : Nat) : Sp := fun vs H Q E => ∃ r dx w toks ts dep j, vs = [.ref r, .int j] ∧ j = 5 - m ∧ m ≤ 5 ∧ RdT C H r dx w toks ts dep ∧ dep + n = 8 ∧
  ParseQ K C CB (pLev (pSingle (pIn n)) m) r dx w toks ts dep H Q E
def spPartsR (K : PySem.W.Frag) (C CB : Addr) (n : Nat) : Sp := fun vs H Q E => ∃ r dx w toks ts dep many, vs = [.ref r, .int many] ∧ RdT C H r dx w toks ts dep ∧ dep + n = 8 ∧
  ((many = 1 ∧ (∀ d rest v l H', pParts1 (pIn n) ts = some (d, rest) → Ext r H H' → RdT C H' r dx w toks rest dep → Dp K H' v d → tre d = true → H' l = some (.lst [v]) → Q (.ref l) H') ∧
      (pParts1 (pIn n) ts = none → ∀ e H', Ext r H H' → H e = none → H' e = some (.xd [("place", .int 0)]) → E (.ref CB) (some e) H')) ∨
   (many = 2 ∧ (∀ d d2 rest v v2 l H', pParts2 (pIn n) ts = some (d, d2, rest) → Ext r H H' → RdT C H' r dx w toks rest dep → Dp K H' v d → tre d = true → Dp K H' v2 d2 → tre d2 = true → H' l = some (.lst [v, v2]) → Q (.ref l) H') ∧
      (pParts2 (pIn n) ts = none → ∀ e H', Ext r H H' → H e = none → H' e = some (.xd [("place", .int 0)]) → E (.ref CB) (some e) H')))
section
variable {inner : Ps} {ts r1 r2 r3 r4 r5 : List Str} {d d2 : PyData}
theorem p1_a (h : pTok "(" ts = none) : pParts1 inner ts = none := by unfold pParts1; rw [h]
theorem p1_b (h : pTok "(" ts = some r1) (h1 : inner r1 = none) : pParts1 inner ts = none := by unfold pParts1; simp only [h, h1]
theorem p1_c (h : pTok "(" ts = some r1) (h1 : inner r1 = some (d, r2)) (h2 : pTok ")" r2 = none) : pParts1 inner ts = none := by unfold pParts1; simp only [h, h1, h2]
theorem p1_d (h : pTok "(" ts = some r1) (h1 : inner r1 = some (d, r2)) (h2 : pTok ")" r2 = some r3) : pParts1 inner ts = some (d, r3) := by unfold pParts1; simp only [h, h1, h2]
theorem p2_a (h : pTok "(" ts = none) : pParts2 inner ts = none := by unfold pParts2; rw [h]
theorem p2_b (h : pTok "(" ts = some r1) (h1 : inner r1 = none) : pParts2 inner ts = none := by unfold pParts2; simp only [h, h1]
theorem p2_c (h : pTok "(" ts = some r1) (h1 : inner r1 = some (d, r2)) (h2 : pTok "," r2 = none) : pParts2 inner ts = none := by unfold pParts2; simp only [h, h1, h2]
theorem p2_d (h : pTok "(" ts = some r1) (h1 : inner r1 = some (d, r2)) (h2 : pTok "," r2 = some r3) (h3 : inner r3 = none) : pParts2 inner ts = none := by unfold pParts2; simp only [h, h1, h2, h3]
theorem p2_e (h : pTok "(" ts = some r1) (h1 : inner r1 = some (d, r2)) (h2 : pTok "," r2 = some r3) (h3 : inner r3 = some (d2, r4)) (h4 : pTok ")" r4 = none) : pParts2 inner ts = none := by unfold pParts2; simp only [h, h1, h2, h3, h4]
theorem p2_f (h : pTok "(" ts = some r1) (h1 : inner r1 = some (d, r2)) (h2 : pTok "," r2 = some r3) (h3 : inner r3 = some (d2, r4)) (h4 : pTok ")" r4 = some r5) : pParts2 inner ts = some (d, d2, r5) := by unfold pParts2; simp only [h, h1, h2, h3, h4]
end
theorem RdT.mem {C : Addr} {H : Hp} {r dx w : Addr} {toks ts : List Str} {dep : Nat} (h : RdT C H r dx w toks ts dep) : ∀ t ∈ ts, t ∈ toks := fun t ht => by
  rw [← h.suf] at ht
  exact List.mem_of_mem_drop ht
theorem RdT.smh {C : Addr} {H : Hp} {r dx w : Addr} {toks ts : List Str} {dep : Nat} (h : RdT C H r dx w toks ts dep) : sm (.str (ts.headD "")) := by
  cases ts with
  | nil => exact ⟨by decide, .inl (by decide +kernel)⟩
  | cons t tl => exact h.sms t (h.mem t List.mem_cons_self)
section
variable {inner : Ps} {t : Str} {r ts : List Str}
theorem sg_name (h : nameOk t = true) : pSingle inner (t :: r) = some (.str t, r) := by unfold pSingle; exact if_pos h
theorem no_keys : nameOk "keys" = false := by decide +kernel
theorem no_look : nameOk "look" = false := by decide +kernel
theorem no_end : nameOk "" = false := by decide +kernel
theorem sg_keys0 (h : pParts1 inner r = none) : pSingle inner ("keys" :: r) = none := by
  unfold pSingle
  simp only [no_keys, h]
  rfl
theorem sg_keys1 {d : PyData} {q : List Str} (h : pParts1 inner r = some (d, q)) : pSingle inner ("keys" :: r) = some (.tuple [.str "keys", d], q) := by
  unfold pSingle
  simp only [no_keys, h]
  rfl
theorem sg_look0 (h : pParts2 inner r = none) : pSingle inner ("look" :: r) = none := by
  unfold pSingle
  simp only [no_look, h]
  rfl
theorem sg_look1 {d d2 : PyData} {q : List Str} (h : pParts2 inner r = some (d, d2, q)) : pSingle inner ("look" :: r) = some (.tuple [.str "look", d, d2], q) := by
  unfold pSingle
  simp only [no_look, h]
  rfl
theorem sg_par (h : nameOk (ts.headD "") = false) (h1 : ts.headD "" ≠ "keys") (h2 : ts.headD "" ≠ "look") : pSingle inner ts = pParts1 inner ts := by
  cases ts with
  | nil => rfl
  | cons t r =>
    have h : nameOk t = false := h
    have h1 : t ≠ "keys" := h1
    have h2 : t ≠ "look" := h2
    unfold pSingle
    simp only [h, if_neg h1, if_neg h2]
    rfl
end
section
variable {op : Str} {sub s : Ps} {n m : Nat} {l d : PyData} {ts r r2 : List Str}
theorem loop_no (h : pTok op ts = none) : pLoop op sub n l ts = some (l, ts) := by
  cases n with
  | zero => rfl
  | succ n => unfold pLoop; simp only [h]
theorem loop_none (h : pTok op ts = some r) (h1 : sub r = none) : pLoop op sub (n + 1) l ts = none := by unfold pLoop; simp only [h, h1]
theorem loop_go (h : pTok op ts = some r) (h1 : sub r = some (d, r2)) : pLoop op sub (n + 1) l ts = pLoop op sub n (.tuple [.str op, l, d]) r2 := by
  rw [pLoop]
  simp only [h, h1]
theorem lev_none (h : pLev s m ts = none) : pLev s (m + 1) ts = none := by unfold pLev; simp only [h]
theorem lev_go (h : pLev s m ts = some (l, r)) : pLev s (m + 1) ts = pLoop (opAt m) (pLev s m) r.length l r := by
  rw [pLev]
  simp only [h]
end
def Less (p : Ps) : Prop := ∀ ts d r, p ts = some (d, r) → r.length ≤ ts.length
theorem tok_len {x : Str} : ∀ {ts r : List Str}, pTok x ts = some r → r.length < ts.length := by
  intro ts r h
  cases ts with
  | nil => cases h
  | cons t tl =>
    by_cases e : t = x
    · have g : (if t = x then some tl else none) = some r := h
      rw [if_pos e] at g; cases g; exact Nat.lt_succ_self _
    · have g : (if t = x then some tl else none) = some r := h
      rw [if_neg e] at g; cases g
theorem less_p1 {inner : Ps} (hi : Less inner) : Less (pParts1 inner) := by
  intro ts d r h
  unfold pParts1 at h
  split at h
  · cases h
  · rename_i r1 h1
    split at h
    · cases h
    · rename_i d2 r2 h2
      split at h
      · cases h
      · rename_i r3 h3
        cases h
        have a := tok_len h1
        have b := hi _ _ _ h2
        have c := tok_len h3
        omega
theorem less_p2 {inner : Ps} (hi : Less inner) {ts r : List Str} {d d2 : PyData} (h : pParts2 inner ts = some (d, d2, r)) : r.length ≤ ts.length := by
  unfold pParts2 at h
  split at h
  · cases h
  · rename_i r1 h1
    split at h
    · cases h
    · rename_i d3 r2 h2
      split at h
      · cases h
      · rename_i r3 h3
        split at h
        · cases h
        · rename_i d4 r4 h4
          split at h
          · cases h
          · rename_i r5 h5
            cases h
            have a := tok_len h1
            have b := hi _ _ _ h2
            have c := tok_len h3
            have e := hi _ _ _ h4
            have f := tok_len h5
            omega
theorem less_single {inner : Ps} (hi : Less inner) : Less (pSingle inner) := by
  intro ts d r h
  cases ts with
  | nil => cases h
  | cons t tl =>
    unfold pSingle at h
    simp only at h
    split at h
    · cases h; exact Nat.le_succ _
    · split at h
      · split at h
        · cases h
        · rename_i d2 q h2
          cases h
          exact Nat.le_succ_of_le (less_p1 hi _ _ _ h2)
      · split at h
        · split at h
          · cases h
          · rename_i d2 d3 q h2
            cases h
            exact Nat.le_succ_of_le (less_p2 hi h2)
        · exact less_p1 hi _ _ _ h
theorem less_loop {op : Str} {sub : Ps} (hs : Less sub) : ∀ (n : Nat) (l : PyData), Less (pLoop op sub n l)
  | 0, l, ts, d, r, h => by cases h; exact Nat.le_refl _
  | n + 1, l, ts, d, r, h => by
    cases e : pTok op ts with
    | none => rw [loop_no e] at h; cases h; exact Nat.le_refl _
    | some r1 =>
      cases e2 : sub r1 with
      | none => rw [loop_none e e2] at h; cases h
      | some q =>
        obtain ⟨d2, r2⟩ := q
        rw [loop_go e e2] at h
        have a := tok_len e
        have b := hs _ _ _ e2
        have c := less_loop hs n _ _ _ _ h
        omega
theorem less_lev {s : Ps} (hs : Less s) : ∀ m : Nat, Less (pLev s m)
  | 0 => hs
  | m + 1 => fun ts d r h => by
    cases e : pLev s m ts with
    | none => rw [lev_none e] at h; cases h
    | some q =>
      obtain ⟨l, r1⟩ := q
      rw [lev_go e] at h
      have a := less_lev hs m _ _ _ e
      have b := less_loop (less_lev hs m) _ _ _ _ _ h
      omega
theorem less_in : ∀ n : Nat, Less (pIn n)
  | 0 => fun _ _ _ h => by cases h
  | n + 1 => less_lev (less_single (less_in n)) 5
def pE (toks : List Str) : Option PyData := match pIn 9 toks with
  | some (d, []) => some d
  | _ => none
theorem pE_none (h : pIn 9 toks = none) : pE toks = none := by unfold pE; rw [h]
theorem pE_some (h : pIn 9 toks = some (d, [])) : pE toks = some d := by unfold pE; rw [h]
theorem pE_more {t : Str} {tl : List Str} (h : pIn 9 toks = some (d, t :: tl)) : pE toks = none := by unfold pE; rw [h]
def spInitRd (C : Addr) : Sp := fun vs H Q _ => ∃ (x dx a : Addr) (toks : List Str), vs = [.ref x, .ref a] ∧ H x = some (.ins C dx []) ∧ H a = some (.lst (toks.map V.str)) ∧ toks.length < 1000 ∧
  (∀ t ∈ toks, t ≠ "") ∧ (∀ t ∈ toks, sm (.str t)) ∧ ∀ w H', Ext x H H' → RdT C H' x dx w toks toks 0 → Q .non H'
def spWholeR (K : PySem.W.Frag) (C CB : Addr) : Sp := fun vs H Q E => ∃ r dx w toks, vs = [.ref r] ∧ RdT C H r dx w toks toks 0 ∧
  (∀ d v H', pE toks = some d → Ext r H H' → Dp K H' v d → tre d = true → Q v H') ∧
  (pE toks = none → ∀ e H', Ext r H H' → H e = none → H' e = some (.xd [("place", .int 0)]) → E (.ref CB) (some e) H')
def spNever : Sp := fun _ _ _ _ => False
theorem fn_never {P : Program} {w : World} {K : PySem.W.Frag} {mg : Str → Option Value} {base : Heap} {CX : CXT} {k : Nat} {f : Addr} {fd : FuncData} {ps : List Str} : FnOk P w K mg base CX k f fd ps spNever :=
  ⟨fun _ _ _ _ h => h.elim, fun _ _ _ _ _ _ _ _ _ _ _ _ _ h => h.elim⟩
theorem MtX.mono {P : Program} {w : World} {K : PySem.W.Frag} {mg : Str → Option Value} {base : Heap} {C : Addr} {m : Str} {j k : Nat} {ps : List Str} {sp : Sp} (h : j ≤ k) (D : MtX P w K mg base C m j ps sp) : MtX P w K mg base C m k ps sp := by
  obtain ⟨f, fd, a, b, c, F, e⟩ := D
  exact ⟨f, fd, a, b, c, F.mono h, e⟩
theorem reader_tie {K : PySem.W.Frag} {C CB : Addr} {Lv Sg Pt : Nat → Sp → Prop} (mS : ∀ {j k : Nat} {sp : Sp}, j ≤ k → Sg j sp → Sg k sp) (zL : ∀ k, Lv k spNever)
    (aP : ∀ k n spI, (∀ m, n = m + 1 → spI = spLevelR K C CB m 5) → Lv (k + 4) spI → Pt (k + 5) (spPartsR K C CB n))
    (aS : ∀ k n, Pt (k + 4) (spPartsR K C CB n) → Sg (k + 5) (spSingleR K C CB n))
    (aL : ∀ k n m spS spL, (m = 0 → spS = spSingleR K C CB n) → (∀ q, m = q + 1 → spL = spLevelR K C CB n q) → Sg (k + 4) spS → Lv (k + 4) spL → Lv (k + 5) (spLevelR K C CB n m)) :
    ∀ n : Nat, Lv (8 * n + 12) (spLevelR K C CB n 5) := by
  have lev : ∀ n k, Pt (k + 5) (spPartsR K C CB n) → Lv (k + 12) (spLevelR K C CB n 5) := fun n k hP => by
    have s0 : Sg (k + 6) (spSingleR K C CB n) := aS (k + 1) n hP
    have l0 : Lv (k + 7) (spLevelR K C CB n 0) := aL (k + 2) n 0 _ _ (fun _ => rfl) (fun q z => by cases z) s0 (zL _)
    have go : ∀ j m, Lv (k + 7 + j) (spLevelR K C CB n m) → Lv (k + 7 + (j + 1)) (spLevelR K C CB n (m + 1)) := fun j m h =>
      aL (k + 3 + j) n (m + 1) (spSingleR K C CB n) _ (fun z => by cases z) (fun q z => by cases z; rfl) (mS (by omega) s0) (by rw [show k + 3 + j + 4 = k + 7 + j by omega]; exact h) |> fun z => by
        rw [show k + 7 + (j + 1) = k + 3 + j + 5 by omega]; exact z
    exact go 4 4 (go 3 3 (go 2 2 (go 1 1 (go 0 0 l0))))
  intro n
  induction n with
  | zero => exact lev 0 0 (aP 0 0 spNever (fun m z => by cases z) (zL _))
  | succ n ih =>
    have := lev (n + 1) (8 * n + 8) (aP (8 * n + 8) (n + 1) _ (fun m z => by cases z; rfl) ih)
    rw [show 8 * (n + 1) + 12 = 8 * n + 8 + 12 by omega]
    exact this
end My
set_option Elab.async false
set_option linter.all false
set_option maxRecDepth 100000
namespace My
open PySem PySem.Spec PyProof.Rows L2
theorem thnK {α : Type} {t : Sem α} {Q Q' : α → Shared → Prop} {M : Model} {A : Around} {E : Value → Shared → Prop} {s : Shared} {n : Nat} (hn : n ≤ s.toks) (h : wpAny M A t Q E s) (hQ : ∀ a s1, n ≤ s1.toks → Q a s1 → Q' a s1) : wpAny M A t Q' E s :=
  wpAny_mono (PySem.wpAny_toks_of hn h) (fun a s1 q => hQ a s1 q.1 q.2) fun _ _ x => x.2
structure PEn (n : Nat) (X : Cx) (e : Expr) (t : TE) : Prop where
  run : ∀ (pins : List (Addr × Obj)) (s : Shared) (σ : L2.St) (H : Hp) (Q : VK), n ≤ s.toks → Inv X pins σ H s → t σ H Q → wpAny (model X.prog X.w) X.A (eval e X.env) (EP X pins σ Q) X.xe s
structure PTn (n : Nat) (X : Cx) (e : Expr) (t : TT) : Prop where
  run : ∀ (pins : List (Addr × Obj)) (s : Shared) (σ : L2.St) (H : Hp) (Q : Bool → Hp → Prop), n ≤ s.toks → Inv X pins σ H s → t σ H Q → wpAny (model X.prog X.w) X.A (isTrue e X.env (eval e X.env)) (TP X pins σ Q) X.xe s
structure PAn (n : Nat) (X : Cx) (es : List Expr) (t : TA) : Prop where
  run : ∀ (pos : Pos) (pins : List (Addr × Obj)) (s : Shared) (σ : L2.St) (H : Hp) (Q : List V → Hp → Prop), n ≤ s.toks → Inv X pins σ H s → t σ H Q → wpAny (model X.prog X.w) X.A (spliced (backTo pos (starEach es X.env))) (AP X pins σ Q) X.xe s
structure PSn (n : Nat) (X : Cx) (st : Stmt) (t : TS) : Prop where
  run : ∀ (pins : List (Addr × Obj)) (s : Shared) (σ : L2.St) (H : Hp) (D : Ends), n ≤ s.toks → Inv X pins σ H s → t D σ H → wpAny (model X.prog X.w) X.A (exec st X.env) (SP X pins D) X.xe s
structure PSsn (n : Nat) (X : Cx) (st : List Stmt) (t : TS) : Prop where
  run : ∀ (pins : List (Addr × Obj)) (s : Shared) (σ : L2.St) (H : Hp) (D : Ends), n ≤ s.toks → Inv X pins σ H s → t D σ H → wpAny (model X.prog X.w) X.A (execs st X.env) (SP X pins D) X.xe s
structure FnT (n : Nat) (P : Program) (w : World) (K : PySem.W.Frag) (mg : Str → Option Value) (base : Heap) (CX : CXT) (k : Nat) (f : Addr) (fd : FuncData) (ps : List Str) (sp : Sp) : Prop where
  len : ∀ vs H Q E, sp vs H Q E → vs.length = ps.length
  run : ∀ (A : Around) (outer : List Env) (s : Shared) (H : Hp) (args : Args) (us : List Value) (vs : List V) (Q : VK) (E : XK), n ≤ s.toks → Room k A → Env0 P w K mg base A outer s H → BindsTo s fd args (ps.zip us) → Vals vs us → sp vs H Q E →
    codeAny (model P w) A (.call (.ref f) args) (CR CX outer P w H s Q E) s
section
variable {n : Nat} {X : Cx} {e a b : Expr} {es : List Expr} {st : Stmt} {rest : List Stmt} {te ta tb : TE} {tt : TT} {t u : TS} {tl : TA} {pos : Pos}
theorem PEn.of (h : PE X e te) : PEn n X e te := ⟨fun pins s σ H Q _ I q => h.run pins s σ H Q I q⟩
theorem PTn.of (h : PT X e tt) : PTn n X e tt := ⟨fun pins s σ H Q _ I q => h.run pins s σ H Q I q⟩
theorem PAn.of (h : PA X es tl) : PAn n X es tl := ⟨fun pos pins s σ H Q _ I q => h.run pos pins s σ H Q I q⟩
theorem PSn.of (h : PS X st t) : PSn n X st t := ⟨fun pins s σ H D _ I q => h.run pins s σ H D I q⟩
theorem PSsn.of (h : PSs X rest t) : PSsn n X rest t := ⟨fun pins s σ H D _ I q => h.run pins s σ H D I q⟩
theorem FnT.of {P : Program} {w : World} {K : PySem.W.Frag} {mg : Str → Option Value} {base : Heap} {CX : CXT} {k : Nat} {f : Addr} {fd : FuncData} {ps : List Str} {sp : Sp} (F : FnOk P w K mg base CX k f fd ps sp) : FnT n P w K mg base CX k f fd ps sp :=
  ⟨F.len, fun A outer s H args us vs Q E _ => F.run A outer s H args us vs Q E⟩
theorem pan_nil : PAn n X [] tNil := .of pa_nil
theorem pan_cons (ha : PEn n X e te) (hr : PAn n X es tl) (hs : starEach (e :: es) X.env = (false, eval e X.env) :: starEach es X.env := by rfl) : PAn n X (e :: es) (tCons te tl) := by
  refine ⟨fun pos pins s σ H Q hn I h => ?_⟩
  rw [hs]
  show wpAny _ _ (spliced ((false, eval e X.env) :: backTo pos (starEach es X.env))) _ _ s
  refine Calls.spliced_cons (thnK hn (ha.run pins s σ H _ hn I h) fun v s1 hn1 q => ?_)
  obtain ⟨x, H1, I1, r1, q1⟩ := q
  exact thn (hr.run pos pins s1 σ H1 _ hn1 I1 q1) fun us s2 ⟨xs, H2, I2, r2, q2⟩ => ⟨x :: xs, H2, I2, .cons r1 r2, q2⟩
theorem pssn_cons (h1 : PSn n X st t) (h2 : PSsn n X rest u) : PSsn n X (st :: rest) (tSeq t u) := by
  refine ⟨fun pins s σ H D hn I h => ?_⟩
  refine wpAny_execs_cons (thnK hn (h1.run pins s σ H { D with nx := u D } hn I h) fun f s1 hn1 q => ?_)
  cases f with
  | next =>
    obtain ⟨σ', H', I', q⟩ := q
    exact h2.run pins s1 σ' H' D hn1 I' q
  | ret v => exact q
  | brk => exact q
  | cont => exact q
theorem pssn_one (h1 : PSn n X st t) : PSsn n X [st] t := by
  refine ⟨fun pins s σ H D hn I h => ?_⟩
  refine wpAny_execs_cons (thn (h1.run pins s σ H D hn I h) fun f s1 q => ?_)
  cases f with
  | next => exact wpAny_execs_nil q
  | ret v => exact q
  | brk => exact q
  | cont => exact q
theorem psn_expr (he : PEn n X e te) (hs : swapsWith e none pos.line X.env = pure false := by rfl) : PSn n X (.Expr e pos) (tDrop te) :=
  ⟨fun pins s σ H D hn I h => wpAny_Expr_any (thn (he.run pins s σ H _ hn I h) fun v s1 ⟨x, H1, I1, r1, q1⟩ => ⟨σ, H1, I1, q1⟩) I.quiet hs⟩
theorem psn_ret (he : PEn n X e te) : PSn n X (.Return (some e) pos) (tRet te) :=
  ⟨fun pins s σ H D hn I h => wpAny_Return_some (thn (he.run pins s σ H _ hn I h) fun v s1 ⟨x, H1, I1, r1, q1⟩ => ⟨x, σ, H1, I1, r1, q1⟩)⟩
theorem psn_if {c : List Stmt} (hc : PTn n X e tt) (ha : PSsn n X rest t) (hb : PSsn n X c u) : PSn n X (.If e rest c pos) (tIfS tt t u) := by
  refine ⟨fun pins s σ H D hn I h => ?_⟩
  refine wpAny_If (thnK hn (hc.run pins s σ H _ hn I h) fun d s1 hn1 ⟨H1, I1, q1⟩ => ?_)
  cases d with
  | true => exact ha.run pins s1 σ H1 D hn1 I1 q1
  | false => exact hb.run pins s1 σ H1 D hn1 I1 q1
theorem psn_set {i : Nat} {x : Str} {pos' : Pos} (hN : X.N.Nodup) (hi : X.N[i]? = some x) (hx : Loc X.env.scope x) (he : PEn n X e te) (hs : swapsWith e (some (.Name x pos')) pos.line X.env = pure false := by rfl)
    (hf : X.fn x = true ∨ X.env.scope.names.lookup x = some .local := by first | exact .inl rfl | exact .inr rfl | assumption) :
    PSn n X (.Assign [.Name x pos'] e pos) (tAsg te (gName i)) := by
  refine ⟨fun pins s σ H D hn I h => ?_⟩
  refine wpAny_Assign_Name (thn (he.run pins s σ H _ hn I h) fun v s1 ⟨y, H1, I1, r1, q1⟩ => ?_) hs
  exact store_ok I1 hN hi hx r1 (fun s2 I2 => ⟨_, H1, I2, q1⟩) hf
theorem pen_cmp {op : CmpOp} {r : R2} (ho : OpR X (compareOp op) r) (ha : PEn n X a ta) (hb : PEn n X b tb) (hm : behindInMarks op b = false) : PEn n X (.Compare a [op] [b] pos) (tOp r ta tb) := by
  refine ⟨fun pins s σ H Q hn I h => ?_⟩
  exact wpAny_Compare1 (thnK hn (ha.run pins s σ H _ hn I h) fun v s1 hn1 ⟨x, H1, I1, r1, q1⟩ =>
    thn (hb.run pins s1 σ H1 _ hn1 I1 q1) fun w s2 ⟨y, H2, I2, r2, q2⟩ => ho pins s2 σ H2 x y v w Q I2 r1 r2 q2) hm
theorem ptn_cmp {op : CmpOp} {r : R2} (ho : OpR X (compareOp op) r) (ha : PEn n X a ta) (hb : PEn n X b tb) (hm : behindInMarks op b = false) : PTn n X (.Compare a [op] [b] pos) (tTest (tOp r ta tb)) := by
  refine ⟨fun pins s σ H Q hn I h => ?_⟩
  refine wpAny_isTrue_Compare1 (thnK hn (ha.run pins s σ H _ hn I h) fun v s1 hn1 ⟨x, H1, I1, r1, q1⟩ => thn (hb.run pins s1 σ H1 _ hn1 I1 q1) fun w s2 ⟨y, H2, I2, r2, q2⟩ =>
    thn (ho pins s2 σ H2 x y v w _ I2 r1 r2 q2) fun c s3 ⟨z, H3, I3, r3, k, e, q3⟩ => ?_) hm
  subst e
  cases r3
  exact wpAny_truthy_bool ⟨H3, I3, q3⟩
end
section
variable {n : Nat} {X : Cx} {CX : CXT} {k : Nat} {f C : Addr} {fd : FuncData} {ps : List Str} {sp : Sp} {dvs : List V} {ds : List Value} {E : XK} {x m : Str} {p pos apos : Pos} {e o : Expr} {es : List Expr} {ta : TE} {t : TA}
theorem run_fnT {pins : List (Addr × Obj)} {σ : L2.St} {H : Hp} {s : Shared} {Q : VK} {us : List Value} {vs : List V} (F : FnT n X.prog X.w X.K X.mg X.base CX k f fd ps sp) (hn : n ≤ s.toks) (hr : Room k X.A) (hb : Binds X.K fd ps ds) (hd : Vals dvs ds) (hx : Passes CX X E)
    (I : Inv X pins σ H s) (r : Vals vs us) (h : sp (vs ++ dvs) H Q E) : wpAny (model X.prog X.w) X.A (call (.ref f) us) (EP X pins σ Q) X.xe s := by
  have r2 : Vals (vs ++ dvs) (us ++ ds) := r.append hd
  have hl : (us ++ ds).length = ps.length := by rw [← r2.length]; exact F.len _ _ _ _ h
  refine wpAny_call (codeAny_mono (F.run X.A X.stack s H ⟨us, []⟩ (us ++ ds) (vs ++ dvs) Q E hn hr I.env0 (hb s us I.kIn hl) r2 h) fun r s' hq => ?_)
  cases r with
  | error e => exact hx pins σ H s e s' I hq
  | ok fl =>
    cases fl with
    | ret u => exact I.after hq
    | next => exact False.elim hq
    | brk => exact False.elim hq
    | cont => exact False.elim hq
theorem pen_call (F : FnT n X.prog X.w X.K X.mg X.base CX k f fd ps sp) (hr : Room k X.A) (hg : Gl X x) (hm : X.mg x = some (.ref f)) (hk : PySem.W.keepIn X.K (.ref f) = true) (hb : Binds X.K fd ps ds) (hd : Vals dvs ds) (hx : Passes CX X E)
    (ha : PAn n X (e :: es) t) (hdb : (x == ("__debug__" : Str)) = false := by decide) (he : starEach (e :: es) X.env = (false, eval e X.env) :: starEach es X.env := by rfl) (hpl : (backTo pos (starEach es X.env)).any (·.1) = false := by rfl) :
    PEn n X (.Call (.Name x p) (e :: es) [] pos) (tCall sp dvs E t) := by
  refine ⟨fun pins s σ H Q hn I h => ?_⟩
  refine wpAny_Call_Name_kw (ld_glob I hg hm ?_ hdb)
  refine PySem.W.callWith_K (h₀ := X.base) I.ok.mod.kin hk (thnK hn (ha.run pos pins s σ H _ hn I h) fun us s1 hn1 ⟨vs, H1, I1, r, q⟩ => ⟨I1.kIn, ?_⟩) he hpl
  exact run_fnT F hn1 hr hb hd hx I1 r q
theorem pen_meth0 {pl : Sem Bool} (he : PEn n X o ta) (c : Cls X.K C) (hm : Meth X.K C m f) (F : FnOk X.prog X.w X.K X.mg X.base CX k f fd ps sp) (hr : Room k X.A) (hb : Binds X.K fd ps ds) (hd : Vals dvs ds) (hx : Passes CX X E)
    (ht : eval (.Call (.Attribute o m apos) [] [] pos) X.env = (do
      let ov ← eval o X.env
      standAt apos.atName
      let (f, first) ← holding [ov] (getMethod ov m pl)
      callWith pos f first (backTo pos (starEach [] X.env)) (backToKw pos (keywordEach [] X.env))) := by rfl) :
    PEn n X (.Call (.Attribute o m apos) [] [] pos) (tMeth C m sp dvs E ta tNil) := by
  refine ⟨fun pins s σ H Q hn I h => ?_⟩
  refine PySem.W.methodCall_KW (pl := pl) (thn (he.run pins s σ H _ hn I h) fun u s1 ⟨x, H1, I1, rx, a, dx, fs, ex, ea, l, q⟩ => ?_) ht
  subst ex
  obtain rfl : u = Value.ref a := rx
  refine getmeth_ok I1 ea c hm l ?_
  exact PySem.W.callWith_K0 (first := [.ref a]) I1.kIn hm.kp (run_fn (us := [.ref a]) (vs := [.ref a]) F hr hb hd hx I1 (.cons rfl .nil) q)
theorem pen_make (M : Mk X.K C f) (F : FnOk X.prog X.w X.K X.mg X.base CX k f fd ps sp) (hr : Room (k + 1) X.A) (hg : Gl X x) (hm : X.mg x = some (.ref C)) (hb : Binds X.K fd ps ds) (hd : Vals dvs ds) (hx : Passes CX X E)
    (ha : PAn n X (e :: es) t) (hdb : (x == ("__debug__" : Str)) = false := by decide) (he : starEach (e :: es) X.env = (false, eval e X.env) :: starEach es X.env := by rfl) (hpl : (backTo pos (starEach es X.env)).any (·.1) = false := by rfl) :
    PEn n X (.Call (.Name x p) (e :: es) [] pos) (tMake C sp dvs E t) := by
  refine ⟨fun pins s σ H Q hn I h => ?_⟩
  refine wpAny_Call_Name_kw (ld_glob I hg hm ?_ hdb)
  refine PySem.W.callWith_K (h₀ := X.base) I.ok.mod.kin M.kp (thn (ha.run pos pins s σ H _ hn I h) fun us s1 ⟨vs, H1, I1, r, q⟩ => ⟨I1.kIn, ?_⟩) he hpl
  exact run_make M F hr hb hd hx I1 r q
end
end My
set_option Elab.async false
set_option linter.all false
set_option maxRecDepth 100000
namespace My
open PySem PySem.Spec PyProof.Rows L2
section
variable {n : Nat} {P : Program} {w : World} {K : PySem.W.Frag} {mg : Str → Option Value} {base : Heap}
theorem fnT_of {CX : CXT} {x qual : Str} {st : Stmt} {f : Addr} {fd : FuncData} {N ps : List Str} {k : Nat} {sp : Sp} (F : Fun K x qual st f fd) (S : FnScope N ps (defScope st)) (len : ∀ vs H Q E, sp vs H Q E → vs.length = ps.length)
    (hbody : ∀ (cdv : Value) (A : Around) (outer : List Env) (s : Shared) (H : Hp) (vs : List V) (Q : VK) (E : XK), Room k (A.deeper (envOfC qual (defScope st) s.heap.objs.size f cdv)) → sp vs H Q E →
      ∃ t, PSsn n (cxOf CX P w K mg base N qual (defScope st) f cdv A outer s H E) (defBody st) t ∧ t { nx := fun _ H' => Q .non H', rt := Q } (start N vs) H) : FnT n P w K mg base CX (k + 1) f fd ps sp := by
  obtain ⟨oc, od, kV, doc, pm, an, cdv, ct, osl, rfl, lk, hcd⟩ := F.ex
  refine ⟨len, fun A outer s H args us vs Q E hn hr e0 hb r hsp => ?_⟩
  have KX : K.In s.heap := e0.mod.kin.keeps fun b o e => (e0.bs b o e).1
  have lim : s.heap.NoLimit := e0.mod.nolimit.keeps fun b o e => (e0.bs b o e).1
  have hkind : ∀ y ∈ ps.zip us, (defScope st).names.lookup y.1 = some .local ∨ ((defScope st).names.lookup y.1 = some .cell ∧ ((cellsFrom (s.heap.objs.size + 1) (defScope st).names []).lookup y.1).isSome = true) := by
    rintro ⟨m, v⟩ hy
    rcases S.par m (List.of_mem_zip hy).1 with q | q
    · exact .inl q
    · exact .inr ⟨q, PySem.W.cellsFrom_some _ _ _ (.inl q)⟩
  refine codeAny_call_function hr.depth (KX _ _ lk) rfl S.co S.gen rfl (PySem.W.codeRec_of KX hcd) (hb _ _ _ _ ?_)
  refine PySem.wpAny_with_toks hn (wpAny_newFunctionEnv_cells S.kind hkind fun env he s1 x hn1 => ?_)
  subst he
  refine ⟨lim.keeps x.toInCall.keep, codeAny_func ?_⟩
  obtain ⟨t, ht, hq⟩ := hbody cdv A outer s H vs Q E (hr.deeper _) hsp
  have I := inv_start (CX := CX) (E := E) S hr.hd e0 (len _ _ _ _ hsp) r x
  refine wpAny_mono (ht.run [] s1 (start N vs) H _ hn1 I hq) (fun fl s' hs => ?_) fun e s' hs => hs
  match fl, hs with
  | .ret u, ⟨v, σ', H', J, rv, q⟩ => exact ⟨v, H', J.os, J.bare, J.base, J.hok, rv, q⟩
  | .next, ⟨σ', H', J, q⟩ => exact ⟨.non, H', J.os, J.bare, J.base, J.hok, rfl, q⟩
  | .brk, ⟨_, _, _, q⟩ => exact q.elim
  | .cont, ⟨_, _, _, q⟩ => exact q.elim
theorem PSsn.nox {X : Cx} {body : List Stmt} {t : TS} (h : PSsn n X.nox body t) : PSsn n X body t :=
  ⟨fun pins s σ H D hn I q => wpAny_mono (h.run pins s σ H D hn (I.wish _) q) (fun _ _ z => z.unwish) fun _ _ z => False.elim z⟩
theorem PEn.nox {X : Cx} {e : Expr} {t : TE} (h : PEn n X.nox e t) : PEn n X e t :=
  ⟨fun pins s σ H Q hn I q => wpAny_mono (h.run pins s σ H Q hn (I.wish _) q) (fun _ _ ⟨v, H', I', r, z⟩ => ⟨v, H', I'.unwish, r, z⟩) fun _ _ z => False.elim z⟩
end
theorem ofPys_ints : ∀ ns : List Int, PySem.W.ofPys (ns.map PyData.int) = ns.map PySem.W.WData.int
  | [] => by simp [PySem.W.ofPys]
  | n :: ns => by
    rw [List.map_cons, List.map_cons]
    unfold PySem.W.ofPys
    rw [ofPys_ints ns]
    rfl
theorem ofPy_ints (ns : List Int) : PySem.W.ofPy (PyData.list (ns.map PyData.int)) = PySem.W.WData.list (ns.map PySem.W.WData.int) := by
  unfold PySem.W.ofPy
  rw [ofPys_ints]
end My
set_option Elab.async false
set_option linter.all false
set_option maxRecDepth 100000
namespace My
open PySem PySem.Spec PyProof.Rows L2
section
variable {n : Nat} {X : Cx} {tg iter : Expr} {body : List Stmt} {wi : TI} {g : TG} {tb : TS} {pos : Pos}
theorem psn_for (hp : PassesOwn (model X.prog X.w) X.A X.env X.xe) (hc : X.calm = true) (hi : PI X tg iter wi) (hg : PG X tg g) (hb : PSsn n X body tb)
    (hs : ∀ x, foldedSetIterable iter X.env x = pure x := by intro _; rfl) : PSn n X (.For tg iter body [] pos) (tFor wi g tb) := by
  refine ⟨fun pins s σ H D hn I h => ?_⟩
  refine wpAny_For (thnK hn (hi.run pins s σ H _ I h) fun v s1 hn1 h1 => thnK hn1 h1 fun itv s2 hn2 h2 => ?_) hs
  obtain ⟨it, fp, tn, J, H2, e, I2, T, st2, f2, W, ⟨m0, w0⟩, turn⟩ := h2
  subst e
  have stat : ∀ {H' : Hp}, (∀ b ∈ fp, H' b = none) → ∀ b ∈ fp, FpOk X pins H' b := fun hz b hb => ⟨hz b hb, (f2 b hb).2⟩
  refine codeAny_forLoop_any (fun k s' => n ≤ s'.toks ∧ ∃ i σ' H', Inv X pins σ' H' s' ∧ tn i s'.heap ∧ (∀ b ∈ fp, H' b = none) ∧ W i k σ' H') ?_ m0 ⟨hn2, 0, σ, H2, I2, st2, fun b hb => (f2 b hb).1, w0⟩
  rintro k s3 ⟨hn3, i, σ3, H3, I3, st3, fr3, w3⟩
  rcases turn i k σ3 H3 w3 with ⟨stop, qn⟩ | ⟨go, N, hN, step⟩
  · refine wpAny_passesOwn hp (thn (T.done X rfl rfl rfl hc i pins s3 σ3 H3 X.xe I3 (stat fr3) st3 stop) fun r s4 ⟨hr, I4⟩ => ?_)
    subst hr
    exact wpAny_execs_nil ⟨σ3, H3, I4, qn⟩
  · refine wpAny_passesOwn hp (thnK hn3 (T.item X rfl rfl rfl hc i pins s3 σ3 H3 X.xe I3 (stat fr3) st3 go) fun r s4 hn4 ⟨u, hr, h4⟩ => ?_)
    subst hr
    refine wpAny_passesOwn hp (thnK hn4 h4 fun _ s5 hn5 ⟨x, H5, I5, r5, y5, st5, fr5⟩ => ?_)
    have I5' := I5.pinned (stat fr5) (T.obj _ _ st5)
    refine wpAny_passesOwn hp (thnK hn5 (hg.run _ s5 σ3 H5 x u _ I5' r5 (step x H5 y5)) fun _ s6 hn6 ⟨σ6, H6, I6, q6⟩ => ?_)
    refine wpAny_passesOwn hp (thnK hn6 (hb.run _ s6 σ6 H6 _ hn6 I6 q6) fun f s7 hn7 q7 => ?_)
    have again : ∀ {σ7 : L2.St} {H7 : Hp}, Inv X (pins ++ pinsAt fp s5.heap) σ7 H7 s7 → N σ7 H7 → ∃ m, m < k ∧ (n ≤ s7.toks ∧ ∃ i σ' H', Inv X pins σ' H' s7 ∧ tn i s7.heap ∧ (∀ b ∈ fp, H' b = none) ∧ W i m σ' H') := fun {σ7 H7} I7 n7 => by
      obtain ⟨m', hm, w7⟩ := hN σ7 H7 n7
      refine ⟨m', hm, hn7, i + 1, σ7, H7, I7.unpinned, T.keep _ _ _ st5 fun b hb o e => (I7.pin (b, o) (List.mem_append_right _ (List.mem_append_right _ (mem_pinsAt hb e)))).1, fun b hb => ?_, w7⟩
      obtain ⟨o, e, d⟩ := T.obj _ _ st5 b hb
      exact (I7.pin (b, o) (List.mem_append_right _ (List.mem_append_right _ (mem_pinsAt hb e)))).2.1
    match f, q7 with
    | .next, ⟨σ7, H7, I7, n7⟩ => exact again I7 n7
    | .cont, ⟨σ7, H7, I7, n7⟩ => exact again I7 n7
    | .brk, ⟨σ7, H7, I7, q7⟩ => exact ⟨σ7, H7, I7.unpinned, q7⟩
    | .ret v, ⟨x7, σ7, H7, I7, r7, q7⟩ => exact ⟨x7, σ7, H7, I7.unpinned, r7, q7⟩
end
def RawAt (X : Cx) (x : Str) (u : Value) (s : Shared) : Prop := ∃ m, s.heap.Ns X.env.locals m ∧ m x = some u
section
variable {n : Nat} {X : Cx} {pins : List (Addr × Obj)} {σ : L2.St} {H : Hp} {s : Shared}
theorem raw_at {x : Str} {u : Value} {pos : Pos} {Q E : Value → Shared → Prop} (I : Inv X pins σ H s) (hk : X.env.scope.names.lookup x = some .local) (r : RawAt X x u s) (fin : Q u s) (hd : (x == ("__debug__" : Str)) = false := by decide) :
    wpAny (model X.prog X.w) X.A (eval (.Name x pos) X.env) Q E s := by
  obtain ⟨m, hn, hm⟩ := r
  exact wpAny_Name (wpAny_loadName_local I.ok.kind hk hn hm fin) hd
theorem store_raw {M : Model} {A : Around} {E : Value → Shared → Prop} {i : Nat} {x : Str} {v : V} {u : Value} {Q : Unit → Shared → Prop} (I : Inv X pins σ H s) (hN : X.N.Nodup) (hi : X.N[i]? = some x) (hk : X.env.scope.names.lookup x = some .local) (r : RelV v u)
    (h : ∀ s', Inv X pins (σ.set i (some v)) H s' → RawAt X x u s' → Q () s') : wpAny M A (storeName X.env x u) Q E s := by
  obtain ⟨m, hn, hl⟩ := id I.loc
  have cne := I.cne
  have old : ∀ {b : Addr} {o : Obj}, X.s_0.heap.get? b = some o → b ≠ X.env.locals := fun e => Nat.ne_of_lt (Nat.lt_of_lt_of_le (Heap.lt_size e) I.ok.above)
  refine wpAny_storeName_local hk hn (fun h' hn' hs => ?_) (by rw [I.ok.kind]; rfl)
  refine h _ { ok := I.ok, os := I.os, bare := I.bare, base := ?_, loc := ⟨_, hn', ?_⟩, cell := ?_, free := I.free, freeC := I.freeC, pin := ?_, hok := ?_, len := by simpa using I.len } ⟨_, hn', by simp⟩
  · refine ⟨fun b o e z hb hx => (hs.2 b (old e)).trans (I.base.keep b o e z hb hx), fun b o e z hb hx => ?_, I.base.free, fun b o e hx => ?_, I.base.tups, I.base.frzs, I.base.tbls⟩
    · obtain ⟨sl, e1⟩ := I.base.slot b o e z hb hx
      exact ⟨sl, (hs.2 b (old e)).trans e1⟩
    · obtain ⟨o', e1⟩ := I.base.there b o e hx
      exact ⟨o', (hs.2 b (old e)).trans e1⟩
  · intro j y v' e1 e2 e3
    by_cases hj : j = i
    · subst hj
      rw [hi] at e1; cases e1
      rw [List.getElem?_set_self (by rw [I.len]; exact (List.getElem?_eq_some_iff.mp hi).1)] at e2
      cases e2
      exact ⟨u, r, .inl ⟨hk, by simp⟩⟩
    · rw [List.getElem?_set_ne (Ne.symm hj)] at e2
      obtain ⟨u', r', q⟩ := hl j y v' e1 e2 e3
      refine ⟨u', r', q.elim (fun z => .inl ⟨z.1, ?_⟩) fun z => .inr ?_⟩
      · have : y ≠ x := fun e => hj (nodup_ix hN e1 (e ▸ hi))
        simp [this, z.2]
      · obtain ⟨k, c, e, z⟩ := z
        exact ⟨k, c, e, z.sameBut hs (cne y c e)⟩
  · intro y c e
    obtain ⟨w', z⟩ := I.cell y c e
    exact ⟨w', z.sameBut hs (cne y c e)⟩
  · intro p hp
    obtain ⟨e, z, ne, nf, d⟩ := I.pin p hp
    exact ⟨(hs.2 p.1 ne).trans e, z, ne, nf, d⟩
  · intro b ob e
    refine (I.hok b ob e).stay (fun c w' hc q => (hs.2 c ?_).trans q) (fun _ q => q) fun _ _ q => q
    rintro rfl
    rcases hc with rfl | hc
    · rw [I.free] at e; cases e
    · rw [I.free] at hc; cases hc
end
def tForK (i : Nat) (vs : List V) (tb : V → TS) : TS := fun D σ H => ∃ W : Nat → L2.St → Hp → Prop, W 0 σ H ∧
  (∀ j v σ' H', vs[j]? = some v → W j σ' H' → tb v { D with nx := W (j + 1), ct := W (j + 1), bk := D.nx } (σ'.set i (some v)) H') ∧ ∀ σ' H', W vs.length σ' H' → D.nx σ' H'
theorem psn_forK {n : Nat} {X : Cx} {x : Str} {iter : Expr} {body : List Stmt} {tb : V → TS} {p pos : Pos} {i m : Nat} {r : Addr} {d : Option Addr} {its : Array Value} {sl : Array (Option Value)} {vs : List V}
    (hp : PassesOwn (model X.prog X.w) X.A X.env X.xe) (hc : X.calm = true) (hN : X.N.Nodup) (hi : X.N[i]? = some x) (hk : X.env.scope.names.lookup x = some .local)
    (hit : PE X iter (tC (.ref r))) (hr : X.K.lookup r = some ⟨.type "tuple", d, .seq its m, sl⟩) (hv : Vals vs its.toList)
    (hb : ∀ (j : Nat) (v : V) (u : Value), vs[j]? = some v → its[j]? = some u → ∀ (pins : List (Addr × Obj)) (s : Shared) (σ : L2.St) (H : Hp) (D : Ends), n ≤ s.toks → Inv X pins σ H s → RawAt X x u s → tb v D σ H → wpAny (model X.prog X.w) X.A (execs body X.env) (SP X pins D) X.xe s)
    (hs : ∀ z, foldedSetIterable iter X.env z = pure z := by intro _; rfl) : PSn n X (.For (.Name x p) iter body [] pos) (tForK i vs tb) := by
  refine ⟨fun pins s σ H D hn I h => ?_⟩
  obtain ⟨W, w0, step, fin⟩ := h
  refine wpAny_For (thnK hn (hit.run pins s σ H (fun y H1 => y = .ref r ∧ H1 = H) I ⟨rfl, rfl⟩) fun v s1 hn1 h1 => ?_) hs
  obtain ⟨y, H1, I1, r1, rfl, rfl⟩ := h1
  cases r1
  have isT : s1.heap.IsTuple r its := ⟨_, I1.kIn r _ hr, rfl, _, rfl⟩
  have f2 := I1.fpOk (H' := H1) (Nat.le_refl _) (I1.hok.fresh (Nat.le_refl _))
  have I2 : Inv X pins σ H1 { s1 with heap := s1.heap.push ({ cls := .type "tuple_iterator", data := .fields #[.ref r, .int 0 0] } : Obj), toks := s1.toks } := I1.kept (t' := s1.toks) fun b o e => Heap.get?_push_of_some _ e
  refine wpAny_pyIter_tuple isT ?_
  have len : vs.length = its.size := by rw [hv.length, Array.length_toList]
  generalize eit : s1.heap.objs.size = it at f2
  have stat : ∀ {H' : Hp}, H' it = none → FpOk X pins H' it := fun z => ⟨z, f2.2⟩
  refine codeAny_forLoop_any (fun k s' => n ≤ s'.toks ∧ ∃ j σ' H', k + j = vs.length ∧ Inv X pins σ' H' s' ∧ s'.heap.IsTupleIter it r j ∧ H' it = none ∧ W j σ' H') ?_ vs.length
    ⟨hn1, 0, σ, H1, rfl, I2, ⟨_, by rw [← eit]; exact Heap.get?_push_size _ rfl, rfl, rfl⟩, f2.1, w0⟩
  rintro k s3 ⟨hn3, j, σ3, H3, hkj, I3, st3, fr3, w3⟩
  have isT3 : s3.heap.IsTuple r its := ⟨_, I3.kIn r _ hr, rfl, _, rfl⟩
  obtain ⟨f0, f1, fz, f3, f4, f5⟩ := stat fr3
  cases k with
  | zero =>
    have hj : j = vs.length := by omega
    refine wpAny_passesOwn hp (wpAny_pyNext_tuple_end (I3.ok.hd hc) st3 isT3 (by rw [hj, len]; simp) fun h' eb => ?_)
    have I4 : Inv X pins σ3 H3 { s3 with heap := h' } := I3.turned (t' := s3.toks) (fun b o hb e => eb b o hb e) f0 f1 f3 f4 f5
    exact wpAny_execs_nil ⟨σ3, H3, I4, fin σ3 H3 (hj ▸ w3)⟩
  | succ k =>
    obtain ⟨v, ev⟩ : ∃ v, vs[j]? = some v := ⟨vs[j]'(by omega), List.getElem?_eq_getElem _⟩
    obtain ⟨u, eu, ru⟩ := hv.get ev
    have eu : its[j]? = some u := by simpa using eu
    refine wpAny_passesOwn hp (wpAny_pyNext_tuple_item st3 isT3 eu fun h' st' sb => ?_)
    have I4 : Inv X pins σ3 H3 { s3 with heap := h' } := I3.turned (t' := s3.toks) (fun b o hb e => (sb.2 b hb).trans e) f0 f1 f3 f4 f5
    obtain ⟨oi, ei, ci, di⟩ := id st'
    refine wpAny_passesOwn hp (go_of (s := { s3 with heap := h' }) ei ci di (by decide) ?_)
    have I5 := I4.pinned (fp := [it]) (fun b hb => by obtain rfl := List.mem_singleton.mp hb; exact stat fr3) (fun b hb => by obtain rfl := List.mem_singleton.mp hb; exact ⟨oi, ei, fun v z => by rw [di] at z; cases z⟩)
    refine wpAny_passesOwn hp (wpAny_assign_Name (PySem.wpAny_with_toks (n := n) hn3 (store_raw I5 hN hi hk ru fun s6 I6 ra hn6 => ?_)))
    refine wpAny_passesOwn hp (thnK hn6 (hb j v u ev eu _ s6 _ H3 _ hn6 I6 ra (step j v σ3 H3 ev w3)) fun f s7 hn7 q7 => ?_)
    have again : ∀ {σ7 : L2.St} {H7 : Hp}, Inv X (pins ++ pinsAt [it] h') σ7 H7 s7 → W (j + 1) σ7 H7 → ∃ m, m < k + 1 ∧ (n ≤ s7.toks ∧ ∃ j σ' H', m + j = vs.length ∧ Inv X pins σ' H' s7 ∧ s7.heap.IsTupleIter it r j ∧ H' it = none ∧ W j σ' H') := fun {σ7 H7} I7 w7 => by
      have pin := I7.pin (it, oi) (List.mem_append_right _ (List.mem_append_right _ (mem_pinsAt (List.mem_singleton.mpr rfl) ei)))
      exact ⟨k, Nat.lt_succ_self k, hn7, j + 1, σ7, H7, by omega, I7.unpinned, ⟨oi, pin.1, ci, di⟩, pin.2.1, w7⟩
    match f, q7 with
    | .next, ⟨σ7, H7, I7, n7⟩ => exact again I7 n7
    | .cont, ⟨σ7, H7, I7, n7⟩ => exact again I7 n7
    | .brk, ⟨σ7, H7, I7, q7⟩ => exact ⟨σ7, H7, I7.unpinned, q7⟩
    | .ret v, ⟨x7, σ7, H7, I7, r7, q7⟩ => exact ⟨x7, σ7, H7, I7.unpinned, r7, q7⟩
section
variable {n : Nat} {X : Cx} {o : Expr} {to : TE}
def tRepL (y z : Str) (to : TE) : TE := fun σ H Q => to σ H fun v H1 => ∃ x, v = .str x ∧ x.length + (x.length + 1) * z.length ≤ 16777216 ∧ Q (.str (Txt.replace x y z)) H1
theorem pen_replL {y z : Str} {j0 j1 : Nat} {c0 c1 apos pos : Pos} (he : PE X o to) (hyz : (y == z) = false := by decide)
    (hst : starEach [.Constant (.str y) j0 c0, .Constant (.str z) j1 c1] X.env = [(false, eval (.Constant (.str y) j0 c0) X.env), (false, eval (.Constant (.str z) j1 c1) X.env)] := by rfl)
    (hbase : attributeBase o "replace" X.env (eval o X.env) = eval o X.env := by rfl) (hline : (apos.endLine == pos.line) = true := by rfl) :
    PEn 1 X (.Call (.Attribute o "replace" apos) [.Constant (.str y) j0 c0, .Constant (.str z) j1 c1] [] pos) (tRepL y z to) := by
  refine ⟨fun pins s σ H Q hn I h => ?_⟩
  refine PySem.Call_method2 hbase hst hline (thnK hn (he.run pins s σ H _ I h) fun v s1 hn1 h1 => ?_)
  obtain ⟨vx, H1, I1, r1, x, rfl, hb, q⟩ := h1
  obtain ⟨tx, rfl⟩ := r1
  refine ⟨"str", _, F.plainAttrs_str, F.slot_str_replace, F.type_str_replace, typeIs_str _ _ _, (fun _ e => nomatch e), Calls.callWith_builtin rfl (Calls.evalArgs_plain (Calls.spliced_cons (Calls.Constant_str (Calls.spliced_cons (Calls.Constant_str (Calls.spliced_nil ?_))))))⟩
  exact PySem.SC.replace (show s1.toks ≠ 0 by omega) (show s1.toks + 1 ≠ 0 by omega) (show s1.toks ≠ s1.toks + 1 by omega) hyz hb fun t' k => ⟨.str (Txt.replace x y z), H1, I1.tok k, ⟨t', rfl⟩, q⟩
theorem joined_raw {v1 v2 : Expr} {rest : List Expr} {ts : List TE} {pos : Pos} (h : PJ X (v1 :: v2 :: rest) ts) {pins : List (Addr × Obj)} {s : Shared} {σ : L2.St} {H : Hp} {Q : Str → Hp → Prop} (hn : n ≤ s.toks) (I : Inv X pins σ H s) (q : tJs ts Str.empty σ H Q) :
    wpAny (model X.prog X.w) X.A (eval (.JoinedStr (v1 :: v2 :: rest) pos) X.env) (fun v s' => ∃ z t H1, v = .str z t ∧ n ≤ t + 1 ∧ Inv X pins σ H1 s' ∧ Q z H1) X.xe s := by
  have w : wpAny (model X.prog X.w) X.A (eval (.JoinedStr (v1 :: v2 :: rest) pos) X.env) (fun v s' => ∃ z t H1, v = .str z t ∧ s'.toks = t + 1 ∧ Inv X pins σ H1 s' ∧ Q z H1) X.xe s :=
    wpAny_JoinedStr (pj_run h Str.empty s H Q _ (Nat.zero_le _) I q fun out s1 H1 hz I1 q1 => ⟨hz, out, s1.toks, H1, rfl, rfl, I1.tok _, q1⟩)
  exact thnK hn w fun v s' hk ⟨z, t, H1, e, et, I1, q1⟩ => ⟨z, t, H1, e, by omega, I1, q1⟩
def tRepS (i : Nat) (y : Str) (ts : List TE) : TE := fun σ H Q => ∃ x, σ[i]? = some (some (.str x)) ∧ tJs ts Str.empty σ H fun z H1 => (y == z) = false ∧ x.length + (x.length + 1) * z.length ≤ 16777216 ∧ Q (.str (Txt.replace x y z)) H1
theorem replS {i : Nat} {kx kt : Str} {y : Str} {t : Tok} {v1 v2 : Expr} {rest : List Expr} {ts : List TE} {p1 p2 fpos apos pos : Pos} {pins : List (Addr × Obj)} {s : Shared} {σ : L2.St} {H : Hp} {Q : VK}
    (hNt : X.N[i]? = some kt) (hvt : Vis X.env.scope kt) (hk : X.env.scope.names.lookup kx = some .local) (hj : PJ X (v1 :: v2 :: rest) ts) (hn : n ≤ s.toks) (I : Inv X pins σ H s) (ra : RawAt X kx (.str y t) s) (ht : t ≠ 0) (htn : t + 1 < n) (h : tRepS i y ts σ H Q)
    (hd : (kx == ("__debug__" : Str)) = false := by decide) (hdt : (kt == ("__debug__" : Str)) = false := by decide) (hct : (kt == ("__classdict__" : Str)) = false := by decide)
    (hst : starEach [.Name kx p2, .JoinedStr (v1 :: v2 :: rest) fpos] X.env = [(false, eval (.Name kx p2) X.env), (false, eval (.JoinedStr (v1 :: v2 :: rest) fpos) X.env)] := by rfl)
    (hbase : attributeBase (.Name kt p1) "replace" X.env (eval (.Name kt p1) X.env) = eval (.Name kt p1) X.env := by rfl) (hline : (apos.endLine == pos.line) = true := by rfl) :
    wpAny (model X.prog X.w) X.A (eval (.Call (.Attribute (.Name kt p1) "replace" apos) [.Name kx p2, .JoinedStr (v1 :: v2 :: rest) fpos] [] pos) X.env) (EP X pins σ Q) X.xe s := by
  obtain ⟨x, hx, q⟩ := h
  refine PySem.Call_method2 hbase hst hline (raw_name hNt hvt I hx (fun v r => ?_) hdt hct)
  obtain ⟨tx, rfl⟩ := r
  refine ⟨"str", _, F.plainAttrs_str, F.slot_str_replace, F.type_str_replace, typeIs_str _ _ _, (fun _ e => nomatch e), Calls.callWith_builtin rfl (Calls.evalArgs_plain (Calls.spliced_cons (raw_at I hk ra ?_ hd)))⟩
  refine Calls.spliced_cons (thn (joined_raw (pos := fpos) hj hn I q) fun v s2 hh => ?_)
  obtain ⟨z, t', H1, rfl, hk', I1, hyz, hb, q1⟩ := hh
  refine Calls.spliced_nil (PySem.SC.replace ht (fun e => Nat.not_lt_zero t (Nat.lt_of_succ_lt_succ (Nat.lt_of_lt_of_le htn (show n ≤ 0 + 1 from e ▸ hk')))) (fun e => Nat.lt_irrefl _ (Nat.lt_of_lt_of_le htn (show n ≤ t + 1 by rw [e]; exact hk'))) hyz hb fun t2 k => ⟨.str (Txt.replace x y z), H1, I1.tok k, ⟨t2, rfl⟩, q1⟩)
end
end My
set_option Elab.async false
set_option linter.all false
set_option maxRecDepth 100000
namespace My
open PySem PySem.Spec PyProof.Rows L2
theorem replace_len3 (x y z : Str) (hy1 : y.length = 1) (hz : z.length = 3) : (Txt.replace x y z).length ≤ 3 * x.length := by
  unfold Txt.replace
  split
  · omega
  · have hy : (Builtin.Str.glued y (Builtin.Str.partsBetween x (Builtin.Str.occurrences x y 0 x.length (x.length + 1)) y.length)).length = x.length := by rw [StrLaws.glued_between_self]
    rw [size_glued, length_partsBetween, Nat.add_sub_cancel] at hy
    rw [size_glued, length_partsBetween, Nat.add_sub_cancel, hz]
    rw [hy1] at hy ⊢
    omega
def spacedBy (signs : List Str) (x : Str) : Str := signs.foldl (fun x y => Txt.replace x y (Str.empty ++ " " ++ y ++ " ")) x
def signsOf : List Str := ["|", "^", "&", "-", "@", "(", ")", ","]
theorem spaced_len : ∀ (signs : List Str) (x : Str), (∀ y ∈ signs, y.length = 1) → (spacedBy signs x).length ≤ 3 ^ signs.length * x.length
  | [], x, _ => by show x.length ≤ 1 * x.length; omega
  | y :: signs, x, h => by
    have a := spaced_len signs (Txt.replace x y (Str.empty ++ " " ++ y ++ " ")) fun z hz => h z (List.mem_cons_of_mem _ hz)
    have hy := h y List.mem_cons_self
    have b := replace_len3 x y (Str.empty ++ " " ++ y ++ " ") hy (by rw [Str.length_append, Str.length_append, Str.length_append, hy]; rfl)
    show (spacedBy signs (Txt.replace x y (Str.empty ++ " " ++ y ++ " "))).length ≤ 3 ^ (signs.length + 1) * x.length
    rw [Nat.pow_succ, Nat.mul_assoc]
    exact Nat.le_trans a (Nat.mul_le_mul_left _ b)
theorem spaced_snoc (signs : List Str) (y x : Str) : spacedBy (signs ++ [y]) x = Txt.replace (spacedBy signs x) y (Str.empty ++ " " ++ y ++ " ") := by
  unfold spacedBy
  rw [List.foldl_append]
  rfl
def tokensOf (x : Str) : List Str := (Txt.split (spacedBy signsOf x) " ").filter fun t => ((t.length : Int) != 0)
def spSplit : Sp := fun vs H Q _ => ∃ x : Str, vs = [.str x] ∧ x.length ≤ 1900 ∧ ∀ p H', Same H H' → H p = none → H' p = some (.lst ((tokensOf x).map V.str)) → Q (.ref p) H'
section
variable {n : Nat} {X : Cx}
theorem replS_asg {i : Nat} {kx kt : Str} {y : Str} {t : Tok} {v1 v2 : Expr} {rest : List Expr} {ts : List TE} {p1 p2 p0 fpos apos pos pos' : Pos} {pins : List (Addr × Obj)} {s : Shared} {σ : L2.St} {H : Hp} {D : Ends}
    (hN : X.N.Nodup) (hNt : X.N[i]? = some kt) (hvt : Loc X.env.scope kt) (hk : X.env.scope.names.lookup kx = some .local) (hj : PJ X (v1 :: v2 :: rest) ts) (hn : n ≤ s.toks) (I : Inv X pins σ H s) (ra : RawAt X kx (.str y t) s) (ht : t ≠ 0) (htn : t + 1 < n)
    (h : tRepS i y ts σ H fun z H1 => D.nx (σ.set i (some z)) H1)
    (hd : (kx == ("__debug__" : Str)) = false := by decide) (hdt : (kt == ("__debug__" : Str)) = false := by decide) (hct : (kt == ("__classdict__" : Str)) = false := by decide)
    (hst : starEach [.Name kx p2, .JoinedStr (v1 :: v2 :: rest) fpos] X.env = [(false, eval (.Name kx p2) X.env), (false, eval (.JoinedStr (v1 :: v2 :: rest) fpos) X.env)] := by rfl)
    (hbase : attributeBase (.Name kt p1) "replace" X.env (eval (.Name kt p1) X.env) = eval (.Name kt p1) X.env := by rfl) (hline : (apos.endLine == pos.line) = true := by rfl)
    (hs : swapsWith (.Call (.Attribute (.Name kt p1) "replace" apos) [.Name kx p2, .JoinedStr (v1 :: v2 :: rest) fpos] [] pos) (some (.Name kt p0)) pos'.line X.env = pure false := by rfl)
    (hf : X.fn kt = true ∨ X.env.scope.names.lookup kt = some .local := by first | exact .inl rfl | exact .inr rfl | assumption) :
    wpAny (model X.prog X.w) X.A (execs [.Assign [.Name kt p0] (.Call (.Attribute (.Name kt p1) "replace" apos) [.Name kx p2, .JoinedStr (v1 :: v2 :: rest) fpos] [] pos) pos'] X.env) (SP X pins D) X.xe s := by
  refine wpAny_execs_cons (wpAny_Assign_Name (thn (replS hNt (hvt.elim .inl fun z => .inr (.inl z)) hk hj hn I ra ht htn h hd hdt hct hst hbase hline) fun v s1 hh => ?_) hs)
  obtain ⟨z, H1, I1, r1, q1⟩ := hh
  exact store_ok I1 hN hNt hvt r1 (fun s2 I2 => wpAny_execs_nil ⟨_, H1, I2, q1⟩) hf
end
theorem tokens_ne {x t : Str} (h : t ∈ tokensOf x) : t ≠ "" := fun e => by
  subst e
  have := (List.mem_filter.mp h).2
  revert this
  decide
def tWord (i : Nat) : TT := fun σ H Q => ∃ y : Str, σ[i]? = some (some (.str y)) ∧ y.length ≤ sizeLine ∧ Q ((y.length : Int) != 0) H
theorem pts_word {X : Cx} {i : Nat} {x : Str} {p : Pos} (hN : X.N[i]? = some x) (hv : Vis X.env.scope x) (hd : (x == ("__debug__" : Str)) = false := by decide) (hcd : (x == ("__classdict__" : Str)) = false := by decide) : PTs X [.Name x p] (tWord i) := by
  refine pts_one ⟨fun pins s σ H Q I h => ?_⟩
  obtain ⟨y, hy, hz, q⟩ := h
  exact (pt_truth (pe_var (pos := p) hN hv hd hcd) (fun _ => rfl)).run pins s σ H Q I ⟨.str y, hy, _, ⟨hz, rfl⟩, q⟩
theorem lc_big {α : Type} {J : It} {n : Nat} {G : Hp → Prop} {Y : Nat → Hp → V → Hp → Prop} (w : Walk J n G Y) {g : TG} {tt : TT} {te : TE} {vs : List Nat} {σ : L2.St} {H1 : Hp} {D : Addr} {Qd : Hp → Prop}
    (as : List α) (F : α → Option V) (hn : as.length = n) (hsz : n < sizeLine) (hD : H1 D = none) (hG : ∀ H2, Same H1 H2 → G H2)
    (hs : ∀ (i : Nat) (a : α) (x : V) (H H' : Hp) (R : Option V → Hp → Prop), as[i]? = some a → Same H1 H → Y i H x H' → (∀ H2, Same H H2 → R (F a) H2) →
      g x (wipe σ vs) H' fun σ2 H2 => wipe σ2 vs = wipe σ vs ∧ tt σ2 H2 fun b H3 => if b = true then te σ2 H3 fun y H4 => R (some y) H4 else R none H3)
    (hd : ∀ H2, Same H1 H2 → H2 D = some (.lst (as.filterMap F)) → Qd H2) :
    ∃ W : Nat → Nat → Hp → Prop, (∃ m, W 0 m (upd H1 D (.lst []))) ∧ ∀ i m H, W i m H →
      (J.stop i H ∧ Qd H) ∨ (J.go i H ∧ ∃ Nx : Hp → Prop, (∀ H', Nx H' → ∃ m', m' < m ∧ W (i + 1) m' H') ∧ ∀ x H', J.yld i H x H' → g x (wipe σ vs) H' fun σ2 H2 => wipe σ2 vs = wipe σ vs ∧ tt σ2 H2 fun b H3 =>
        if b = true then te σ2 H3 fun y H4 => ∃ acc, H4 D = some (.lst acc) ∧ acc.length < sizeLine ∧ Nx (upd H4 D (.lst (acc ++ [y]))) else Nx H3) := by
  refine lc_it w (fun i H => Same H1 H ∧ H D = some (.lst ((as.take i).filterMap F))) ⟨same_new hD, upd_same⟩ (fun i H _ p => hG H p.1) ?_
    (fun H p => hd H p.1 (by rw [p.2, ← hn, List.take_length]))
  intro i x H H' hi p y
  obtain ⟨s, hd'⟩ := p
  have hlt : i < as.length := by omega
  have ha : as[i]? = some as[i] := List.getElem?_eq_getElem hlt
  have et : (as.take (i + 1)).filterMap F = (as.take i).filterMap F ++ (F as[i]).toList := by
    rw [List.take_add_one, ha, List.filterMap_append]
    cases q : F as[i] with
    | none => simp [q]
    | some z => simp [q]
  refine hs i as[i] x H H' (fun o H4 => match o with
    | some y => ∃ acc, H4 D = some (.lst acc) ∧ acc.length < sizeLine ∧ (Same H1 (upd H4 D (.lst (acc ++ [y]))) ∧ upd H4 D (.lst (acc ++ [y])) D = some (.lst ((as.take (i + 1)).filterMap F)))
    | none => Same H1 H4 ∧ H4 D = some (.lst ((as.take (i + 1)).filterMap F))) ha s y ?_
  intro H2 s2
  cases q : F as[i] with
  | none =>
    refine ⟨s.trans s2, ?_⟩
    rw [et, q]
    simpa using s2 _ _ hd'
  | some z =>
    refine ⟨_, s2 _ _ hd', ?_, fun b o e => (upd_ne (ne_of_none e hD)).trans ((s.trans s2) b o e), ?_⟩
    · refine Nat.lt_of_le_of_lt (Nat.le_trans (List.length_filterMap_le _ _) ?_) hsz
      rw [List.length_take]
      omega
    · rw [upd_same, et, q]
      rfl
theorem spaced_fit {x : Str} (hx : x.length ≤ 1900) (j : Nat) (hj : j ≤ 8) : (spacedBy (signsOf.take j) x).length ≤ 3 ^ j * 1900 := by
  have a := spaced_len (signsOf.take j) x fun y hy => by
    have : ∀ y ∈ signsOf, y.length = 1 := by decide
    exact this y (List.mem_of_mem_take hy)
  have e : (signsOf.take j).length = j := by rw [List.length_take]; exact Nat.min_eq_left hj
  rw [e] at a
  exact Nat.le_trans a (Nat.mul_le_mul_left _ hx)
theorem spaced_step {x y : Str} {j : Nat} (e : signsOf[j]? = some y) : spacedBy (signsOf.take (j + 1)) x = Txt.replace (spacedBy (signsOf.take j) x) y (Str.empty ++ " " ++ y ++ " ") := by
  rw [List.take_add_one, e]
  exact spaced_snoc _ _ _
theorem pow3 {j : Nat} (h : j ≤ 7) : 3 ^ j ≤ 2187 := Nat.pow_le_pow_right (by decide : 0 < 3) h
theorem tokens_fm (x : Str) : (Txt.split (spacedBy signsOf x) " ").filterMap (fun t => if ((t.length : Int) != 0) = true then some (V.str t) else none) = (tokensOf x).map V.str := by
  unfold tokensOf
  generalize Txt.split (spacedBy signsOf x) " " = l
  induction l with
  | nil => rfl
  | cons t l ih =>
    rw [List.filterMap_cons, List.filter_cons, ih]
    by_cases e : ((t.length : Int) != 0) = true
    · rw [if_pos e, if_pos e]; rfl
    · rw [if_neg e, if_neg e]
end My
set_option Elab.async false
set_option linter.all false
set_option maxRecDepth 100000
namespace My
open PySem PySem.Spec PyProof.Rows L2
structure PWn (n : Nat) (X : Cx) (e : Expr) (t : TT) : Prop where
  run : ∀ (whole : Sem Value) (pins : List (Addr × Obj)) (s : Shared) (σ : L2.St) (H : Hp) (Q : Bool → Hp → Prop), n ≤ s.toks → Inv X pins σ H s → t σ H Q → wpAny (model X.prog X.w) X.A (isTrue e X.env whole) (TP X pins σ Q) X.xe s
section
variable {n m : Nat} {X : Cx} {a b e : Expr} {rest es : List Expr} {tA tB' : TT} {te : TE} {ta : TA} {pos p : Pos}
theorem PWn.pt (h : PWn n X e tA) : PTn n X e tA := ⟨h.run _⟩
theorem PEn.le (h : PEn n X e te) (l : n ≤ m) : PEn m X e te := ⟨fun pins s σ H Q hm => h.run pins s σ H Q (Nat.le_trans l hm)⟩
theorem FnT.le {P : Program} {w : World} {K : PySem.W.Frag} {mg : Str → Option Value} {base : Heap} {CX : CXT} {k : Nat} {f : Addr} {fd : FuncData} {ps : List Str} {sp : Sp} (F : FnT n P w K mg base CX k f fd ps sp) (l : n ≤ m) : FnT m P w K mg base CX k f fd ps sp :=
  ⟨F.len, fun A outer s H args us vs Q E hm => F.run A outer s H args us vs Q E (Nat.le_trans l hm)⟩
theorem FnT.mono {P : Program} {w : World} {K : PySem.W.Frag} {mg : Str → Option Value} {base : Heap} {CX : CXT} {j k : Nat} {f : Addr} {fd : FuncData} {ps : List Str} {sp : Sp} (F : FnT n P w K mg base CX j f fd ps sp) (h : j ≤ k) : FnT n P w K mg base CX k f fd ps sp :=
  ⟨F.len, fun A outer s H args us vs Q E hn hr => F.run A outer s H args us vs Q E hn (hr.mono h)⟩
theorem pwn_or1 (ha : PTn n X a tA) : PWn n X (.BoolOp .Or [a] pos) tA := by
  refine ⟨fun wh pins s σ H Q hn I h => isTrue_or (thn (ha.run pins s σ H Q hn I h) fun c s1 e => ?_)⟩
  cases c with
  | false => exact isTrue_or_nil e
  | true => exact e
theorem pwn_or (ha : PTn n X a tA) (hb : PWn n X (.BoolOp .Or (b :: rest) pos) tB') : PWn n X (.BoolOp .Or (a :: b :: rest) pos) (tOr tA tB') := by
  refine ⟨fun wh pins s σ H Q hn I h => isTrue_or (thnK hn (ha.run pins s σ H _ hn I h) fun c s1 hn1 hh => ?_)⟩
  obtain ⟨H1, I1, q1⟩ := hh
  cases c with
  | true => exact ⟨H1, I1, q1⟩
  | false => exact hb.run wh pins s1 σ H1 Q hn1 I1 q1
theorem ptn_val (h : PEn n X e te) (he : ∀ whole, isTrue e X.env whole = (do let v ← whole; standAt e.pos; holding [v] (truthy v)) := by intro _; rfl) : PTn n X e (tB te) := by
  refine ⟨fun pins s σ H Q hn I hw => isTrue_plain (thn (h.run pins s σ H _ hn I hw) fun v s1 hh => ?_) (he _)⟩
  obtain ⟨x, H1, I1, r1, d, rfl, q⟩ := hh
  cases r1
  exact wpAny_truthy_bool ⟨H1, I1, q⟩
theorem pen_callB {id : String} {x : Str} {r : List V → Hp → VK → Prop} (hc : CallR X (.builtin id) r) (hg : Gl X x) (hm : X.mg x = none) (hv : bootBuiltins x = some (.builtin id)) (ha : PAn n X (e :: es) ta) (hx : x ≠ "__name__" := by decide) (hdb : (x == ("__debug__" : Str)) = false := by decide)
    (he : starEach (e :: es) X.env = (false, eval e X.env) :: starEach es X.env := by rfl) (hpl : (backTo pos (starEach es X.env)).any (·.1) = false := by rfl) : PEn n X (.Call (.Name x p) (e :: es) [] pos) (tCB r ta) := by
  refine ⟨fun pins s σ H Q hn I h => wpAny_Call_Name_kw (ld_blt I hg hm hv ?_ hx hdb)⟩
  refine PyProof.Rows.callWith_builtin1 (thn (ha.run pos pins s σ H _ hn I h) fun us s1 hh => ?_) he hpl
  obtain ⟨vs, H1, I1, r1, q1⟩ := hh
  exact hc pins s1 σ H1 vs us Q I1 r1 q1
end
def FnTb (n : Nat) (P : Program) (w : World) (K : PySem.W.Frag) (mg : Str → Option Value) (base : Heap) (CX : CXT) (k : Nat) (x : Str) (ps : List Str) (sp : Sp) : Prop :=
  ∃ f fd, mg x = some (.ref f) ∧ FnT n P w K mg base CX k f fd ps sp ∧ PySem.W.keepIn K (.ref f) = true ∧ Binds K fd ps []
def Mk1 (P : Program) (w : World) (K : PySem.W.Frag) (mg : Str → Option Value) (base : Heap) (C : Addr) (k : Nat) (ps : List Str) (sp : Sp) : Prop :=
  ∃ f fd, Mk K C f ∧ FnOk P w K mg base CX0 k f fd ps sp ∧ Binds K fd ps []
section
variable {n : Nat} {X : Cx} {CX : CXT} {k : Nat} {C : Addr} {ps : List Str} {sp : Sp} {E : XK} {x m : Str} {p pos apos : Pos} {e o : Expr} {es : List Expr} {ta : TE} {t : TA}
theorem pen_fn (D : FnTb n X.prog X.w X.K X.mg X.base CX k x ps sp) (hr : Room k X.A) (hg : Gl X x) (hx : Passes CX X E) (ha : PAn n X (e :: es) t)
    (hdb : (x == ("__debug__" : Str)) = false := by decide) (he : starEach (e :: es) X.env = (false, eval e X.env) :: starEach es X.env := by rfl) (hpl : (backTo pos (starEach es X.env)).any (·.1) = false := by rfl) :
    PEn n X (.Call (.Name x p) (e :: es) [] pos) (tCall sp [] E t) := by
  obtain ⟨f, fd, hm, F, kp, b⟩ := D
  exact pen_call F hr hg hm kp b .nil hx ha hdb he hpl
theorem pen_mk1 (D : Mk1 X.prog X.w X.K X.mg X.base C k ps sp) (hr : Room (k + 1) X.A) (hg : Gl X x) (hm : X.mg x = some (.ref C)) (ha : PAn n X (e :: es) t)
    (hdb : (x == ("__debug__" : Str)) = false := by decide) (he : starEach (e :: es) X.env = (false, eval e X.env) :: starEach es X.env := by rfl) (hpl : (backTo pos (starEach es X.env)).any (·.1) = false := by rfl) :
    PEn n X (.Call (.Name x p) (e :: es) [] pos) (tMake C sp [] E0 t) := by
  obtain ⟨f, fd, M, F, b⟩ := D
  exact pen_make (ds := []) M F hr hg hm b .nil pass0 ha hdb he hpl
theorem pen_mtX0 {pl : Sem Bool} (D : MtX X.prog X.w X.K X.mg X.base C m k ps sp) (hr : Room k X.A) (c : Cls X.K C) (hx : Passes (L2.CX X.prog X.w) X E) (he : PEn n X o ta)
    (ht : eval (.Call (.Attribute o m apos) [] [] pos) X.env = (do
      let ov ← eval o X.env
      standAt apos.atName
      let (f, first) ← holding [ov] (getMethod ov m pl)
      callWith pos f first (backTo pos (starEach [] X.env)) (backToKw pos (keywordEach [] X.env))) := by rfl) :
    PEn n X (.Call (.Attribute o m apos) [] [] pos) (tMeth C m sp [] E ta tNil) := by
  obtain ⟨f, fd, h1, h2, h3, F, b⟩ := D
  exact pen_meth0 (ds := []) he c ⟨h1, h2, h3⟩ F hr b .nil hx ht
end
def noSpace (x : Str) : Str := Txt.replace x " " ""
def spCheck (CB : Addr) : Sp := fun vs H Q E => ∃ x : Str, vs = [.str x] ∧ x.length ≤ 1900 ∧ ((noSpace x).length ≤ 200 → ∀ H', Same H H' → Q .non H') ∧
  (200 < (noSpace x).length → ∀ e H', Same H H' → H e = none → H' e = some (.xd [("place", .int 0)]) → E (.ref CB) (some e) H')
def legal (x : Str) : Prop := ∀ c ∈ x.cps.toList, c < 0x110000
def Fits (x : Str) : Prop := (tokensOf x).length < 1000 ∧ ∀ t ∈ tokensOf x, sm (.str t)
def readE (x : Str) : Option PyData := if (noSpace x).length ≤ 200 then pE (tokensOf x) else none
end My
set_option Elab.async false
set_option linter.all false
set_option maxRecDepth 100000
namespace My
open PySem PySem.Spec PyProof.Rows L2
def sp3 (c : Nat) (l : List Nat) : List Nat := l.flatMap fun k => if k = c then [32, c, 32] else [k]
theorem sp3_free (c : Nat) (l : List Nat) (h : c ∉ l) : sp3 c l = l := by
  induction l with
  | nil => rfl
  | cons k r ih =>
    have h1 : ¬ k = c := fun e => h (e ▸ List.mem_cons_self ..)
    have h2 : c ∉ r := fun m => h (List.mem_cons_of_mem _ m)
    unfold sp3 at ih ⊢
    rw [List.flatMap_cons, if_neg h1, ih h2]
    rfl
theorem sp3_append (c : Nat) (a b : List Nat) : sp3 c (a ++ b) = sp3 c a ++ sp3 c b := by
  unfold sp3
  rw [List.flatMap_append]
theorem sp3_join (c : Nat) : ∀ parts : List Str, (∀ p ∈ parts, c ∉ p.cps.toList) → sp3 c (Str.join ⟨#[c]⟩ parts).cps.toList = (Str.join ⟨#[32, c, 32]⟩ parts).cps.toList
  | [], _ => rfl
  | [p], h => sp3_free c _ (h p (List.mem_singleton.mpr rfl))
  | p :: q :: r, h => by
    have ih := sp3_join c (q :: r) fun a ha => h a (List.mem_cons_of_mem _ ha)
    show sp3 c (p ++ ⟨#[c]⟩ ++ Str.join ⟨#[c]⟩ (q :: r)).cps.toList = (p ++ ⟨#[32, c, 32]⟩ ++ Str.join ⟨#[32, c, 32]⟩ (q :: r)).cps.toList
    simp only [Str.cps_append, Array.toList_append]
    rw [sp3_append, sp3_append, ih, sp3_free c _ (h p (List.mem_cons_self ..))]
    show p.cps.toList ++ sp3 c [c] ++ _ = _
    have e : sp3 c [c] = [32, c, 32] := by simp [sp3]
    rw [e]
theorem replace_sp3 (x : Str) (c : Nat) : (Txt.replace x ⟨#[c]⟩ ⟨#[32, c, 32]⟩).cps.toList = sp3 c x.cps.toList := by
  rw [StrLaws.replace_one, ← sp3_join c _ (StrLaws.split_free x c), StrLaws.join_split]
theorem join0 : ∀ parts : List Str, (Str.join ⟨#[]⟩ parts).cps.toList = parts.flatMap fun p => p.cps.toList
  | [] => rfl
  | [p] => by simp [List.flatMap_cons]; rfl
  | p :: q :: r => by
    have ih := join0 (q :: r)
    show (p ++ ⟨#[]⟩ ++ Str.join ⟨#[]⟩ (q :: r)).cps.toList = _
    rw [List.flatMap_cons, ← ih]
    simp only [Str.cps_append, Array.toList_append]
    simp
def signL : List Nat := [124, 94, 38, 45, 64, 40, 41, 44]
theorem signs_eq : signsOf = signL.map fun c => (⟨#[c]⟩ : Str) := by decide +kernel
theorem sign3 (c : Nat) : (Str.empty ++ " " ++ (⟨#[c]⟩ : Str) ++ " " : Str) = ⟨#[32, c, 32]⟩ := by
  show (⟨#[] ++ #[32] ++ #[c] ++ #[32]⟩ : Str) = _
  rfl
theorem spaced_cps : ∀ (cs : List Nat) (x : Str), (spacedBy (cs.map fun c => (⟨#[c]⟩ : Str)) x).cps.toList = cs.foldl (fun l c => sp3 c l) x.cps.toList
  | [], _ => rfl
  | c :: cs, x => by
    rw [List.map_cons, List.foldl_cons]
    show (spacedBy (cs.map fun c => (⟨#[c]⟩ : Str)) (Txt.replace x ⟨#[c]⟩ (Str.empty ++ " " ++ (⟨#[c]⟩ : Str) ++ " "))).cps.toList = _
    rw [spaced_cps cs, sign3, replace_sp3]
theorem sp3_strike (c : Nat) (hc : c ≠ 32) (l : List Nat) : (sp3 c l).filter (· != 32) = l.filter (· != 32) := by
  induction l with
  | nil => rfl
  | cons k r ih =>
    have e : sp3 c (k :: r) = (if k = c then [32, c, 32] else [k]) ++ sp3 c r := rfl
    rw [e, List.filter_append, ih]
    by_cases h : k = c
    · subst h
      rw [if_pos rfl]
      have h2 : (k != 32) = true := by simpa using hc
      simp [List.filter_cons, h2]
    · rw [if_neg h]
      simp only [List.filter_cons, List.filter_nil]
      split <;> rfl
theorem fold_strike : ∀ (cs : List Nat) (l : List Nat), (∀ c ∈ cs, c ≠ 32) → (cs.foldl (fun l c => sp3 c l) l).filter (· != 32) = l.filter (· != 32)
  | [], _, _ => rfl
  | c :: cs, l, h => by
    rw [List.foldl_cons, fold_strike cs _ (fun d hd => h d (List.mem_cons_of_mem _ hd)), sp3_strike c (h c List.mem_cons_self)]
theorem parts_cps (x : Str) : (Txt.split (spacedBy signsOf x) " ").flatMap (fun p => p.cps.toList) = x.cps.toList.filter (· != 32) := by
  have e : (" " : Str) = ⟨#[32]⟩ := rfl
  rw [e, ← join0, ← rem_join 32 _ (StrLaws.split_free _ 32), StrLaws.join_split, signs_eq, spaced_cps, fold_strike _ _ (by decide)]
theorem noSpace_cps (x : Str) : (noSpace x).cps.toList = x.cps.toList.filter (· != 32) := replace_strikes x 32
theorem count_le : ∀ l : List Str, (l.filter fun t => ((t.length : Int) != 0)).length ≤ (l.flatMap fun p => p.cps.toList).length
  | [] => Nat.le_refl _
  | p :: r => by
    have ih := count_le r
    rw [List.flatMap_cons, List.length_append, List.filter_cons]
    split
    · rename_i h
      have h1 : p.length ≠ 0 := by
        intro z
        rw [z] at h
        revert h
        decide
      have h2 : p.cps.toList.length = p.length := by rw [Array.length_toList]; rfl
      rw [List.length_cons]
      omega
    · omega
theorem tokens_len (x : Str) : (tokensOf x).length ≤ (noSpace x).length := by
  have a := count_le (Txt.split (spacedBy signsOf x) " ")
  rw [parts_cps, ← noSpace_cps] at a
  have b : (noSpace x).cps.toList.length = (noSpace x).length := by rw [Array.length_toList]; rfl
  rw [b] at a
  exact a
theorem tokens_cps {x t : Str} (ht : t ∈ tokensOf x) : ∀ c ∈ t.cps.toList, c ∈ x.cps.toList := fun c hc => by
  have h1 := (List.mem_filter.mp ht).1
  have h2 : c ∈ (Txt.split (spacedBy signsOf x) " ").flatMap (fun p => p.cps.toList) := List.mem_flatMap.mpr ⟨t, h1, hc⟩
  rw [parts_cps] at h2
  exact (List.mem_filter.mp h2).1
theorem mem_len : ∀ {l : List Str} {t : Str}, t ∈ l → t.length ≤ (l.flatMap fun p => p.cps.toList).length
  | p :: r, t, h => by
    rw [List.flatMap_cons, List.length_append]
    rcases List.mem_cons.mp h with rfl | h
    · have h2 : t.cps.toList.length = t.length := by rw [Array.length_toList]; rfl
      omega
    · have := mem_len h
      omega
theorem fits_of (x : Str) (hg : legal x) (h : (noSpace x).length ≤ 200) : Fits x := by
  refine ⟨Nat.lt_of_le_of_lt (tokens_len x) (by omega), fun t ht => ?_⟩
  have hl := mem_len (List.mem_filter.mp ht).1
  rw [parts_cps, ← noSpace_cps] at hl
  have b : (noSpace x).cps.toList.length = (noSpace x).length := by rw [Array.length_toList]; rfl
  rw [b] at hl
  refine ⟨?_, .inl ?_⟩
  · show t.length ≤ 100000
    omega
  · show t.cps.all (· < 0x110000) = true
    rw [Array.all_eq_true']
    intro c hc
    simpa using hg c (tokens_cps ht c (by simpa using hc))
end My
set_option Elab.async false
set_option linter.all false
set_option maxRecDepth 100000
namespace My
open PySem PySem.Spec PyProof.Rows L2
def opsL : List Str := ["|", "^", "&", "-", "@"]
def rowHead (x : Str) : Str := (Txt.partition x "=").1
def rowTail (x : Str) : Str := (Txt.partition x "=").2.2
def rowOp (x : Str) : Str := cutS (rowHead x) (some (-1)) none
def rowAnew (x : Str) : Bool := !inV (V.str (rowOp x)) (opsL.map V.str)
def rowName (x : Str) : Str := Txt.stripChars (if rowAnew x then rowHead x else cutS (rowHead x) none (some (-1))) " "
def rowOf (x : Str) (d : PyData) : PyData := if rowAnew x then .tuple [.str (rowName x), d] else .tuple [.str (rowName x), .tuple [.str (rowOp x), .str (rowName x), d]]
def readR (x : Str) : Option PyData := if (noSpace x).length ≤ 200 then (if nameOk (rowName x) then (pE (tokensOf (rowTail x))).map (rowOf x) else none) else none
def spReadR (K : PySem.W.Frag) (CB : Addr) : Sp := fun vs H Q E => ∃ x : Str, vs = [.str x] ∧ x.length ≤ 1900 ∧ legal x ∧ (∀ d v H', readR x = some d → Same H H' → Dp K H' v d → tre d = true → Q v H') ∧
  (readR x = none → ∀ e H', Same H H' → H e = none → H' e = some (.xd [("place", .int 0)]) → E (.ref CB) (some e) H')
def TailFits (x : Str) : Prop := (rowHead x).length ≤ 1900 ∧ (rowTail x).length ≤ 1900 ∧ sm (.str (rowName x)) ∧ Fits (rowTail x)
end My
set_option Elab.async false
set_option linter.all false
set_option maxRecDepth 100000
namespace My
open PySem PySem.Spec PyProof.Rows L2
abbrev letters (x : Str) : List Nat := x.cps.toList
theorem par_sub (S : List Nat) : ∀ (l acc a b : List Nat), TL.par S acc l = some (a, b) → a.Sublist (acc ++ l) ∧ b.Sublist l
  | [], acc, a, b, h => by cases h
  | c :: r, acc, a, b, h => by
    cases hp : TL.pre S (c :: r) with
    | true =>
      rw [TL.par_hit hp] at h
      cases h
      exact ⟨List.sublist_append_left _ _, List.drop_sublist _ _⟩
    | false =>
      rw [TL.par_miss hp] at h
      obtain ⟨h1, h2⟩ := par_sub S r _ _ _ h
      rw [List.append_assoc] at h1
      exact ⟨h1, h2.trans (List.sublist_cons_self _ _)⟩
theorem part_sub (x : Str) : (letters (rowHead x)).Sublist (letters x) ∧ (letters (rowTail x)).Sublist (letters x) := by
  unfold rowHead rowTail
  rw [TL.partition_par x "=" (by decide)]
  cases h : TL.par (TL.tl "=") [] (TL.tl x) with
  | none => exact ⟨List.Sublist.refl _, List.nil_sublist _⟩
  | some p =>
    obtain ⟨a, b⟩ := p
    obtain ⟨h1, h2⟩ := par_sub _ _ _ _ _ h
    exact ⟨by simpa using h1, by simpa using h2⟩
theorem cut_sub (z : Str) (lo hi : Option Int) : (letters (cutS z lo hi)).Sublist (letters z) := by
  show (((z.cps.toList.drop (HT.sIx z.length 0 lo)).take (HT.sIx z.length z.length hi - HT.sIx z.length 0 lo)).toArray).toList.Sublist _
  exact (List.take_sublist _ _).trans (List.drop_sublist _ _)
theorem strip_sub (x y : Str) : (letters (Txt.stripChars x y)).Sublist (letters x) := by
  unfold Txt.stripChars
  rw [stripBy_eq]
  show (x.cps.extract _ _).toList.Sublist _
  rw [Array.toList_extract]
  unfold List.extract
  exact (List.take_sublist _ _).trans (List.drop_sublist _ _)
theorem sub_len {x y : Str} (h : (letters x).Sublist (letters y)) : x.length ≤ y.length := by
  have := h.length_le
  rw [Array.length_toList, Array.length_toList] at this
  exact this
theorem sub_legal {x y : Str} (h : (letters x).Sublist (letters y)) (g : legal y) : legal x := fun c hc => g c (h.subset hc)
theorem sub_space {x y : Str} (h : (letters x).Sublist (letters y)) : (noSpace x).length ≤ (noSpace y).length := by
  refine sub_len ?_
  show (noSpace x).cps.toList.Sublist (noSpace y).cps.toList
  rw [noSpace_cps, noSpace_cps]
  exact h.filter _
theorem sm_str {t : Str} (hl : t.length ≤ 100000) (g : legal t) : sm (.str t) := by
  refine ⟨hl, .inl ?_⟩
  show t.cps.all (· < 0x110000) = true
  rw [Array.all_eq_true']
  intro c hc
  simpa using g c (by simpa using hc)
theorem tail_fits (x : Str) (hx : x.length ≤ 1900) (g : legal x) (h : (noSpace x).length ≤ 200) : TailFits x := by
  obtain ⟨h1, h2⟩ := part_sub x
  have hn : (letters (rowName x)).Sublist (letters x) := by
    unfold rowName
    refine (strip_sub _ _).trans ?_
    split
    · exact h1
    · exact (cut_sub _ _ _).trans h1
  have l1 := sub_len h1
  have l2 := sub_len h2
  have l3 := sub_len hn
  exact ⟨by omega, by omega, sm_str (by omega) (sub_legal hn g), fits_of _ (sub_legal h2 g) (Nat.le_trans (sub_space h2) h)⟩
end My
set_option Elab.async false
set_option linter.all false
set_option maxRecDepth 100000
namespace My
open PySem PySem.Spec PyProof.Rows L2
def flush (acc : List Nat) (l : List (List Nat)) : List (List Nat) := if acc = [] then l else acc :: l
def wl : List Nat → List Nat → List (List Nat)
  | acc, [] => flush acc []
  | acc, c :: r => if c = 32 then flush acc (wl [] r) else if c ∈ signL then flush acc ([c] :: wl [] r) else wl (acc ++ [c]) r
def spread (k : Nat) : List Nat := if k ∈ signL then [32, k, 32] else [k]
theorem fold_append : ∀ (cs a b : List Nat), cs.foldl (fun l c => sp3 c l) (a ++ b) = cs.foldl (fun l c => sp3 c l) a ++ cs.foldl (fun l c => sp3 c l) b
  | [], _, _ => rfl
  | c :: cs, a, b => by
    rw [List.foldl_cons, List.foldl_cons, List.foldl_cons, sp3_append, fold_append cs]
theorem fold_none : ∀ (cs : List Nat) (k : Nat), k ∉ cs → cs.foldl (fun l c => sp3 c l) [k] = [k]
  | [], _, _ => rfl
  | c :: cs, k, h => by
    have h1 : ¬ k = c := fun e => h (e ▸ List.mem_cons_self)
    have e : sp3 c [k] = [k] := by simp [sp3, h1]
    rw [List.foldl_cons, e, fold_none cs k fun m => h (List.mem_cons_of_mem _ m)]
theorem fold_one (k : Nat) : signL.foldl (fun l c => sp3 c l) [k] = spread k := by
  by_cases h : k ∈ signL
  · have : ∀ k ∈ signL, signL.foldl (fun l c => sp3 c l) [k] = [32, k, 32] := by decide
    rw [this k h]
    unfold spread
    rw [if_pos h]
  · rw [fold_none _ _ h]
    unfold spread
    rw [if_neg h]
theorem fold_spread : ∀ l : List Nat, signL.foldl (fun l c => sp3 c l) l = l.flatMap spread
  | [] => by decide
  | k :: r => by
    have e : k :: r = [k] ++ r := rfl
    rw [e, fold_append, fold_one, fold_spread r]
    rfl
theorem spaced_letters (x : Str) : letters (spacedBy signsOf x) = (letters x).flatMap spread := by
  show (spacedBy signsOf x).cps.toList = _
  rw [signs_eq, spaced_cps, fold_spread]
theorem pre32 (c : Nat) (r : List Nat) : TL.pre [32] (c :: r) = decide (c = 32) := by
  show (([c] : List Nat) == [32]) = _
  by_cases h : c = 32
  · subst h; decide
  · rw [decide_eq_false h]
    simpa using h
theorem spl_wl : ∀ (l acc : List Nat), (TL.spl [32] 0 acc (l.flatMap spread)).filter (fun p => !p.isEmpty) = wl acc l
  | [], acc => by
    show ([acc] : List (List Nat)).filter (fun p => !p.isEmpty) = flush acc []
    unfold flush
    cases acc <;> rfl
  | c :: r, acc => by
    have fl : ∀ l : List (List Nat), (acc :: l).filter (fun p => !p.isEmpty) = flush acc (l.filter fun p => !p.isEmpty) := fun l => by
      unfold flush
      cases acc <;> rfl
    rw [List.flatMap_cons]
    unfold wl
    by_cases h : c = 32
    · subst h
      rw [if_pos rfl]
      show (TL.spl [32] 0 acc (32 :: r.flatMap spread)).filter _ = _
      rw [TL.spl_hit (by rw [pre32]; rfl)]
      show (acc :: TL.spl [32] 0 [] (r.flatMap spread)).filter _ = _
      rw [fl, spl_wl r]
    · rw [if_neg h]
      by_cases hs : c ∈ signL
      · rw [if_pos hs]
        have e : spread c = [32, c, 32] := if_pos hs
        rw [e]
        show (TL.spl [32] 0 acc (32 :: c :: 32 :: r.flatMap spread)).filter _ = _
        rw [TL.spl_hit (by rw [pre32]; rfl)]
        show (acc :: TL.spl [32] 0 [] (c :: 32 :: r.flatMap spread)).filter _ = _
        rw [TL.spl_miss (by rw [pre32]; exact decide_eq_false h), TL.spl_hit (by rw [pre32]; rfl)]
        show (acc :: [c] :: TL.spl [32] 0 [] (r.flatMap spread)).filter _ = _
        rw [fl, List.filter_cons, if_pos (show (!([c] : List Nat).isEmpty) = true from rfl), spl_wl r]
      · rw [if_neg hs]
        have e : spread c = [c] := if_neg hs
        rw [e]
        show (TL.spl [32] 0 acc (c :: r.flatMap spread)).filter _ = _
        rw [TL.spl_miss (by rw [pre32]; exact decide_eq_false h), spl_wl r]
theorem tokens_wl (x : Str) : (tokensOf x).map TL.tl = wl [] (letters x) := by
  unfold tokensOf
  have e := TL.split_spl (spacedBy signsOf x) " " (by decide) (TL.kind_ok (by decide +kernel))
  have e2 : TL.tl " " = [32] := rfl
  have e3 : TL.tl (spacedBy signsOf x) = (letters x).flatMap spread := spaced_letters x
  rw [e2, e3] at e
  rw [← spl_wl, ← e, List.filter_map]
  congr 1
  refine List.filter_congr fun t _ => ?_
  show ((t.length : Int) != 0) = !(TL.tl t).isEmpty
  rw [TL.len_tl]
  cases TL.tl t with
  | nil => rfl
  | cons c r =>
    show (((c :: r).length : Int) != 0) = true
    rw [bne_iff_ne]
    intro z
    rw [List.length_cons] at z
    omega
end My
set_option Elab.async false
set_option linter.all false
set_option maxRecDepth 100000
namespace My
open PySem PySem.Spec PyProof.Rows L2
def upTo : Nat → Str → Bool
  | 0, _ => false
  | m + 1, o => upTo m o || o == opAt m
end My
set_option Elab.async false
set_option linter.all false
set_option maxRecDepth 100000
namespace My
open PySem PySem.Spec PyProof.Rows L2
def chainT : List (Nat × Nat × Nat × List Nat) → List Nat
  | [] => []
  | (i, c, j, w) :: r => List.replicate i 32 ++ c :: (List.replicate j 32 ++ (w ++ chainT r))
end My
set_option Elab.async false
set_option linter.all false
set_option maxRecDepth 100000
namespace My
open PySem PySem.Spec PyProof.Rows L2
def Sing (inner : Ps) (S : List Str) : Prop := ∀ r, ∃ d, pSingle inner (S ++ r) = some (d, r)
def Closed (q : List Str) : Prop := ∀ m, pTok (opAt m) q = none
def flatS : List (Str × List Str) → List Str → List Str
  | [], q => q
  | p :: r, q => p.1 :: (p.2 ++ flatS r q)
def behindS (m : Nat) (ps : List (Str × List Str)) : List (Str × List Str) := ps.dropWhile fun p => upTo m p.1
theorem behindS_len (m : Nat) (ps : List (Str × List Str)) : (behindS m ps).length ≤ ps.length := (List.dropWhile_sublist _).length_le
theorem behindS_mem {m : Nat} {ps : List (Str × List Str)} {p : Str × List Str} (h : p ∈ behindS m ps) : p ∈ ps := (List.dropWhile_sublist _).subset h
theorem behindS_behind (m : Nat) (ps : List (Str × List Str)) : behindS (m + 1) (behindS m ps) = behindS (m + 1) ps := by
  induction ps with
  | nil => rfl
  | cons p r ih =>
    unfold behindS at ih ⊢
    by_cases h : upTo m p.1 = true
    · have h2 : upTo (m + 1) p.1 = true := by unfold upTo; rw [h]; rfl
      rw [List.dropWhile_cons, if_pos h, ih, List.dropWhile_cons, if_pos h2]
    · rw [List.dropWhile_cons, if_neg h]
theorem behindS_head {m : Nat} {ps : List (Str × List Str)} {p : Str × List Str} {r : List (Str × List Str)} (h : behindS m ps = p :: r) : upTo m p.1 = false := by
  induction ps with
  | nil => cases h
  | cons q t ih =>
    unfold behindS at h ih
    rw [List.dropWhile_cons] at h
    split at h
    · exact ih h
    · rename_i hq
      cases h
      simpa using hq
theorem behindS_idem (m : Nat) (ps : List (Str × List Str)) : behindS m (behindS m ps) = behindS m ps := by
  unfold behindS
  cases hb : ps.dropWhile (fun p => upTo m p.1) with
  | nil => rfl
  | cons p r =>
    have := behindS_head (m := m) (ps := ps) hb
    rw [List.dropWhile_cons, if_neg (by rw [this]; exact Bool.false_ne_true)]
theorem flatS_len : ∀ (ps : List (Str × List Str)) (q : List Str), ps.length ≤ (flatS ps q).length
  | [], _ => Nat.zero_le _
  | p :: r, q => by
    have := flatS_len r q
    show r.length + 1 ≤ (p.1 :: (p.2 ++ flatS r q)).length
    rw [List.length_cons, List.length_append]
    omega
theorem loopS {inner : Ps} {m : Nat} {sub : Ps} {q : List Str} (hq : Closed q) (hsub : ∀ a ps, Sing inner a → (∀ p ∈ ps, Sing inner p.2) → ∃ d, sub (a ++ flatS ps q) = some (d, flatS (behindS m ps) q)) :
    ∀ (k : Nat) (ps : List (Str × List Str)) (l : PyData), ps.length ≤ k → (∀ p ∈ ps, Sing inner p.2) → ∃ d, pLoop (opAt m) sub k l (flatS (behindS m ps) q) = some (d, flatS (behindS (m + 1) ps) q) := by
  intro k
  induction k with
  | zero =>
    intro ps l hk _
    have e : ps = [] := List.length_eq_zero_iff.mp (Nat.le_zero.mp hk)
    subst e
    exact ⟨l, rfl⟩
  | succ k ih =>
    intro ps l hk hp
    cases hb : behindS m ps with
    | nil =>
      refine ⟨l, ?_⟩
      have e := behindS_behind m ps
      rw [hb] at e
      rw [← e]
      exact loop_no (hq m)
    | cons p r =>
      have hm := behindS_head hb
      have e := behindS_behind m ps
      rw [hb] at e
      have hmem : ∀ z ∈ p :: r, z ∈ ps := fun z hz => behindS_mem (m := m) (by rw [hb]; exact hz)
      have hlen := behindS_len m ps
      rw [hb, List.length_cons] at hlen
      by_cases ho : p.1 = opAt m
      · have ht : pTok (opAt m) (flatS (p :: r) q) = some (p.2 ++ flatS r q) := if_pos ho
        obtain ⟨d2, h2⟩ := hsub p.2 r (hp p (hmem p List.mem_cons_self)) fun z hz => hp z (hmem z (List.mem_cons_of_mem _ hz))
        rw [loop_go ht h2]
        have hu : upTo (m + 1) p.1 = true := by unfold upTo; rw [ho]; simp
        have e2 : behindS (m + 1) ps = behindS (m + 1) r := by
          rw [← e]
          unfold behindS
          rw [List.dropWhile_cons, if_pos hu]
        rw [e2]
        exact ih r _ (by omega) fun z hz => hp z (hmem z (List.mem_cons_of_mem _ hz))
      · have ht : pTok (opAt m) (flatS (p :: r) q) = none := if_neg ho
        rw [loop_no ht]
        have hu : ¬ upTo (m + 1) p.1 = true := by
          unfold upTo
          rw [hm]
          simpa using ho
        refine ⟨l, ?_⟩
        rw [← e]
        unfold behindS
        rw [List.dropWhile_cons, if_neg hu]
theorem levS {inner : Ps} {q : List Str} (hq : Closed q) : ∀ (m : Nat) (a : List Str) (ps : List (Str × List Str)), Sing inner a → (∀ p ∈ ps, Sing inner p.2) → ∃ d, pLev (pSingle inner) m (a ++ flatS ps q) = some (d, flatS (behindS m ps) q)
  | 0, a, ps, ha, _ => by
    have e : behindS 0 ps = ps := by
      unfold behindS
      cases ps <;> rfl
    rw [e]
    exact ha _
  | m + 1, a, ps, ha, hp => by
    obtain ⟨d, h⟩ := levS hq m a ps ha hp
    rw [lev_go h]
    have := loopS hq (fun b qs hb hqs => levS hq m b qs hb hqs) (flatS (behindS m ps) q).length (behindS m ps) d (flatS_len _ _) fun p h => hp p (behindS_mem h)
    rw [behindS_idem, behindS_behind] at this
    exact this
theorem read_to {n : Nat} {a q : List Str} {ps : List (Str × List Str)} (hq : Closed q) (ha : Sing (pIn n) a) (hp : ∀ p ∈ ps, Sing (pIn n) p.2) (ho : ∀ p ∈ ps, upTo 5 p.1 = true) : ∃ d, pIn (n + 1) (a ++ flatS ps q) = some (d, q) := by
  obtain ⟨d, h⟩ := levS hq 5 a ps ha hp
  have e : behindS 5 ps = [] := by
    clear h
    unfold behindS
    induction ps with
    | nil => rfl
    | cons p r ih =>
      rw [List.dropWhile_cons, if_pos (ho p List.mem_cons_self)]
      exact ih (fun z hz => hp z (List.mem_cons_of_mem _ hz)) fun z hz => ho z (List.mem_cons_of_mem _ hz)
  rw [e] at h
  exact ⟨d, h⟩
theorem sing_name {inner : Ps} {a : Str} (h : nameOk a = true) : Sing inner [a] := fun r => ⟨.str a, sg_name h⟩
theorem ops_not {t : Str} (h : ∀ o ∈ ops5, t ≠ o) (r : List Str) : Closed (t :: r) := fun m => if_neg (by
  have : opAt m ∈ ops5 := by
    unfold opAt
    have hl : 4 - m < ops5.length := by show 4 - m < 5; omega
    rw [List.getD_eq_getElem?_getD, List.getElem?_eq_getElem hl]
    exact List.getElem_mem hl
  exact h _ this)
theorem closed_par (r : List Str) : Closed (")" :: r) := ops_not (by decide) r
theorem closed_comma (r : List Str) : Closed ("," :: r) := ops_not (by decide) r
end My
set_option Elab.async false
set_option linter.all false
set_option maxRecDepth 100000
namespace My
open PySem PySem.Spec PyProof.Rows L2
abbrev oP : Str := "("
abbrev cP : Str := ")"
abbrev cM : Str := ","
abbrev kW : Str := "keys"
abbrev lW : Str := "look"
def Reads (n : Nat) (E : List Str) : Prop := ∀ q, Closed q → ∃ d, pIn (n + 1) (E ++ q) = some (d, q)
theorem flatS_app (q : List Str) : ∀ ps : List (Str × List Str), flatS ps [] ++ q = flatS ps q
  | [] => rfl
  | p :: r => by
    show p.1 :: (p.2 ++ flatS r []) ++ q = p.1 :: (p.2 ++ flatS r q)
    rw [List.cons_append, List.append_assoc, flatS_app q r]
theorem reads_of {n : Nat} {a : List Str} {ps : List (Str × List Str)} (ha : Sing (pIn n) a) (hp : ∀ p ∈ ps, Sing (pIn n) p.2) (ho : ∀ p ∈ ps, upTo 5 p.1 = true) : Reads n (a ++ flatS ps []) := fun q hq => by
  rw [List.append_assoc, flatS_app]
  exact read_to hq ha hp ho
theorem reads_one {n : Nat} {a : List Str} (ha : Sing (pIn n) a) : Reads n a := by
  have := reads_of (ps := []) ha (fun _ h => nomatch h) (fun _ h => nomatch h)
  rw [show a ++ flatS [] [] = a from List.append_nil _] at this
  exact this
theorem reads_two {n : Nat} {a b : List Str} {o : Str} (ha : Sing (pIn n) a) (hb : Sing (pIn n) b) (ho : upTo 5 o = true) : Reads n (a ++ o :: b) := by
  have := reads_of (ps := [(o, b)]) ha (fun p h => by obtain rfl := List.mem_singleton.mp h; exact hb) (fun p h => by obtain rfl := List.mem_singleton.mp h; exact ho)
  rw [show a ++ flatS [(o, b)] [] = a ++ o :: b by show a ++ o :: (b ++ []) = _; rw [List.append_nil]] at this
  exact this
theorem tok_self (x : Str) (r : List Str) : pTok x (x :: r) = some r := if_pos rfl
theorem parts1_read {n : Nat} {E : List Str} (h : Reads n E) (r : List Str) : ∃ d, pParts1 (pIn (n + 1)) (oP :: (E ++ [cP]) ++ r) = some (d, r) := by
  obtain ⟨d, hd⟩ := h (cP :: r) (closed_par r)
  refine ⟨d, ?_⟩
  rw [show oP :: (E ++ [cP]) ++ r = oP :: (E ++ cP :: r) by simp only [List.cons_append, List.append_assoc, List.nil_append]]
  exact p1_d (tok_self _ _) hd (tok_self _ _)
theorem parts2_read {n : Nat} {E1 E2 : List Str} (h1 : Reads n E1) (h2 : Reads n E2) (r : List Str) : ∃ d d2, pParts2 (pIn (n + 1)) (oP :: (E1 ++ cM :: (E2 ++ [cP])) ++ r) = some (d, d2, r) := by
  obtain ⟨d, hd⟩ := h1 (cM :: (E2 ++ cP :: r)) (closed_comma _)
  obtain ⟨d2, hd2⟩ := h2 (cP :: r) (closed_par r)
  refine ⟨d, d2, ?_⟩
  rw [show oP :: (E1 ++ cM :: (E2 ++ [cP])) ++ r = oP :: (E1 ++ cM :: (E2 ++ cP :: r)) by simp only [List.cons_append, List.append_assoc, List.nil_append]]
  exact p2_f (tok_self _ _) hd (tok_self _ _) hd2 (tok_self _ _)
theorem par_k : oP ≠ "keys" := by decide
theorem par_l : oP ≠ "look" := by decide
theorem no_par : nameOk "(" = false := by decide +kernel
theorem sing_par {n : Nat} {E : List Str} (h : Reads n E) : Sing (pIn (n + 1)) (oP :: (E ++ [cP])) := fun r => by
  obtain ⟨d, hd⟩ := parts1_read h r
  exact ⟨d, (sg_par (ts := oP :: (E ++ [cP] ++ r)) no_par par_k par_l).trans hd⟩
theorem sing_keys {n : Nat} {E : List Str} (h : Reads n E) : Sing (pIn (n + 1)) (kW :: oP :: (E ++ [cP])) := fun r => by
  obtain ⟨d, hd⟩ := parts1_read h r
  exact ⟨_, sg_keys1 hd⟩
theorem sing_look {n : Nat} {E1 E2 : List Str} (h1 : Reads n E1) (h2 : Reads n E2) : Sing (pIn (n + 1)) (lW :: oP :: (E1 ++ cM :: (E2 ++ [cP]))) := fun r => by
  obtain ⟨d, d2, hd⟩ := parts2_read h1 h2 r
  exact ⟨_, sg_look1 hd⟩
end My
set_option Elab.async false
set_option linter.all false
set_option maxRecDepth 100000
namespace My
open PySem PySem.Spec PyProof.Rows L2
abbrev bW : Str := "b"
theorem b_name : nameOk "b" = true := by decide +kernel
theorem a_name : nameOk "a" = true := by decide +kernel
inductive Deep : Nat → List Str → Prop
  | a : Deep 0 [("a" : Str)]
  | par {k : Nat} {E : List Str} (h : Deep k E) : Deep (k + 1) (oP :: (E ++ [cP]))
  | keys {k : Nat} {E : List Str} (h : Deep k E) : Deep (k + 1) (kW :: oP :: (E ++ [cP]))
  | look1 {k : Nat} {E : List Str} (h : Deep k E) : Deep (k + 1) (lW :: oP :: (E ++ cM :: ([bW] ++ [cP])))
  | look2 {k : Nat} {E : List Str} (h : Deep k E) : Deep (k + 1) (lW :: oP :: ([bW] ++ cM :: (E ++ [cP])))
  | parB {k : Nat} {E : List Str} (h : Deep k E) : Deep (k + 1) ((oP :: (E ++ [cP])) ++ ("|" : Str) :: [bW])
  | bKeys {k : Nat} {E : List Str} (h : Deep k E) : Deep (k + 1) ([bW] ++ ("-" : Str) :: (kW :: oP :: (E ++ [cP])))
theorem reads_b (n : Nat) : Reads n [bW] := reads_one (sing_name b_name)
theorem Deep.reads : ∀ {k : Nat} {E : List Str}, Deep k E → ∀ n, k ≤ n → Reads n E := by
  intro k E h
  induction h with
  | a => exact fun n _ => reads_one (sing_name a_name)
  | par h ih => exact fun n hn => by cases n with
    | zero => omega
    | succ n => exact reads_one (sing_par (ih n (by omega)))
  | keys h ih => exact fun n hn => by cases n with
    | zero => omega
    | succ n => exact reads_one (sing_keys (ih n (by omega)))
  | look1 h ih => exact fun n hn => by cases n with
    | zero => omega
    | succ n => exact reads_one (sing_look (ih n (by omega)) (reads_b n))
  | look2 h ih => exact fun n hn => by cases n with
    | zero => omega
    | succ n => exact reads_one (sing_look (reads_b n) (ih n (by omega)))
  | parB h ih => exact fun n hn => by cases n with
    | zero => omega
    | succ n => exact reads_two (sing_par (ih n (by omega))) (sing_name b_name) (by decide)
  | bKeys h ih => exact fun n hn => by cases n with
    | zero => omega
    | succ n => exact reads_two (sing_name b_name) (sing_keys (ih n (by omega))) (by decide)
end My
set_option Elab.async false
set_option linter.all false
set_option maxRecDepth 100000
namespace My
open PySem PySem.Spec PyProof.Rows L2
def Ends (r : List Nat) : Prop := r = [] ∨ ∃ c s, r = c :: s ∧ (c = 32 ∨ c ∈ signL)
def Splits (T : List Nat) (E : List (List Nat)) : Prop := ∀ r, Ends r → wl [] (T ++ r) = E ++ wl [] r
def SplitsS (T : List Nat) (E : List (List Nat)) : Prop := ∀ r, wl [] (T ++ r) = E ++ wl [] r
theorem SplitsS.app {T T2 : List Nat} {E E2 : List (List Nat)} (h : SplitsS T E) (h2 : SplitsS T2 E2) : SplitsS (T ++ T2) (E ++ E2) := fun r => by
  rw [List.append_assoc, h, h2, List.append_assoc]
theorem Splits.app {T : List Nat} {c : Nat} {s : List Nat} {E E2 : List (List Nat)} (h : Splits T E) (hc : c = 32 ∨ c ∈ signL) (h2 : SplitsS (c :: s) E2) : SplitsS (T ++ c :: s) (E ++ E2) := fun r => by
  rw [List.append_assoc, h (c :: s ++ r) (.inr ⟨c, s ++ r, rfl, hc⟩), h2, List.append_assoc]
theorem Splits.all {T : List Nat} {E : List (List Nat)} (h : Splits T E) : wl [] T = E := by
  have := h [] (.inl rfl)
  rw [List.append_nil] at this
  rw [this]
  exact List.append_nil _
end My
set_option Elab.async false
set_option linter.all false
set_option maxRecDepth 100000
set_option Elab.async false
set_option linter.all false
set_option maxRecDepth 100000
namespace My
open PySem PySem.Spec PyProof.Rows L2
abbrev ofL (l : List Nat) : Str := ⟨l.toArray⟩
def opL : List Nat := [124, 94, 38, 45, 64]
end My
set_option Elab.async false
set_option linter.all false
set_option maxRecDepth 100000
namespace My
open PySem PySem.Spec PyProof.Rows L2
theorem str_of_letters {x : Str} {l : List Nat} (h : letters x = l) : x = ofL l := TL.ext_tl h
theorem row_parts {H T : List Nat} (h : (61 : Nat) ∉ H) : rowHead (ofL (H ++ 61 :: T)) = ofL H ∧ rowTail (ofL (H ++ 61 :: T)) = ofL T := by
  have e : ofL (H ++ 61 :: T) = ofL H ++ "=" ++ ofL T := TL.ext_tl (by rw [TL.tl_append, TL.tl_append, List.append_assoc]; rfl)
  have p := TL.partition_app (y := "=") (s := 61) (S := []) rfl (a := ofL H) (b := ofL T) h
  unfold rowHead rowTail
  rw [e, p]
  exact ⟨rfl, rfl⟩
end My
set_option Elab.async false
set_option linter.all false
set_option maxRecDepth 100000
set_option Elab.async false
set_option linter.all false
set_option maxRecDepth 100000
namespace My
open PySem PySem.Spec PyProof.Rows L2
def prefL : List (List Nat) := [[97], [97, 98], [97, 98, 99], [97, 98, 99, 100]]
abbrev Lk := Nat × Nat × Nat × List Nat
def Good4 (rest : List Nat) (p : Lk) : Prop := p.2.1 ∈ opL ∧ p.2.2.2 ∈ prefL ∧ p.1 ≤ 3 ∧ p.2.2.1 ≤ 1 ∧ (p.2.1 ∈ rest → p.1 = 0 ∧ p.2.2.1 = 0)
abbrev bareL (ps : List Lk) : List Nat := ps.flatMap fun p => p.2.1 :: p.2.2.2
structure LongX (rest : List Nat) (m : Nat) (x : Str) : Prop where
  ex : ∃ a ps, letters x = a ++ chainT ps ∧ (a = [97] ∨ a = [98, 97]) ∧ (∀ p ∈ ps, Good4 rest p) ∧ a.length + (bareL ps).length = m
theorem LongX.weak {rest r2 : List Nat} {m : Nat} {x : Str} (h : LongX rest m x) (hr : ∀ c ∈ r2, c ∈ rest) : LongX r2 m x := by
  obtain ⟨a, ps, e, ha, hp, hm⟩ := h.ex
  exact ⟨a, ps, e, ha, fun p q => ⟨(hp p q).1, (hp p q).2.1, (hp p q).2.2.1, (hp p q).2.2.2.1, fun z => (hp p q).2.2.2.2 (hr _ z)⟩, hm⟩
theorem op_no {c : Nat} (h : c ∈ opL) : c ≠ 32 ∧ c < 128 := by
  have : ∀ c ∈ opL, c ≠ 32 ∧ c < 128 := by decide
  exact this c h
theorem pref_no {w : List Nat} (h : w ∈ prefL) : (∀ c ∈ w, c ≠ 32 ∧ c < 128 ∧ c ∉ opL) ∧ w ≠ [] ∧ w.length ≤ 4 := by
  have : ∀ w ∈ prefL, (∀ c ∈ w, c ≠ 32 ∧ c < 128 ∧ c ∉ opL) ∧ w ≠ [] ∧ w.length ≤ 4 := by decide
  exact this w h
theorem chain_len {rest : List Nat} : ∀ ps : List Lk, (∀ p ∈ ps, Good4 rest p) → (chainT ps).length ≤ 3 * (bareL ps).length
  | [], _ => Nat.le_refl _
  | (i, c, j, w) :: r, h => by
    obtain ⟨h1, h2, h3, h4, _⟩ := h _ List.mem_cons_self
    have ih := chain_len r fun p q => h p (List.mem_cons_of_mem _ q)
    have hw : 0 < w.length := List.length_pos_iff.mpr (pref_no h2).2.1
    have e : bareL ((i, c, j, w) :: r) = c :: (w ++ bareL r) := rfl
    unfold chainT
    rw [e]
    simp only [List.length_append, List.length_cons, List.length_replicate]
    have h3 : i ≤ 3 := h3
    have h4 : j ≤ 1 := h4
    omega
theorem head_no {a : List Nat} (h : a = [97] ∨ a = [98, 97]) : (∀ c ∈ a, c ≠ 32 ∧ c < 128 ∧ c ∉ opL) ∧ a ≠ [] ∧ a.length ≤ 2 := by
  rcases h with rfl | rfl <;> decide
theorem LongX.len {rest : List Nat} {m : Nat} {x : Str} (h : LongX rest m x) : x.length ≤ 3 * m := by
  obtain ⟨a, ps, e, ha, hp, hm⟩ := h.ex
  have z := congrArg List.length e
  rw [List.length_append] at z
  have l := chain_len ps hp
  have e2 : x.length = (letters x).length := rfl
  omega
theorem chain_mem {rest : List Nat} : ∀ ps : List Lk, (∀ p ∈ ps, Good4 rest p) → ∀ c ∈ chainT ps, c < 128
  | [], _, c, hc => nomatch hc
  | (i, k, j, w) :: r, h, c, hc => by
    obtain ⟨h1, h2, _, _, _⟩ := h _ List.mem_cons_self
    unfold chainT at hc
    rw [List.mem_append, List.mem_cons, List.mem_append, List.mem_append] at hc
    rcases hc with hc | rfl | hc | hc | hc
    · rw [(List.mem_replicate.mp hc).2]; decide
    · exact (op_no h1).2
    · rw [(List.mem_replicate.mp hc).2]; decide
    · exact ((pref_no h2).1 c hc).2.1
    · exact chain_mem r (fun p q => h p (List.mem_cons_of_mem _ q)) c hc
theorem LongX.ascii {rest : List Nat} {m : Nat} {x : Str} (h : LongX rest m x) : ∀ c ∈ letters x, c < 128 := by
  obtain ⟨a, ps, e, ha, hp, hm⟩ := h.ex
  intro c hc
  rw [e, List.mem_append] at hc
  rcases hc with hc | hc
  · exact ((head_no ha).1 c hc).2.1
  · exact chain_mem ps hp c hc
theorem ascii_legal {x : Str} (h : ∀ c ∈ letters x, c < 128) : legal x := fun c hc => Nat.lt_trans (h c hc) (by decide)
def strew (c : Nat) (z : List Nat) (l : List Nat) : List Nat := l.flatMap fun k => if k = c then z else [k]
theorem strew_free {c : Nat} {z l : List Nat} (h : c ∉ l) : strew c z l = l := by
  induction l with
  | nil => rfl
  | cons k r ih =>
    unfold strew
    rw [List.flatMap_cons, if_neg (fun e : k = c => h (e ▸ List.mem_cons_self))]
    have := ih fun hm => h (List.mem_cons_of_mem _ hm)
    unfold strew at this
    rw [this]
    rfl
theorem strew_app (c : Nat) (z a b : List Nat) : strew c z (a ++ b) = strew c z a ++ strew c z b := List.flatMap_append
theorem strew_cons (c : Nat) (z : List Nat) (k : Nat) (b : List Nat) : strew c z (k :: b) = (if k = c then z else [k]) ++ strew c z b := List.flatMap_cons
theorem strew_rep {c : Nat} (hc : c ≠ 32) (z : List Nat) (k : Nat) : strew c z (List.replicate k 32) = List.replicate k 32 := strew_free fun h => hc (List.mem_replicate.mp h).2
def stepP (c k : Nat) (p : Lk) : Lk := if p.2.1 = c then (p.1 + k, p.2.1, p.2.2.1 + 1, p.2.2.2) else p
theorem strew_chain {rest : List Nat} {c k : Nat} (hc : c ∈ opL) : ∀ ps : List Lk, (∀ p ∈ ps, Good4 rest p) → strew c (List.replicate k 32 ++ c :: [32]) (chainT ps) = chainT (ps.map (stepP c k))
  | [], _ => rfl
  | (i, o, j, w) :: r, h => by
    obtain ⟨h1, h2, _, _, _⟩ := h _ List.mem_cons_self
    have ih := strew_chain (k := k) hc r fun p q => h p (List.mem_cons_of_mem _ q)
    have c32 := (op_no hc).1
    have ew : strew c (List.replicate k 32 ++ c :: [32]) w = w := strew_free fun hm => ((pref_no h2).1 c hm).2.2 hc
    rw [List.map_cons]
    by_cases e : o = c
    · subst e
      have es : stepP o k (i, o, j, w) = (i + k, o, j + 1, w) := if_pos rfl
      rw [es]
      unfold chainT
      rw [strew_app, strew_rep c32, strew_cons, if_pos rfl, strew_app, strew_rep c32, strew_app, ew, ih, ← List.replicate_append_replicate]
      simp only [List.append_assoc, List.cons_append, List.nil_append]
      rfl
    · have es : stepP c k (i, o, j, w) = (i, o, j, w) := if_neg e
      rw [es]
      unfold chainT
      rw [strew_app, strew_rep c32, strew_cons, if_neg e, strew_app, strew_rep c32, strew_app, ew, ih]
      rfl
theorem bare_step (c k : Nat) (ps : List Lk) : bareL (ps.map (stepP c k)) = bareL ps := by
  unfold bareL
  rw [List.flatMap_map]
  refine congrArg (fun f => ps.flatMap f) (funext fun p => ?_)
  unfold stepP
  split <;> rfl
theorem LongX.step {rest : List Nat} {m c k : Nat} {x y : Str} (h : LongX (c :: rest) m x) (hc : c ∈ opL) (hn : c ∉ rest) (hk : k ≤ 3) (e : letters y = strew c (List.replicate k 32 ++ c :: [32]) (letters x)) : LongX rest m y := by
  obtain ⟨a, ps, ex, ha, hp, hm⟩ := h.ex
  refine ⟨a, ps.map (stepP c k), ?_, ha, ?_, by rw [bare_step]; exact hm⟩
  · rw [e, ex, strew_app, strew_chain hc ps hp, strew_free fun hm => ((head_no ha).1 c hm).2.2 hc]
  · intro p hq
    obtain ⟨q, hq', rfl⟩ := List.mem_map.mp hq
    obtain ⟨g1, g2, g3, g4, g5⟩ := hp q hq'
    unfold stepP
    split
    · rename_i e1
      obtain ⟨z1, z2⟩ := g5 (by rw [e1]; exact List.mem_cons_self)
      exact ⟨g1, g2, by show q.1 + k ≤ 3; omega, by show q.2.2.1 + 1 ≤ 1; omega, fun hr => absurd (show c ∈ rest from e1 ▸ hr) hn⟩
    · exact ⟨g1, g2, g3, g4, fun hr => g5 (List.mem_cons_of_mem _ hr)⟩
end My
set_option Elab.async false
set_option linter.all false
set_option maxRecDepth 100000
namespace My
open PySem PySem.Spec PyProof.Rows L2
theorem let_app (x y : Str) : letters (x ++ y) = letters x ++ letters y := TL.tl_append x y
theorem op_mul_strN {X : Cx} : OpR X (binaryOp .Mult) (fun x y H Q => ∃ z n, x = .str z ∧ y = .int n ∧ 0 ≤ n ∧ n ≤ 1000 ∧ 0 < z.length ∧ z.length ≤ 1000 ∧ Q (.str (repS z n.toNat)) H) := by
  intro pins s σ H x y v u Q I rx ry h
  obtain ⟨z, n, rfl, rfl, h1, h2, h3, h4, q⟩ := h
  by_cases e : n = 0
  · subst e
    obtain ⟨t, rfl⟩ := rx
    obtain ⟨t', rfl⟩ := ry
    have I1 : L2.Inv X pins σ H { s with toks := s.toks + 1 } := I.tok _
    exact PySem.P.mul_str_none (by decide) (by decide) ⟨.str Str.empty, H, I1, ⟨_, rfl⟩, q⟩
  · exact op_mul_str pins s σ H _ _ v u Q I rx ry ⟨z, n, rfl, rfl, by omega, h2, h3, h4, q⟩
end My
set_option Elab.async false
set_option linter.all false
set_option maxRecDepth 100000
namespace My
open PySem PySem.Spec PyProof.Rows L2
section
variable {n : Nat} {X : Cx} {x y : Str} {c : Value} {i : Nat} {body rest : List Stmt} {fst : Stmt} {np pos p2 : Pos} {tb : WX → TS} {ts : Addr → Value → Option Addr → TS} {Wout : WX} {pins : List (Addr × Obj)} {D : L2.Ends} {u : Value} {s : Shared}
abbrev Chain (X : Cx) (hs : List ExceptHandler) (pins : List (Addr × Obj)) (D : L2.Ends) (e : Value) (s : Shared) : Prop :=
  wpAny (model X.prog X.w) X.A (noteFrame e X.env) (fun _ t => wpAny (model X.prog X.w) X.A (setFlight e none) (fun _ t' => wpAny (model X.prog X.w) X.A (handleBy e X.env hs) (SP X pins D) X.xe t') X.xe t) X.xe s
theorem test_of {a : Addr} {pns : List (Addr × Obj)} {σ : L2.St} {H : Hp} {Q E : Value → Shared → Prop} (hc : Names X x c) {q : Addr × Obj} (S : Inv (X.suite a (q :: pns)) [] σ H s) (k : Q c s) :
    wpAny (model X.prog X.w) (X.A.mark (some (.ref a))) (eval (.Name x np) X.env) Q E s := by
  obtain ⟨hg, hd, h⟩ := hc
  rcases h with h | ⟨h, hv, ne⟩
  · exact ld_glob (X := X.suite a (q :: pns)) S hg h k hd
  · exact ld_blt (X := X.suite a (q :: pns)) S hg h hv k ne hd
theorem chain1 {nm : Option Str} {W Yes : WX} (st2 : X.stack = X.env :: X.outer) (fr2 : X.env.frame = some X.env.locals) (hc : Names X x c) (tk : Takes X Wout) (ok : X.Ok)
    (hW : ∀ cls d σ H, W cls d σ H → ∃ b, PySem.W.exmOne X.K cls c = some b ∧ (b = true → Yes cls d σ H) ∧ (b = false → Wout cls d σ H))
    (yes : ∀ (a : Addr) (B : Heap) (cls : Value) (d : Option Addr) (σ1 : L2.St) (H1 : Hp) (h : Heap), HandSPX.FlyingZ B (X.env :: X.outer) a (Zc cls d) h → Yes cls d σ1 H1 → H1 a = none → PySem.W.exmOne X.K cls c = some true → X.K.In h →
      (∀ (h' : Heap) (oe : Obj), HandSPX.FlyingZ B (X.env :: X.outer) a (Zc cls d) h' → h.UpToSlots h' → Zc cls d oe → (∃ vs, oe.data = .fields vs) → h'.get? a = some oe → Inv (X.suite a ((a, oe) :: (X.pn ++ pins))) [] σ1 H1 { s with heap := h' }) →
      wpAny (model X.prog X.w) X.A (handleBy (.ref a) X.env [.ExceptHandler (some (.Name x np)) nm (fst :: rest) p2]) (SP X pins D) X.xe { s with heap := h })
    (xx : XE (X.tr (X.pn ++ pins) (Chain X [.ExceptHandler (some (.Name x np)) nm (fst :: rest) p2] pins D)) W u s) : Chain X [.ExceptHandler (some (.Name x np)) nm (fst :: rest) p2] pins D u s := by
  have af : X.A.frames = some (X.env :: X.outer) := ok.frames.trans (congrArg some st2)
  obtain ⟨a, B, s0, ps, σ1, H1, cls, d, rfl, I0, old, lift, air, un, eo, eg, w⟩ := xx
  have I := I0.ofTry ok
  refine Sky.land Zc.steady af fr2 (show Sky B (X.env :: X.outer) a (Zc cls d) X.env.locals s.heap from st2 ▸ air) fun h fl up => ?_
  have sui : ∀ (h' : Heap) (oe : Obj), HandSPX.FlyingZ B (X.env :: X.outer) a (Zc cls d) h' → h.UpToSlots h' → Zc cls d oe → (∃ vs, oe.data = .fields vs) → h'.get? a = some oe → Inv (X.suite a ((a, oe) :: (X.pn ++ pins))) [] σ1 H1 { s with heap := h' } := by
    rintro h' oe fl' up' hz ⟨vs, ed⟩ eg'
    have In := I.landed (s' := { s with heap := h' }) old fl'.1 ((lift.trans up).trans up') eo eg
    have off : a ∉ frs (X.env :: X.outer) := fun hm => by
      obtain ⟨_, o2, e2, no⟩ := fl'.2.2.1.mem hm
      exact no _ (Option.some.inj (e2.symm.trans eg') ▸ ed)
    refine In.suite eg' ed un (fun z => off ?_) fun hm => off ?_
    · exact List.mem_filterMap.mpr ⟨_, .head _, fr2.trans (congrArg some z.symm)⟩
    · obtain ⟨e2, m2, f2⟩ := List.mem_filterMap.mp hm
      exact List.mem_filterMap.mpr ⟨_, .tail _ m2, f2⟩
  obtain ⟨oe, vs, e1, hz, e2⟩ := fl.there
  have S := sui h oe fl (Heap.UpToSlots.refl _) hz ⟨vs, e2⟩ e1
  obtain ⟨b, hm, hy, hn⟩ := hW _ _ _ _ w
  cases b with
  | true => exact yes a B cls d σ1 H1 h fl (hy rfl) un hm S.kIn sui
  | false =>
    refine PX.clause_passZ (s := { s with heap := h }) (Z := Zc cls d) (B := B) (outer := X.outer) S.kIn (fun o z => z.1) fl hm (test_of hc S) ?_
    refine PX.no_clauseZ (s := { s with heap := h }) (Z := Zc cls d) (B := B) (outer := X.outer) fr2 fl fun h' held up' => tk _ _ ?_
    exact ⟨a, B, s0, pins, σ1, H1, cls, d, rfl, I, old, (lift.trans up).trans up', .inr (.inr (st2 ▸ held)), un, eo, eg, hn rfl⟩
theorem psn_try_as (st2 : X.stack = X.env :: X.outer) (fr2 : X.env.frame = some X.env.locals) (hN : X.N.Nodup) (hi : X.N[i]? = some y) (lc : X.env.kindOf y = some .local) (hc : Names X x c) (tk : Takes X Wout)
    (hb : ∀ (W : WX) (pn : List (Addr × Obj)) (xe : Value → Shared → Prop), Takes (X.tr pn xe) W → PassesOwn (model X.prog X.w) X.A X.env xe → PSsn n (X.tr pn xe) body (tb W))
    (hsu : ∀ (a : Addr) (oe : Obj) (cls : Value) (d : Option Addr) (pn : List (Addr × Obj)), Zc cls d oe → (∃ vs, oe.data = .fields vs) → PSs (X.suite a ((a, oe) :: pn)) (fst :: rest) (ts a cls d)) :
    PSn n X (.Try body [.ExceptHandler (some (.Name x np)) (some y) (fst :: rest) p2] [] [] pos) (fun D σ H => tb (wAs X.K c i ts Wout D) D σ H) := by
  refine ⟨fun pins s σ H D hn I h => wpAny_Try_except ?_⟩
  have ok := I.ok
  refine wpAny_mono ((hb (wAs X.K c i ts Wout D) (X.pn ++ pins) (Chain X [.ExceptHandler (some (.Name x np)) (some y) (fst :: rest) p2] pins D) (fun u s' xx => ?_) PassesOwn.looking).run [] s σ H D hn (I.toTry _) h) (fun f s1 z => ?_) fun _ _ z => z
  · refine chain1 (Yes := fun cls d σ1 H1 => ∀ a, H1 a = none → ts a cls d { nx := fun σ' H' => D.nx (σ'.set i none) H', rt := D.rt, bk := fun σ' H' => D.bk (σ'.set i none) H', ct := fun σ' H' => D.ct (σ'.set i none) H' } (σ1.set i (some (.ref a))) H1) st2 fr2 hc tk ok
      (fun cls d σ1 H1 w => w) (fun a B cls d σ1 H1 h fl w un hm kin sui => ?_) xx
    obtain ⟨oe, vs, e1, hz, e2⟩ := fl.there
    refine PX.clause_asZ (s := { s' with heap := h }) (Z := Zc cls d) (B := B) (outer := X.outer) kin (fun o z => z.1) fl hm (test_of hc (sui h oe fl (Heap.UpToSlots.refl _) hz ⟨vs, e2⟩ e1)) fun h' fl' up' => ?_
    obtain ⟨oe', vs', e1', hz', e2'⟩ := HandSPX.FlyingZ.there fl'
    have S := sui h' oe' fl' up' hz' ⟨vs', e2'⟩ e1'
    refine store_ok (X := X.suite a ((a, oe') :: (X.pn ++ pins))) (v := .ref a) S hN hi (.inl lc) rfl (fun t S' => ?_) (.inr lc)
    refine wpAny_mono ((hsu a oe' cls d (X.pn ++ pins) hz' ⟨_, e2'⟩).run [] t _ H1 _ S' (w a un)) (fun f t' z => ?_) fun _ _ z => z.elim
    match f, z with
    | .next, ⟨_, _, S6, q⟩ => exact gone_ok (S6.unsuite ok) hN hi lc fun _ J => ⟨_, _, J, q⟩
    | .brk, ⟨_, _, S6, q⟩ => exact gone_ok (S6.unsuite ok) hN hi lc fun _ J => ⟨_, _, J, q⟩
    | .cont, ⟨_, _, S6, q⟩ => exact gone_ok (S6.unsuite ok) hN hi lc fun _ J => ⟨_, _, J, q⟩
    | .ret _, ⟨_, _, _, S6, r, q⟩ => exact gone_ok (S6.unsuite ok) hN hi lc fun _ J => ⟨_, _, _, J, r, q⟩
  · match f, z with
    | .next, ⟨_, _, J, q⟩ => exact wpAny_execs_nil ⟨_, _, J.ofTry ok, q⟩
    | .brk, ⟨_, _, J, q⟩ => exact ⟨_, _, J.ofTry ok, q⟩
    | .cont, ⟨_, _, J, q⟩ => exact ⟨_, _, J.ofTry ok, q⟩
    | .ret _, ⟨_, _, _, J, r, q⟩ => exact ⟨_, _, _, J.ofTry ok, r, q⟩
end
end My
set_option Elab.async false
set_option linter.all false
set_option maxRecDepth 100000
set_option Elab.async false
set_option linter.all false
set_option maxRecDepth 100000
namespace My
open PySem PySem.Spec PyProof.Rows L2
def tCallS (sp : Sp) (W : WX) (t : TA) : TE := fun σ H Q => t σ H fun vs H1 => sp vs H1 Q (WE W σ)
section
variable {n k : Nat} {X : Cx} {ps : List Str} {sp : Sp} {x : Str} {p pos : Pos} {e : Expr} {es : List Expr} {t : TA} {W : WX}
theorem pen_fnS (D : FnTb n X.prog X.w X.K X.mg X.base (L2.CX X.prog X.w) k x ps sp) (hr : Room k X.A) (hg : Gl X x) (tk : Takes X W) (ha : PAn n X (e :: es) t)
    (hdb : (x == ("__debug__" : Str)) = false := by decide) (he : starEach (e :: es) X.env = (false, eval e X.env) :: starEach es X.env := by rfl) (hpl : (backTo pos (starEach es X.env)).any (·.1) = false := by rfl) :
    PEn n X (.Call (.Name x p) (e :: es) [] pos) (tCallS sp W t) := by
  obtain ⟨f, fd, hm, F, kp, b⟩ := D
  refine ⟨fun pins s σ H Q hn I h => wpAny_Call_Name_kw (ld_glob I hg hm ?_ hdb)⟩
  refine PySem.W.callWith_K (h₀ := X.base) I.ok.mod.kin kp (thnK hn (ha.run pos pins s σ H _ hn I h) fun us s1 hn1 hh => ?_) he hpl
  obtain ⟨vs, H1, I1, r, q⟩ := hh
  have hl : us.length = ps.length := r.length.symm.trans (F.len _ _ _ _ q)
  have hb := b s1 us I1.kIn (by rw [List.append_nil]; exact hl)
  rw [List.append_nil] at hb
  refine ⟨I1.kIn, wpAny_call (codeAny_mono (F.run X.A X.stack s1 H1 ⟨us, []⟩ us vs Q (WE W σ) hn1 hr I1.env0 hb r q) fun r s' hq => ?_)⟩
  match r, hq with
  | .error e, hq => exact passAt tk σ pins H1 s1 e s' I1 hq
  | .ok (.ret u), hq => exact I1.after hq
end
end My
set_option Elab.async false
set_option linter.all false
set_option maxRecDepth 100000
namespace My
open PySem PySem.Spec PyProof.Rows L2
theorem nsp_len (x : Str) : (noSpace x).length = ((letters x).filter (· != 32)).length := congrArg List.length (noSpace_cps x)
end My
set_option Elab.async false
set_option linter.all false
set_option maxRecDepth 100000
set_option maxHeartbeats 4000000
set_option Elab.async false
set_option linter.all false
set_option maxRecDepth 100000
set_option maxHeartbeats 4000000
namespace My
open PySem PySem.Spec PyProof.Rows L2
inductive Ex
  | nm (s : Str)
  | keys (a : Ex)
  | bin (w : Str) (a b : Ex)
namespace Ex
def d : Ex → PyData
  | nm s => .str s
  | keys a => .tuple [.str "keys", a.d]
  | bin w a b => .tuple [.str w, a.d, b.d]
def size : Ex → Nat
  | nm _ => 1
  | keys a => a.size + 1
  | bin _ a b => a.size + b.size + 1
def Ok : Ex → Prop
  | nm s => nameOk s = true
  | keys a => a.Ok
  | bin w a b => (w ∈ ops5 ∨ w = "look") ∧ a.Ok ∧ b.Ok
theorem tre : ∀ e : Ex, My.tre e.d = true
  | nm _ => rfl
  | keys a => by unfold d My.tre treAll treAll treAll; rw [tre a]; rfl
  | bin _ a b => by unfold d My.tre treAll treAll treAll treAll; rw [tre a, tre b]; rfl
def sum (es : List Ex) : Nat := (es.map size).sum
end Ex
theorem iteTS {c : Bool} {A B : Prop} (e : c = true) (h : A) : if c = true then A else B := by rw [if_pos e]; exact h
theorem iteFS {c : Bool} {A B : Prop} (e : c = false) (h : B) : if c = true then A else B := by rw [e, if_neg Bool.false_ne_true]; exact h
abbrev DE (K : PySem.W.Frag) (H : Hp) (v : V) (e : Ex) : Prop := Dp K H v e.d
abbrev DEs (K : PySem.W.Frag) (H : Hp) (vs : List V) (es : List Ex) : Prop := DpAll K H vs (es.map Ex.d)
theorem extT_de {K : PySem.W.Frag} {H H' : Hp} (x : ExtT H H') {v : V} {e : Ex} (h : DE K H v e) : DE K H' v e := extT_dp x _ _ (Ex.tre e) h
end My
set_option Elab.async false
set_option linter.all false
set_option maxRecDepth 100000
set_option maxHeartbeats 4000000
namespace My
open PySem PySem.Spec PyProof.Rows L2
def arity (w : Str) : Option Nat := if w ∈ ops5 ∨ w = "look" then some 2 else if w = "keys" then some 1 else none
theorem rI0_to {g : Int → Int → V} {i j : Int} {v : V} {H : Hp} {Q : VK} (e : g i j = v) (q : Q v H) : rI0 g (.int i) (.int j) H Q := ⟨i, j, rfl, rfl, e ▸ q⟩
theorem cut_up (xs : List V) {a : Nat} (h : a ≤ xs.length) : cutV xs (some (a : Int)) none = xs.drop a := by
  unfold cutV
  have e1 : HT.sIx xs.length 0 (some (a : Int)) = a := by
    rw [HT.sIx_nat]; omega
  have e2 : HT.sIx xs.length xs.length none = xs.length := rfl
  rw [e1, e2]
  exact List.take_of_length_le (by rw [List.length_drop]; omega)
section
variable {α : Type}
def ev (env : Str → Option α) (stp : Str → List α → Option α) : List Str → List α → Option (List α)
  | [], st => some st
  | w :: r, st => match arity w with
    | none => (env w).bind fun x => ev env stp r (st ++ [x])
    | some n => if n ≤ st.length then (stp w (st.drop (st.length - n))).bind fun y => ev env stp r (st.take (st.length - n) ++ [y]) else none
inductive All2 (R : V → α → Prop) : List V → List α → Prop
  | nil : All2 R [] []
  | cons {v : V} {x : α} {vs : List V} {xs : List α} : R v x → All2 R vs xs → All2 R (v :: vs) (x :: xs)
variable {R R' : V → α → Prop}
theorem All2.len : ∀ {vs : List V} {xs : List α}, All2 R vs xs → vs.length = xs.length
  | _, _, .nil => rfl
  | _, _, .cons _ h => congrArg (· + 1) h.len
theorem All2.app : ∀ {vs ws : List V} {xs ys : List α}, All2 R vs xs → All2 R ws ys → All2 R (vs ++ ws) (xs ++ ys)
  | _, _, _, _, .nil, g => g
  | _, _, _, _, .cons a h, g => .cons a (h.app g)
theorem All2.mono (f : ∀ v x, R v x → R' v x) : ∀ {vs : List V} {xs : List α}, All2 R vs xs → All2 R' vs xs
  | _, _, .nil => .nil
  | _, _, .cons a h => .cons (f _ _ a) (h.mono f)
theorem All2.take (n : Nat) : ∀ {vs : List V} {xs : List α}, All2 R vs xs → All2 R (vs.take n) (xs.take n) := by
  induction n with
  | zero => intro vs xs _; rw [List.take_zero, List.take_zero]; exact .nil
  | succ n ih =>
    intro vs xs h
    cases h with
    | nil => exact .nil
    | cons a h => exact .cons a (ih h)
theorem All2.drop (n : Nat) : ∀ {vs : List V} {xs : List α}, All2 R vs xs → All2 R (vs.drop n) (xs.drop n) := by
  induction n with
  | zero => intro vs xs h; exact h
  | succ n ih =>
    intro vs xs h
    cases h with
    | nil => exact .nil
    | cons a h => exact ih h
end
end My
set_option Elab.async false
set_option linter.all false
set_option maxRecDepth 100000
set_option maxHeartbeats 4000000
namespace My
open PySem PySem.Spec PyProof.Rows L2
abbrev Pt := Str × Nat
def lvl (w : Str) : Option Nat := if w = "|" then some 0 else if w = "^" then some 1 else if w = "&" then some 2 else if w = "-" then some 3 else if w = "@" then some 4 else none
theorem lvl_at {w : Str} {i : Nat} (h : lvl w = some i) : i < 5 ∧ ops5[i]? = some w := by
  unfold lvl at h
  repeat' split at h
  all_goals first | (cases h; subst_vars; exact ⟨by decide, rfl⟩) | cases h
theorem inV_ops (w : Str) : inV (V.str w) [V.str "|", .str "^", .str "&", .str "-", .str "@"] = (lvl w).isSome := by
  have e : inV (V.str w) [V.str "|", .str "^", .str "&", .str "-", .str "@"] = (("|" == w) || (("^" == w) || (("&" == w) || (("-" == w) || (("@" == w) || false))))) := rfl
  rw [e]
  unfold lvl
  have c : ∀ x : Str, (x == w) = decide (w = x) := fun x => by
    by_cases q : w = x
    · rw [q]; simp
    · rw [decide_eq_false q]
      exact beq_eq_false_iff_ne.mpr fun z => q z.symm
  rw [c, c, c, c, c]
  repeat' split
  all_goals simp_all
theorem ops5_inj {i j : Nat} {w : Str} (h : ops5[i]? = some w) (g : ops5[j]? = some w) : i = j := by
  have nd : ops5.Nodup := by decide
  obtain ⟨h1, h2⟩ := List.getElem?_eq_some_iff.mp h
  obtain ⟨g1, g2⟩ := List.getElem?_eq_some_iff.mp g
  exact (List.getElem_inj nd).mp (h2.trans g2.symm)
theorem join_le (sep : Str) : ∀ texts : List Str, (Txt.join sep texts).length ≤ (texts.map (·.length)).sum + texts.length * sep.length := by
  intro texts
  show (Builtin.Str.glued sep texts).length ≤ _
  rw [StrLaws.glued_eq_join]
  exact StrLaws.join_length_le sep texts
theorem join_eq (sep : Str) (texts : List Str) : Txt.join sep texts = Str.join sep texts := StrLaws.glued_eq_join sep texts
end My
set_option Elab.async false
set_option linter.all false
set_option maxRecDepth 100000
set_option maxHeartbeats 4000000
set_option Elab.async false
set_option linter.all false
set_option maxRecDepth 100000
set_option maxHeartbeats 4000000
namespace My
open PySem PySem.Spec PyProof.Rows L2
def Ex.In : Nat → Ex → Prop
  | _, .nm s => s ∈ (["a", "b", "key", "zzzz", "lo"] : List Str)
  | 0, _ => False
  | j + 1, .keys a => Ex.In j a
  | j + 1, .bin w a b => (w ∈ ops5 ∨ w = "look") ∧ Ex.In j a ∧ Ex.In j b
theorem ExtT.lstE {a : Addr} {H H' : Hp} {l : List V} (ha : H a = some (.lst l)) (e : Ext a H H') : ExtT H H' :=
  ⟨fun b xs h => e b _ (fun z => by rw [z, ha] at h; cases h) h, fun b o xs h => e b _ (fun z => by rw [z, ha] at h; cases h) h⟩
theorem But.ext {a : Addr} {H H' : Hp} (b : But a H H') : Ext a H H' := fun c o n e => (b c n).trans e
theorem Bag.extT {a : Addr} {H H' : Hp} {n : Nat} (h : Bag H a n) (e : Ext a H H') : ExtT H H' := by
  obtain ⟨x, y, z, q, _⟩ := h
  exact .lstE q e
def drawsE : Nat → Nat
  | 0 => 2
  | j + 1 => 3 + 2 * drawsE j
def spDrawn (K : PySem.W.Frag) (j : Nat) : Sp := fun vs H Q _ => ∃ (a : Addr) (n : Nat), vs = [.ref a, .int (j : Int)] ∧ Bag H a n ∧ n + drawsE j < 900000 ∧
  ∀ (v : V) (e : Ex) (H' : Hp) (n' : Nat), DE K H' v e → Ex.In j e → n' ≤ n + drawsE j → Bag H' a n' → Ext a H H' → Q v H'
end My
set_option Elab.async false
set_option linter.all false
set_option maxRecDepth 100000
set_option maxHeartbeats 4000000
namespace My
open PySem PySem.Spec PyProof.Rows L2
inductive Rd : Nat → Nat → Ex → List Str → Prop
  | nm {n l : Nat} {s : Str} (h : nameOk s = true) : Rd n l (.nm s) [s]
  | par {n l : Nat} {e : Ex} {ts : List Str} (h : Rd n 0 e ts) : Rd (n + 1) l e (oP :: (ts ++ [cP]))
  | keys {n l : Nat} {a : Ex} {ts : List Str} (h : Rd n 0 a ts) : Rd (n + 1) l (.keys a) (kW :: oP :: (ts ++ [cP]))
  | look {n l : Nat} {a b : Ex} {ta tb : List Str} (h : Rd n 0 a ta) (g : Rd n 0 b tb) : Rd (n + 1) l (.bin lW a b) (lW :: oP :: (ta ++ cM :: (tb ++ [cP])))
  | op {n l i : Nat} {w : Str} {a b : Ex} {ta tb : List Str} (hw : ops5[i]? = some w) (hl : l ≤ i) (h : Rd n i a ta) (g : Rd n (i + 1) b tb) : Rd n l (.bin w a b) (ta ++ w :: tb)
def Shut (l : Nat) (r : List Str) : Prop := ∀ i w, l ≤ i → ops5[i]? = some w → pTok w r = none
theorem Shut.mono {l m : Nat} {r : List Str} (h : Shut l r) (le : l ≤ m) : Shut m r := fun i w hi => h i w (Nat.le_trans le hi)
theorem op_at {l : Nat} {w : Str} (h : ops5[l]? = some w) : l < 5 ∧ opAt (5 - (l + 1)) = w := by
  have hl : l < 5 := (List.getElem?_eq_some_iff.mp h).1
  refine ⟨hl, ?_⟩
  have : l = 0 ∨ l = 1 ∨ l = 2 ∨ l = 3 ∨ l = 4 := by omega
  rcases this with rfl | rfl | rfl | rfl | rfl <;> cases h <;> rfl
theorem shut_closed {r : List Str} (h : Closed r) (l : Nat) : Shut l r := fun i w _ hw => (op_at hw).2 ▸ h (5 - (i + 1))
theorem shut_par (r : List Str) (l : Nat) : Shut l (cP :: r) := shut_closed (closed_par r) l
theorem shut_comma (r : List Str) (l : Nat) : Shut l (cM :: r) := shut_closed (closed_comma r) l
theorem shut_nil (l : Nat) : Shut l [] := fun _ _ _ _ => rfl
theorem shut_op {i : Nat} {w : Str} (hw : ops5[i]? = some w) (r : List Str) : Shut (i + 1) (w :: r) := fun j v hj hv => by
  show (if w = v then some r else none) = none
  refine if_neg fun e => ?_
  have : i = j := ops5_inj hw (e ▸ hv)
  omega
abbrev Pl (n l : Nat) : Ps := pLev (pSingle (pIn n)) (5 - l)
def AtL (n l : Nat) (e : Ex) (ts : List Str) : Prop := ∀ r, Shut l r → Pl n l (ts ++ r) = some (e.d, r)
def LoopL (n l : Nat) (e : Ex) (ts : List Str) : Prop := ∀ w r, ops5[l]? = some w → Shut (l + 1) r → Pl n l (ts ++ r) = pLoop w (Pl n (l + 1)) r.length e.d r
theorem loopL_of {n l : Nat} {e : Ex} {ts : List Str} (h : AtL n (l + 1) e ts) : LoopL n l e ts := fun w r hw hr => by
  obtain ⟨hl, ho⟩ := op_at hw
  show pLev (pSingle (pIn n)) (5 - l) (ts ++ r) = _
  have e5 : 5 - l = (5 - (l + 1)) + 1 := by omega
  rw [e5, lev_go (h r hr), ho]
theorem atL_of {n l : Nat} {e : Ex} {ts : List Str} (hl : l < 5) (h : LoopL n l e ts) : AtL n l e ts := fun r hr => by
  have hw : ops5[l]? = some (ops5[l]'(by exact hl)) := List.getElem?_eq_getElem _
  rw [h _ r hw (hr.mono (Nat.le_succ l)), loop_no (hr l _ (Nat.le_refl l) hw)]
theorem downL {n : Nat} {e : Ex} {ts : List Str} {l : Nat} (hl : l ≤ 5) (h : AtL n l e ts) : ∀ k, k ≤ l → AtL n k e ts := by
  intro k hk
  induction l with
  | zero => obtain rfl := Nat.le_zero.mp hk; exact h
  | succ l ih =>
    rcases Nat.lt_or_ge k (l + 1) with q | q
    · exact ih (by omega) (atL_of (by omega) (loopL_of h)) (by omega)
    · have : k = l + 1 := by omega
      subst this; exact h
theorem loop_fuel {op : Str} {sub : Ps} (hs : Less sub) : ∀ (k m : Nat) (l : PyData) (r : List Str), r.length ≤ k → r.length ≤ m → pLoop op sub k l r = pLoop op sub m l r := by
  intro k
  induction k with
  | zero =>
    intro m l r hk hm
    have e : r = [] := List.length_eq_zero_iff.mp (Nat.le_zero.mp hk)
    subst e
    rw [loop_no (n := 0) rfl, loop_no (n := m) rfl]
  | succ k ih =>
    intro m l r hk hm
    cases ht : pTok op r with
    | none => rw [loop_no ht, loop_no ht]
    | some q =>
      have lq := tok_len ht
      obtain ⟨m', rfl⟩ : ∃ m', m = m' + 1 := ⟨m - 1, by omega⟩
      cases hq : sub q with
      | none => rw [loop_none ht hq, loop_none ht hq]
      | some p =>
        obtain ⟨d, r2⟩ := p
        have l2 := hs _ _ _ hq
        rw [loop_go ht hq, loop_go ht hq]
        exact ih m' _ r2 (by omega) (by omega)
theorem loopL_op {n i : Nat} {w : Str} {a b : Ex} {ta tb : List Str} (hw : ops5[i]? = some w) (h : LoopL n i a ta) (g : AtL n (i + 1) b tb) : LoopL n i (.bin w a b) (ta ++ w :: tb) := fun v r hv hr => by
  have e : v = w := Option.some.inj (hv.symm.trans hw)
  subst e
  have less : Less (Pl n (i + 1)) := less_lev (less_single (less_in n)) (5 - (i + 1))
  rw [List.append_assoc, List.cons_append, h v (v :: (tb ++ r)) hv (shut_op hv _), List.length_cons, loop_go (tok_self _ _) (g r hr)]
  exact loop_fuel less _ _ _ _ (by rw [List.length_append]; omega) (Nat.le_refl _)
theorem rd_reads {n l : Nat} {e : Ex} {ts : List Str} (h : Rd n l e ts) : ∀ k, k ≤ l → l ≤ 5 → AtL n k e ts ∧ (k < 5 → LoopL n k e ts) := by
  have fin : ∀ {n l : Nat} {e : Ex} {ts : List Str}, (∀ r, pSingle (pIn n) (ts ++ r) = some (e.d, r)) → ∀ k, k ≤ l → l ≤ 5 → AtL n k e ts ∧ (k < 5 → LoopL n k e ts) := by
    intro n l e ts hs k hk hl
    have a5 : AtL n 5 e ts := fun r _ => hs r
    have d := downL (Nat.le_refl 5) a5
    exact ⟨d k (by omega), fun h5 => loopL_of (d (k + 1) (by omega))⟩
  induction h with
  | nm h => exact fin fun r => sg_name h
  | @par n l e ts h ih =>
    refine fin fun r => ?_
    have hd := (ih 0 (Nat.le_refl 0) (by decide)).1 (cP :: r) (shut_par r 0)
    rw [show oP :: (ts ++ [cP]) ++ r = oP :: (ts ++ cP :: r) by simp only [List.cons_append, List.append_assoc, List.nil_append]]
    rw [sg_par (ts := oP :: (ts ++ cP :: r)) no_par par_k par_l]
    exact p1_d (tok_self _ _) hd (tok_self _ _)
  | @keys n l a ts h ih =>
    refine fin fun r => ?_
    have hd := (ih 0 (Nat.le_refl 0) (by decide)).1 (cP :: r) (shut_par r 0)
    rw [show kW :: oP :: (ts ++ [cP]) ++ r = kW :: (oP :: (ts ++ cP :: r)) by simp only [List.cons_append, List.append_assoc, List.nil_append]]
    exact sg_keys1 (p1_d (tok_self _ _) hd (tok_self _ _))
  | @look n l a b ta tb h g ih1 ih2 =>
    refine fin fun r => ?_
    have hd1 := (ih1 0 (Nat.le_refl 0) (by decide)).1 (cM :: (tb ++ cP :: r)) (shut_comma _ 0)
    have hd2 := (ih2 0 (Nat.le_refl 0) (by decide)).1 (cP :: r) (shut_par r 0)
    rw [show lW :: oP :: (ta ++ cM :: (tb ++ [cP])) ++ r = lW :: (oP :: (ta ++ cM :: (tb ++ cP :: r))) by simp only [List.cons_append, List.append_assoc, List.nil_append]]
    exact sg_look1 (p2_f (tok_self _ _) hd1 (tok_self _ _) hd2 (tok_self _ _))
  | @op n l i w a b ta tb hw hl h g ih1 ih2 =>
    intro k hk h5
    obtain ⟨hi, _⟩ := op_at hw
    have lo := loopL_op hw ((ih1 i (Nat.le_refl i) (by omega)).2 hi) (ih2 (i + 1) (Nat.le_refl _) (by omega)).1
    have at_ := atL_of hi lo
    refine ⟨downL (by omega) at_ k (by omega), fun hk5 => ?_⟩
    rcases Nat.lt_or_ge k i with q | q
    · exact loopL_of (downL (by omega) at_ (k + 1) (by omega))
    · have : k = i := by omega
      subst this; exact lo
theorem rd_pE {e : Ex} {ts : List Str} (h : Rd 8 0 e ts) : pE ts = some e.d := by
  have := (rd_reads h 0 (Nat.le_refl 0) (by decide)).1 [] (shut_nil 0)
  rw [List.append_nil] at this
  exact pE_some this
end My
set_option Elab.async false
set_option linter.all false
set_option maxRecDepth 100000
set_option maxHeartbeats 4000000
namespace My
open PySem PySem.Spec PyProof.Rows L2
def levE : Ex → Nat
  | .nm _ => 5
  | .keys _ => 5
  | .bin w _ _ => (lvl w).getD 5
inductive Dk : Nat → Nat → Ex → List Str → Prop
  | nm {l : Nat} {s : Str} (h : nameOk s = true) : Dk 0 l (.nm s) [s]
  | par {d l : Nat} {e : Ex} {ts : List Str} (h : Dk d 0 e ts) : Dk (d + 1) l e (oP :: (ts ++ [cP]))
  | keys {d l : Nat} {a : Ex} {ts : List Str} (h : Dk d 0 a ts) : Dk (d + 1) l (.keys a) (kW :: oP :: (ts ++ [cP]))
  | look {d d2 l : Nat} {a b : Ex} {ta tb : List Str} (h : Dk d 0 a ta) (g : Dk d2 0 b tb) : Dk (max d d2 + 1) l (.bin lW a b) (lW :: oP :: (ta ++ cM :: (tb ++ [cP])))
  | op {d d2 l i : Nat} {w : Str} {a b : Ex} {ta tb : List Str} (hw : ops5[i]? = some w) (hl : l ≤ i) (h : Dk d i a ta) (g : Dk d2 (i + 1) b tb) : Dk (max d d2) l (.bin w a b) (ta ++ w :: tb)
theorem Dk.low {d l k : Nat} {e : Ex} {ts : List Str} (h : Dk d l e ts) (hk : k ≤ l) : Dk d k e ts := by
  cases h with
  | nm h => exact .nm h
  | par h => exact .par h
  | keys h => exact .keys h
  | look h g => exact .look h g
  | op hw hl h g => exact .op hw (Nat.le_trans hk hl) h g
theorem Dk.rd {d l : Nat} {e : Ex} {ts : List Str} (h : Dk d l e ts) : ∀ n, d ≤ n → Rd n l e ts := by
  induction h with
  | nm h => exact fun n _ => .nm h
  | par h ih => intro n hn; obtain ⟨m, rfl⟩ : ∃ m, n = m + 1 := ⟨n - 1, by omega⟩; exact .par (ih m (by omega))
  | keys h ih => intro n hn; obtain ⟨m, rfl⟩ : ∃ m, n = m + 1 := ⟨n - 1, by omega⟩; exact .keys (ih m (by omega))
  | look h g ih1 ih2 => intro n hn; obtain ⟨m, rfl⟩ : ∃ m, n = m + 1 := ⟨n - 1, by omega⟩; exact .look (ih1 m (by omega)) (ih2 m (by omega))
  | op hw hl h g ih1 ih2 => intro n hn; exact .op hw hl (ih1 n (by omega)) (ih2 n (by omega))
def opF (p : Int × Int) (t : Str) : Int × Int :=
  let d := p.1 + (if t = oP then 1 else 0) - (if t = cP then 1 else 0)
  (d, max p.2 d)
theorem opF_no {t : Str} (h1 : t ≠ oP) (h2 : t ≠ cP) (p : Int × Int) (hp : p.1 ≤ p.2) : opF p t = p := by
  obtain ⟨d, m⟩ := p
  unfold opF
  simp only [if_neg h1, if_neg h2]
  have e : d + 0 - 0 = d := by omega
  rw [e]
  have : max m d = m := by omega
  rw [this]
theorem Dk.open_ {d l : Nat} {e : Ex} {ts : List Str} (h : Dk d l e ts) : ∀ p : Int × Int, p.1 ≤ p.2 → ts.foldl opF p = (p.1, max p.2 (p.1 + d)) := by
  have par : ∀ {d : Nat} {ts : List Str}, (∀ p : Int × Int, p.1 ≤ p.2 → ts.foldl opF p = (p.1, max p.2 (p.1 + d))) → ∀ p : Int × Int, p.1 ≤ p.2 → (oP :: (ts ++ [cP])).foldl opF p = (p.1, max p.2 (p.1 + ((d + 1 : Nat) : Int))) := by
    intro d ts ih p hp
    obtain ⟨a, m⟩ := p
    rw [List.foldl_cons, List.foldl_append]
    have e1 : opF (a, m) oP = (a + 1, max m (a + 1)) := by
      unfold opF
      rw [if_pos rfl, if_neg (show oP ≠ cP by decide)]
      simp
    rw [e1, ih _ (by show a + 1 ≤ max m (a + 1); omega)]
    show opF (a + 1, max (max m (a + 1)) (a + 1 + d)) cP = _
    unfold opF
    rw [if_neg (show cP ≠ oP by decide), if_pos rfl]
    have e2 : a + 1 + 0 - 1 = a := by omega
    simp only [e2]
    refine Prod.ext rfl ?_
    show max (max (max m (a + 1)) (a + 1 + (d : Int))) a = max m (a + ((d + 1 : Nat) : Int))
    omega
  induction h with
  | @nm l s h =>
    intro p hp
    have n1 : s ≠ oP := fun z => by rw [z, no_par] at h; cases h
    have n2 : s ≠ cP := fun z => by rw [z, show nameOk cP = false from by decide +kernel] at h; cases h
    show opF p s = _
    rw [opF_no n1 n2 p hp]
    obtain ⟨a, m⟩ := p
    refine Prod.ext rfl ?_
    show m = max m (a + ((0 : Nat) : Int))
    have : a ≤ m := hp
    omega
  | par h ih => exact par ih
  | keys h ih =>
    intro p hp
    rw [List.foldl_cons, opF_no (by decide) (by decide) p hp]
    exact par ih p hp
  | @look d d2 l a b ta tb h g ih1 ih2 =>
    intro p hp
    rw [List.foldl_cons, opF_no (by decide) (by decide) p hp]
    have e : oP :: (ta ++ cM :: (tb ++ [cP])) = oP :: ((ta ++ cM :: tb) ++ [cP]) := by simp
    rw [e]
    refine par (d := max d d2) (fun q hq => ?_) p hp
    rw [List.foldl_append, List.foldl_cons, ih1 q hq, opF_no (by decide) (by decide) _ (by show q.1 ≤ max q.2 (q.1 + d); omega), ih2 _ (by show q.1 ≤ max q.2 (q.1 + d); omega)]
    refine Prod.ext rfl ?_
    show max (max q.2 (q.1 + (d : Int))) (q.1 + (d2 : Int)) = max q.2 (q.1 + ((max d d2 : Nat) : Int))
    omega
  | @op d d2 l i w a b ta tb hw hl h g ih1 ih2 =>
    intro p hp
    have nw : ∀ w ∈ ops5, w ≠ oP ∧ w ≠ cP := by decide
    obtain ⟨n1, n2⟩ := nw w (List.mem_of_getElem? hw)
    rw [List.foldl_append, List.foldl_cons, ih1 p hp, opF_no n1 n2 _ (by show p.1 ≤ max p.2 (p.1 + d); omega), ih2 _ (by show p.1 ≤ max p.2 (p.1 + d); omega)]
    refine Prod.ext rfl ?_
    show max (max p.2 (p.1 + (d : Int))) (p.1 + (d2 : Int)) = max p.2 (p.1 + ((max d d2 : Nat) : Int))
    omega
def sgnT (t : Str) : Bool := decide (t ∈ signsOf)
def adj : List Str → Bool
  | [] => true
  | [_] => true
  | x :: y :: r => (sgnT x || sgnT y) && adj (y :: r)
theorem adj_mid {s : Str} (hs : sgnT s = true) : ∀ {ta tb : List Str}, adj ta = true → adj tb = true → adj (ta ++ s :: tb) = true
  | [], [], _, _ => rfl
  | [], y :: r, _, h => by show ((sgnT s || sgnT y) && adj (y :: r)) = true; rw [hs, h]; rfl
  | [x], tb, _, h => by
    show ((sgnT x || sgnT s) && adj (s :: tb)) = true
    rw [hs, Bool.or_true, Bool.true_and]
    exact adj_mid hs (ta := []) rfl h
  | x :: y :: r, tb, g, h => by
    have g : ((sgnT x || sgnT y) && adj (y :: r)) = true := g
    rw [Bool.and_eq_true] at g
    show ((sgnT x || sgnT y) && adj (y :: (r ++ s :: tb))) = true
    rw [g.1, Bool.true_and]
    exact adj_mid hs (ta := y :: r) g.2 h
def tokOk (t : Str) : Prop := sgnT t = true ∨ nameOk t = true ∨ t = kW ∨ t = lW
theorem Dk.toks {d l : Nat} {e : Ex} {ts : List Str} (h : Dk d l e ts) : adj ts = true ∧ ∀ t ∈ ts, tokOk t := by
  have so : sgnT oP = true := by decide
  have sc : sgnT cP = true := by decide
  have sm : sgnT cM = true := by decide
  have par : ∀ {ts : List Str}, adj ts = true → adj (oP :: (ts ++ [cP])) = true := fun {ts} h => adj_mid so (ta := []) rfl (adj_mid sc h (tb := []) rfl)
  induction h with
  | nm h => exact ⟨rfl, fun t ht => by rw [List.mem_singleton.mp ht]; exact .inr (.inl h)⟩
  | par h ih =>
    refine ⟨par ih.1, fun t ht => ?_⟩
    rcases List.mem_cons.mp ht with rfl | ht
    · exact .inl so
    · rcases List.mem_append.mp ht with q | q
      · exact ih.2 t q
      · rw [List.mem_singleton.mp q]; exact .inl sc
  | @keys d l a ts h ih =>
    refine ⟨adj_mid so (ta := [kW]) rfl (adj_mid sc ih.1 (tb := []) rfl), fun t ht => ?_⟩
    rcases List.mem_cons.mp ht with rfl | ht
    · exact .inr (.inr (.inl rfl))
    · rcases List.mem_cons.mp ht with rfl | ht
      · exact .inl so
      · rcases List.mem_append.mp ht with q | q
        · exact ih.2 t q
        · rw [List.mem_singleton.mp q]; exact .inl sc
  | @look d d2 l a b ta tb h g ih1 ih2 =>
    refine ⟨adj_mid so (ta := [lW]) rfl (adj_mid sm ih1.1 (adj_mid sc ih2.1 (tb := []) rfl)), fun t ht => ?_⟩
    rcases List.mem_cons.mp ht with rfl | ht
    · exact .inr (.inr (.inr rfl))
    · rcases List.mem_cons.mp ht with rfl | ht
      · exact .inl so
      · rcases List.mem_append.mp ht with q | q
        · exact ih1.2 t q
        · rcases List.mem_cons.mp q with rfl | q
          · exact .inl sm
          · rcases List.mem_append.mp q with q | q
            · exact ih2.2 t q
            · rw [List.mem_singleton.mp q]; exact .inl sc
  | @op d d2 l i w a b ta tb hw hl h g ih1 ih2 =>
    have sw : ∀ w ∈ ops5, sgnT w = true := by decide
    have sw := sw w (List.mem_of_getElem? hw)
    refine ⟨adj_mid sw ih1.1 ih2.1, fun t ht => ?_⟩
    rcases List.mem_append.mp ht with q | q
    · exact ih1.2 t q
    · rcases List.mem_cons.mp q with rfl | q
      · exact .inl sw
      · exact ih2.2 t q
inductive SpT : List Str → List Nat → Prop
  | nil (k : Nat) : SpT [] (List.replicate k 32)
  | cons (k : Nat) (t : Str) {ts : List Str} {T : List Nat} (h : SpT ts T) : SpT (t :: ts) (List.replicate k 32 ++ (letters t ++ T))
theorem sgn_letters {t : Str} (h : sgnT t = true) : ∃ c, letters t = [c] ∧ c ∈ signL := by
  have : ∀ t ∈ signsOf, ∃ c ∈ signL, letters t = [c] := by decide +kernel
  obtain ⟨c, h1, h2⟩ := this t (of_decide_eq_true h)
  exact ⟨c, h2, h1⟩
theorem abc_wordly : ∀ c ∈ abc.cps.toList, c ≠ 32 ∧ c ∉ signL ∧ c < 128 := by decide +kernel
theorem tok_ascii {t : Str} (h : tokOk t) : ∀ c ∈ letters t, c < 128 := by
  rcases h with h | h | rfl | rfl
  · have : ∀ t ∈ signsOf, ∀ c ∈ letters t, c < 128 := by decide +kernel
    exact this t (of_decide_eq_true h)
  · unfold nameOk at h
    rw [Bool.and_eq_true] at h
    intro c hc
    have := List.all_eq_true.mp h.2 c hc
    exact (abc_wordly c (of_decide_eq_true this)).2.2
  · decide +kernel
  · decide +kernel
theorem tok_len4 {t : Str} (h : tokOk t) : 1 ≤ t.length ∧ t.length ≤ 4 := by
  rcases h with h | h | rfl | rfl
  · have : ∀ t ∈ signsOf, 1 ≤ t.length ∧ t.length ≤ 4 := by decide +kernel
    exact this t (of_decide_eq_true h)
  · unfold nameOk at h
    rw [Bool.and_eq_true, Bool.and_eq_true] at h
    exact of_decide_eq_true h.1.1
  · decide +kernel
  · decide +kernel
def total (ts : List Str) : Nat := (ts.map (·.length)).sum
theorem SpT.ascii {ts : List Str} {T : List Nat} (h : SpT ts T) (ht : ∀ t ∈ ts, tokOk t) : ∀ c ∈ T, c < 128 := by
  induction h with
  | nil k => intro c hc; rw [List.eq_of_mem_replicate hc]; decide
  | @cons k t ts T h ih =>
    intro c hc
    rcases List.mem_append.mp hc with q | q
    · rw [List.eq_of_mem_replicate q]; decide
    · rcases List.mem_append.mp q with q | q
      · exact tok_ascii (ht t List.mem_cons_self) c q
      · exact ih (fun u hu => ht u (List.mem_cons_of_mem _ hu)) c q
end My
set_option Elab.async false
set_option linter.all false
set_option maxRecDepth 100000
set_option maxHeartbeats 4000000
namespace My
open PySem PySem.Spec PyProof.Rows L2
def argT (l : Nat) (e : Ex) (ts : List Str) : List Str := if levE e < l then oP :: (ts ++ [cP]) else ts
theorem sqT_extT {K : PySem.W.Frag} {H H' : Hp} (x : ExtT H H') {a : Addr} {xs : List V} (h : SqT K H a xs) : SqT K H' a xs := by
  rcases h with (h | ⟨o, h⟩) | h
  · exact .inl (.inl (x.1 _ _ h))
  · exact .inl (.inr ⟨o, x.2 _ _ _ h⟩)
  · exact .inr h
def szB : Nat → Nat
  | 0 => 1
  | j + 1 => 2 * szB j + 1
theorem szB_pos : ∀ j, 1 ≤ szB j
  | 0 => Nat.le_refl _
  | j + 1 => by have := szB_pos j; show 1 ≤ 2 * szB j + 1; omega
theorem Ex.In.size : ∀ {j : Nat} {e : Ex}, Ex.In j e → e.size ≤ szB j
  | j, .nm _, _ => szB_pos j
  | 0, .keys _, h => h.elim
  | 0, .bin _ _ _, h => h.elim
  | j + 1, .keys a, h => by
    have := Ex.In.size (j := j) (e := a) h
    show a.size + 1 ≤ 2 * szB j + 1
    omega
  | j + 1, .bin w a b, h => by
    have h1 := Ex.In.size (j := j) (e := a) h.2.1
    have h2 := Ex.In.size (j := j) (e := b) h.2.2
    show a.size + b.size + 1 ≤ 2 * szB j + 1
    omega
theorem name_in {s : Str} (h : s ∈ (["a", "b", "key", "zzzz", "lo"] : List Str)) : nameOk s = true := by
  have : ∀ s ∈ (["a", "b", "key", "zzzz", "lo"] : List Str), nameOk s = true := by decide +kernel
  exact this s h
theorem Ex.In.ok : ∀ {j : Nat} {e : Ex}, Ex.In j e → e.Ok
  | 0, .nm _, h => name_in h
  | _ + 1, .nm _, h => name_in h
  | 0, .keys _, h => h.elim
  | 0, .bin _ _ _, h => h.elim
  | j + 1, .keys a, h => Ex.In.ok (j := j) (e := a) h
  | j + 1, .bin w a b, h => ⟨h.1, Ex.In.ok (j := j) (e := a) h.2.1, Ex.In.ok (j := j) (e := b) h.2.2⟩
theorem set_same {α : Type} : ∀ {l : List α} {i : Nat} {x : α}, l[i]? = some x → l.set i x = l
  | [], _, _, h => by cases h
  | y :: l, 0, x, h => by cases h; rfl
  | y :: l, i + 1, x, h => by rw [List.set_cons_succ, set_same (by simpa using h)]
end My
set_option Elab.async false
set_option linter.all false
set_option maxRecDepth 100000
set_option maxHeartbeats 4000000
namespace My
open PySem PySem.Spec PyProof.Rows L2
theorem take_end {α : Type} {l : List α} {i : Nat} {x : α} (h : l[i]? = some x) : l.take (i + 1) = l.take i ++ [x] := by rw [List.take_add_one, h]; rfl
end My
set_option Elab.async false
set_option linter.all false
set_option maxRecDepth 100000
namespace My
open PySem PySem.Spec PyProof.Rows L2
structure FnTG (n : Nat) (P : Program) (w : World) (K : PySem.W.Frag) (mg : Str → Option Value) (base : Heap) (CX : CXT) (k : Nat) (f : Addr) (fd : FuncData) (ps : List Str) (sp : Sp) : Prop where
  len : ∀ vs H Q E, sp vs H Q E → vs.length = ps.length
  run : ∀ (A : Around) (outer : List Env) (s : Shared) (H : Hp) (args : Args) (us : List Value) (vs : List V) (Q : VK) (E : XK), n ≤ s.toks → A.guards = some [] → Room k A → Env0 P w K mg base A outer s H → BindsTo s fd args (ps.zip us) → Vals vs us → sp vs H Q E →
    codeAny (model P w) A (.call (.ref f) args) (CR CX outer P w H s Q E) s
section
variable {n : Nat} {P : Program} {w : World} {K : PySem.W.Frag} {mg : Str → Option Value} {base : Heap}
theorem fnTG_of {CX : CXT} {x qual : Str} {st : Stmt} {f : Addr} {fd : FuncData} {N ps : List Str} {k : Nat} {sp : Sp} (F : Fun K x qual st f fd) (S : FnScope N ps (defScope st)) (len : ∀ vs H Q E, sp vs H Q E → vs.length = ps.length)
    (hbody : ∀ (cdv : Value) (A : Around) (outer : List Env) (s : Shared) (H : Hp) (vs : List V) (Q : VK) (E : XK), (A.deeper (envOfC qual (defScope st) s.heap.objs.size f cdv)).guards = some [] → Room k (A.deeper (envOfC qual (defScope st) s.heap.objs.size f cdv)) → sp vs H Q E →
      ∃ t, PSsn n (cxOf CX P w K mg base N qual (defScope st) f cdv A outer s H E) (defBody st) t ∧ t { nx := fun _ H' => Q .non H', rt := Q } (start N vs) H) : FnTG n P w K mg base CX (k + 1) f fd ps sp := by
  obtain ⟨oc, od, kV, doc, pm, an, cdv, ct, osl, rfl, lk, hcd⟩ := F.ex
  refine ⟨len, fun A outer s H args us vs Q E hn hgd hr e0 hb r hsp => ?_⟩
  have KX : K.In s.heap := e0.mod.kin.keeps fun b o e => (e0.bs b o e).1
  have lim : s.heap.NoLimit := e0.mod.nolimit.keeps fun b o e => (e0.bs b o e).1
  have hkind : ∀ y ∈ ps.zip us, (defScope st).names.lookup y.1 = some .local ∨ ((defScope st).names.lookup y.1 = some .cell ∧ ((cellsFrom (s.heap.objs.size + 1) (defScope st).names []).lookup y.1).isSome = true) := by
    rintro ⟨m, v⟩ hy
    rcases S.par m (List.of_mem_zip hy).1 with q | q
    · exact .inl q
    · exact .inr ⟨q, PySem.W.cellsFrom_some _ _ _ (.inl q)⟩
  refine codeAny_call_function hr.depth (KX _ _ lk) rfl S.co S.gen rfl (PySem.W.codeRec_of KX hcd) (hb _ _ _ _ ?_)
  refine PySem.wpAny_with_toks hn (wpAny_newFunctionEnv_cells S.kind hkind fun env he s1 x hn1 => ?_)
  subst he
  refine ⟨lim.keeps x.toInCall.keep, codeAny_func ?_⟩
  obtain ⟨t, ht, hq⟩ := hbody cdv A outer s H vs Q E (deeper_guards A _ hgd) (hr.deeper _) hsp
  have I := inv_start (CX := CX) (E := E) S hr.hd e0 (len _ _ _ _ hsp) r x
  refine wpAny_mono (ht.run [] s1 (start N vs) H _ hn1 I hq) (fun fl s' hs => ?_) fun e s' hs => hs
  match fl, hs with
  | .ret u, ⟨v, σ', H', J, rv, q⟩ => exact ⟨v, H', J.os, J.bare, J.base, J.hok, rv, q⟩
  | .next, ⟨σ', H', J, q⟩ => exact ⟨.non, H', J.os, J.bare, J.base, J.hok, rfl, q⟩
  | .brk, ⟨_, _, _, q⟩ => exact q.elim
  | .cont, ⟨_, _, _, q⟩ => exact q.elim
end
section
variable {P : Program} {w : World} {K : PySem.W.Frag}
theorem callTG {n : Nat} {mg mb : Str → Option Value} {CX : CXT} {k : Nat} {fa a : Addr} {fd : FuncData} {x : Str} {sp : Sp}
    {s : Shared} {vs : List Value} {ns : List Int}
    (hn : n ≤ s.toks) (KX : K.In s.heap) (h1 : s.heap.Ns mainGlobals mg) (h2 : s.heap.Ns builtinsNs mb)
    (h3 : ∀ x : Str, x ≠ "__name__" → mb x = bootBuiltins x) (h4 : s.heap.NoLimit) (h5 : s.gens = #[])
    (ha : s.heap.get? a = some { cls := .type "list", data := .seq vs.toArray }) (hi : IntsAre vs ns)
    (hl : ns.length ≤ sizeLine) (hr : Room k callerA)
    (F : ∀ base : Heap, K.In base → base.Ns mainGlobals mg → FnTG n P w K mg base CX k fa fd [x] sp)
    (hb : ∀ (s : Shared) (u : Value), BindsTo s fd ⟨[u], []⟩ [(x, u)])
    (hsp : ∀ H : Hp, Only H → SqL K H a (ns.map V.int) → sp [.ref a] H (fun v _ => v = .bl true) fun _ _ _ => False)
    (hCX : ∀ H e s', CX [] H s (fun _ _ _ => False) e s' → False) :
    codeAny (model P w) callerA (.call (.ref fa) ⟨[.ref a], []⟩)
      (fun r s' => r = .ok (.ret (.bool true)) ∧ OldK s.heap s'.heap ∧ s'.os = s.os ∧ AllBare s'.gens) s := by
  have rv := vals_ints hi
  have main : ∀ H : Hp, Only H → SqL K H a (ns.map V.int) → HOk P w H s.heap →
      (∀ b u, H b = some u → b = a ∧ K.lookup a = none) →
      codeAny (model P w) callerA (.call (.ref fa) ⟨[.ref a], []⟩)
        (fun r s' => r = .ok (.ret (.bool true)) ∧ OldK s.heap s'.heap ∧ s'.os = s.os ∧ AllBare s'.gens) s := by
    intro H hO hS hok hA
    have isL : ∀ {b : Addr} {o : Obj} {u : HO}, s.heap.get? b = some o → H b = some u →
        o = { cls := .type "list", data := .seq vs.toArray } := by
      intro b o u e q
      obtain rfl := (hA b u q).1
      exact Option.some.inj (e.symm.trans ha)
    have up : ∀ {b : Addr} {o : Obj} {es : Array DictEntry} {n : Nat}, s.heap.get? b = some o →
        o.data = .dict es n → (hidT s.heap H).get? b = some o := by
      intro b o es n e d
      refine hidT_get e ?_
      cases q : H b with
      | none => rfl
      | some u => rw [isL e q] at d; cases d
    have upN : ∀ {b : Addr} {m : Str → Option Value}, s.heap.Ns b m → (hidT s.heap H).Ns b m := by
      rintro b m ⟨o, es, n, e, d, r⟩
      exact ⟨o, es, n, up e d, d, r⟩
    have KH : K.In (hidT s.heap H) := by
      intro b o e
      refine hidT_get (KX b o e) ?_
      cases q : H b with
      | none => rfl
      | some u =>
        obtain ⟨rfl, z⟩ := hA b u q
        rw [z] at e; cases e
    have M : Mod K mg (hidT s.heap H) := by
      refine ⟨KH, upN h1, ⟨mb, upN h2, h3⟩, ?_⟩
      obtain ⟨mc, l1, l2⟩ := h4
      exact ⟨mc, upN l1, l2⟩
    have e0 : Env0 P w K mg (hidT s.heap H) callerA [] s H :=
      { frames := rfl, mod := M, bs := fun b o e => of_hidT e, bsz := Nat.le_of_eq (hidT_size _ _)
        funs := trivial, frf := fun b z => absurd z (List.not_mem_nil), hok := hok, bare := .of_eq h5 }
    have run := (F _ KH (upN h1)).run callerA [] s H ⟨[.ref a], []⟩ [.ref a] [.ref a] _ _
      hn rfl hr e0 (hb s (.ref a)) (.cons rfl .nil) (hsp H hO hS)
    refine codeAny_mono run ?_
    intro r s' h
    match r, h with
    | .error e, h => exact (hCX H e s' h).elim
    | .ok .next, h => exact h.elim
    | .ok .brk, h => exact h.elim
    | .ok .cont, h => exact h.elim
    | .ok (.ret u), h =>
      obtain ⟨v, H', os, bare, un, hok', r', q⟩ := h
      obtain rfl : v = .bl true := q
      obtain rfl : u = Value.bool true := r'
      refine ⟨rfl, OldK.of_keep ?_, os, bare⟩
      intro b o e
      cases q : H b with
      | none => exact un.keep b o e q (fun z => absurd z (List.not_mem_nil)) (List.not_mem_nil)
      | some u =>
        rcases hO b with z | ⟨ob, xs, z⟩
        · rw [q] at z; cases z
        · obtain ⟨g1, _⟩ := hok b _ z
          obtain ⟨g2, _⟩ := hok' b _ (un.frzs b ob _ z)
          rw [e] at g1; cases g1
          exact g2
  cases hk : K.lookup a with
  | some o =>
    obtain rfl := Option.some.inj ((KX a o hk).symm.trans ha)
    refine main (fun _ => none) (fun _ => Or.inl rfl) (Or.inr ?_) (fun b u z => ?_) fun b u z => ?_
    · exact ⟨_, vs.toArray, _, hk, rfl, rfl, rfl, by rw [List.size_toArray, hi.length]; exact hl, by simpa using rv⟩
    · cases (show (none : Option HO) = some u from z)
    · cases (show (none : Option HO) = some u from z)
  | none =>
    refine main (only1 a { cls := .type "list", data := .seq vs.toArray } (.lst (ns.map V.int))) (fun b => ?_)
      (Or.inl (Or.inr ⟨_, only1_at⟩)) (fun b u z => ?_) fun b u z => ?_
    · by_cases e : b = a
      · subst e; exact Or.inr ⟨_, _, only1_at⟩
      · exact Or.inl (only1_ne e)
    · by_cases e : b = a
      · subst e
        obtain rfl := Option.some.inj (only1_at.symm.trans z)
        exact ⟨ha, by rw [List.length_map]; exact hl, vs, _, rv, ha⟩
      · rw [only1_ne e] at z; cases z
    · by_cases e : b = a
      · exact ⟨e, hk⟩
      · rw [only1_ne e] at z; cases z
end
theorem walkTG {l : PySem.W.OpenLaw} {n k N t : Nat} {q : Program} {loose : List Str} {XP : (Str → Option Value) → Heap → Prop} {as : List Addr} {K : Params → PySem.W.Frag} {d : DefRec} {sp : World → Sp} {x : Str}
    (he : ∀ P, as = (K P).map (·.1)) (hn : l.most = some n) (hn2 : n ≤ sizeLine) (hdf : d.params.defaults = []) (hr : Room k callerA)
    (F : ∀ (w : World) (mg : Str → Option Value) (fa : Addr) (h : Heap), (K w.params).In h → h.Ns mainGlobals mg → mg d.name = some (.ref fa) → ∃ fd : FuncData, (∀ (s : Shared) (u : Value), BindsTo s fd ⟨[u], []⟩ [(x, u)]) ∧
      ∀ base : Heap, (K w.params).In base → base.Ns mainGlobals mg → FnTG t l.prog w (K w.params) mg base CX0 k fa fd [x] (sp w))
    (hsp : ∀ (w : World) (H : Hp) (a : Addr) (ns : List Int), ns.length ≤ n → Only H → SqL (K w.params) H a (ns.map V.int) → sp w [.ref a] H (fun v _ => v = .bl true) fun _ _ _ => False) :
    PySem.W.WalkX q loose XP (PySem.W.X.obsZ as) (PySem.W.X.valZ K N t) l.row.toRowW d [] (fun f vs => PySem.call f vs) := by
  intro w s₀ s₁ mg mb G Y fa o pm cd doc dV kV ho hd hcd hD hmg hg args vals as' hL hpre hlay hrd hwl hlo
  obtain ⟨Z1, ZI, ZN, ZT⟩ := PySem.W.X.z_facts he Y
  obtain rfl : dV = .none := PySem.W.Dflts.none hD hdf
  obtain rfl : kV = .none := PySem.W.Dflts.noKw hD
  obtain ⟨a, vs, ns, rfl, rfl, hobj, hints, hlen⟩ := Att.script_of hn hpre hwl
  have ht : t ≤ s₁.toks := PySem.W.X.script_toks (by rw [ofPy_ints]; exact hL) ZT
  have KX : (K w.params).In s₁.heap := PySem.W.InK.keeps w s₀.heap s₁.heap ZI hL.keeps
  obtain ⟨fd, hb, hF⟩ := F w mg fa _ KX G.T.g hmg
  refine PySem.W.enter_call (codeAny_mono (callTG ht KX G.T.g G.T.b G.T.builtins G.T.nolimit hg hobj hints (Nat.le_trans hlen hn2) hr hF hb (fun H hO hS => hsp w H a ns hlen hO hS) fun H e s' z => z) fun r s' hq => ?_)
  obtain ⟨rfl, h2, h3, h4⟩ := hq
  exact ⟨.inl ⟨.bool true, .bool true, [], rfl, fun _ => rfl, .bool true, Att.post_true l _, fun _ => ⟨List.Pairwise.nil, fun _ hm => (nomatch hm)⟩⟩, h2, h3, h4⟩
end My
set_option Elab.async false
set_option linter.all false
set_option maxRecDepth 100000
set_option maxHeartbeats 4000000
namespace My
open PySem PySem.Spec PyProof.Rows L2
theorem Ex.In.mono : ∀ {j k : Nat} {e : Ex}, Ex.In j e → j ≤ k → Ex.In k e
  | 0, 0, .nm _, h, _ => h
  | 0, _ + 1, .nm _, h, _ => h
  | _ + 1, 0, .nm _, h, _ => h
  | _ + 1, _ + 1, .nm _, h, _ => h
  | 0, _, .keys _, h, _ => h.elim
  | 0, _, .bin _ _ _, h, _ => h.elim
  | _ + 1, 0, _, _, q => absurd q (by omega)
  | j + 1, k + 1, .keys a, h, q => Ex.In.mono (j := j) (k := k) (e := a) h (by omega)
  | j + 1, k + 1, .bin w a b, h, q => ⟨h.1, Ex.In.mono (j := j) (k := k) (e := a) h.2.1 (by omega), Ex.In.mono (j := j) (k := k) (e := b) h.2.2 (by omega)⟩
def spDrawnA (K : PySem.W.Frag) : Sp := fun vs H Q E => ∃ j, j ≤ 4 ∧ spDrawn K j vs H Q E
theorem fnOk_any {P : Program} {w : World} {K : PySem.W.Frag} {mg : Str → Option Value} {base : Heap} {CX : CXT} {k m : Nat} {f : Addr} {fd : FuncData} {ps : List Str} {sp : Nat → Sp} (h : ∀ j, j ≤ m → FnOk P w K mg base CX k f fd ps (sp j)) : FnOk P w K mg base CX k f fd ps (fun vs H Q E => ∃ j, j ≤ m ∧ sp j vs H Q E) :=
  ⟨fun vs H Q E ⟨j, hj, q⟩ => (h j hj).len vs H Q E q, fun A outer s H args us vs Q E hr e0 hb r ⟨j, hj, q⟩ => (h j hj).run A outer s H args us vs Q E hr e0 hb r q⟩
theorem spT_flat : ∀ ts : List Str, SpT ts (ts.flatMap letters)
  | [] => .nil 0
  | t :: r => by
    rw [List.flatMap_cons]
    exact SpT.cons 0 t (spT_flat r)
section
variable {X : Cx}
theorem op_eqDK {K : PySem.W.Frag} (hK : X.K = K) (hu : X.A.units + 64 < cLine) : OpR X (compareOp .Eq) (rEqD K) := by
  subst hK
  exact op_eqD hu
theorem call_reprK {K : PySem.W.Frag} (hK : X.K = K) (g : X.A.guards = some []) (hu : X.A.units + 64 < cLine) : CallR X (.builtin "repr") (rRepr K) := by
  subst hK
  exact call_repr g hu
end
end My
set_option Elab.async false
set_option linter.all false
set_option maxRecDepth 100000
set_option maxHeartbeats 4000000
namespace My
open PySem PySem.Spec PyProof.Rows L2
theorem fn_tie {P : Program} {w : World} {K : PySem.W.Frag} {mg : Str → Option Value} {base : Heap} {f : Addr} {fd : FuncData} {x : Str} {ps : List Str} {sp : Nat → Sp}
    (g : mg x = some (.ref f)) (kp : PySem.W.keepIn K (.ref f) = true) (b : Binds K fd ps [])
    (F : ∀ (k0 j : Nat) (spS : Sp), (∀ m, j = m + 1 → spS = sp m) → Fn P w K mg base (k0 + 1) x ps spS → FnOk P w K mg base CX0 (k0 + 2) f fd ps (sp j)) :
    Fn P w K mg base 6 x ps (fun vs H Q E => ∃ j, j ≤ 4 ∧ sp j vs H Q E) := by
  have all : ∀ j, FnOk P w K mg base CX0 (j + 2) f fd ps (sp j) := by
    intro j
    induction j with
    | zero => exact F 0 0 spNever (fun m z => nomatch z) ⟨f, fd, g, fn_never, kp, b⟩
    | succ j ih => exact F (j + 1) (j + 1) (sp j) (fun m z => by cases z; rfl) ⟨f, fd, g, ih, kp, b⟩
  exact ⟨f, fd, g, fnOk_any fun j hj => (all j).mono (by omega), kp, b⟩
end My
set_option Elab.async false
set_option linter.all false
set_option maxRecDepth 100000
set_option maxHeartbeats 4000000
namespace My
open PySem PySem.Spec PyProof.Rows L2
def Snd (l : Nat) (p : Ps) : Prop := ∀ ts d r, p ts = some (d, r) → ∃ (k : Nat) (e : Ex) (ta : List Str), ts = ta ++ r ∧ d = e.d ∧ Dk k l e ta
theorem tok_some {x : Str} {ts r : List Str} (h : pTok x ts = some r) : ts = x :: r := by
  cases ts with
  | nil => cases h
  | cons t tl =>
    have h : (if t = x then some tl else none) = some r := h
    by_cases e : t = x
    · rw [if_pos e] at h
      cases h
      rw [e]
    · rw [if_neg e] at h
      cases h
theorem snd_parts1 {p : Ps} (hp : Snd 0 p) {ts : List Str} {d : PyData} {r : List Str} (h : pParts1 p ts = some (d, r)) : ∃ k e ta, ts = oP :: (ta ++ cP :: r) ∧ d = e.d ∧ Dk k 0 e ta := by
  unfold pParts1 at h
  split at h
  · cases h
  · rename_i r1 h1
    split at h
    · cases h
    · rename_i d2 r2 h2
      split at h
      · cases h
      · rename_i r3 h3
        cases h
        obtain ⟨k, e, ta, e1, e2, D⟩ := hp _ _ _ h2
        exact ⟨k, e, ta, by rw [tok_some h1, e1, tok_some h3], e2, D⟩
theorem snd_parts2 {p : Ps} (hp : Snd 0 p) {ts : List Str} {d d2 : PyData} {r : List Str} (h : pParts2 p ts = some (d, d2, r)) : ∃ k e ta k2 e2 tb, ts = oP :: (ta ++ cM :: (tb ++ cP :: r)) ∧ d = e.d ∧ Dk k 0 e ta ∧ d2 = e2.d ∧ Dk k2 0 e2 tb := by
  unfold pParts2 at h
  split at h
  · cases h
  · rename_i r1 h1
    split at h
    · cases h
    · rename_i d3 r2 h2
      split at h
      · cases h
      · rename_i r3 h3
        split at h
        · cases h
        · rename_i d4 r4 h4
          split at h
          · cases h
          · rename_i r5 h5
            cases h
            obtain ⟨k, e, ta, e1, e2, D⟩ := hp _ _ _ h2
            obtain ⟨k2, e3, tb, e4, e5, D2⟩ := hp _ _ _ h4
            exact ⟨k, e, ta, k2, e3, tb, by rw [tok_some h1, e1, tok_some h3, e4, tok_some h5], e2, D, e5, D2⟩
theorem snd_single {p : Ps} (hp : Snd 0 p) : Snd 5 (pSingle p) := by
  intro ts d r h
  cases ts with
  | nil => cases h
  | cons t tl =>
    unfold pSingle at h
    simp only at h
    split at h
    · rename_i hn
      cases h
      exact ⟨0, .nm t, [t], rfl, rfl, .nm hn⟩
    · split at h
      · rename_i e
        subst e
        split at h
        · cases h
        · rename_i d1 q h1
          cases h
          obtain ⟨k, e, ta, e1, e2, D⟩ := snd_parts1 hp h1
          refine ⟨k + 1, .keys e, kW :: oP :: (ta ++ [cP]), ?_, ?_, .keys D⟩
          · rw [e1]; simp
          · rw [e2]; rfl
      · split at h
        · rename_i e
          subst e
          split at h
          · cases h
          · rename_i d1 d2 q h1
            cases h
            obtain ⟨k, e, ta, k2, e3, tb, e1, e2, D, e4, D2⟩ := snd_parts2 hp h1
            refine ⟨max k k2 + 1, .bin lW e e3, lW :: oP :: (ta ++ cM :: (tb ++ [cP])), ?_, ?_, .look D D2⟩
            · rw [e1]; simp
            · rw [e2, e4]; rfl
        · obtain ⟨k, e, ta, e1, e2, D⟩ := snd_parts1 hp h
          exact ⟨k + 1, e, oP :: (ta ++ [cP]), by rw [e1]; simp, e2, .par D⟩
theorem snd_loop {sub : Ps} {i : Nat} {op : Str} (hw : ops5[i]? = some op) (hs : Snd (i + 1) sub) : ∀ (n : Nat) (l : PyData) (r : List Str) (k : Nat) (e : Ex) (ta ts : List Str) (d : PyData) (q : List Str),
    l = e.d → Dk k i e ta → ts = ta ++ r → pLoop op sub n l r = some (d, q) → ∃ (k : Nat) (e : Ex) (ta : List Str), ts = ta ++ q ∧ d = e.d ∧ Dk k i e ta := by
  intro n
  induction n with
  | zero =>
    intro l r k e ta ts d q hl D ht h
    cases h
    exact ⟨k, e, ta, ht, hl, D⟩
  | succ n ih =>
    intro l r k e ta ts d q hl D ht h
    unfold pLoop at h
    split at h
    · cases h
      exact ⟨k, e, ta, ht, hl, D⟩
    · rename_i r1 h1
      split at h
      · cases h
      · rename_i d2 r2 h2
        obtain ⟨k2, e2, tb, e3, e4, D2⟩ := hs _ _ _ h2
        refine ih _ _ (max k k2) (.bin op e e2) (ta ++ op :: tb) ts d q ?_ (.op hw (Nat.le_refl _) D D2) ?_ h
        · rw [hl, e4]; rfl
        · rw [ht, tok_some h1, e3]; simp
theorem snd_lev {p : Ps} (hp : Snd 5 p) : ∀ m, m ≤ 5 → Snd (5 - m) (pLev p m)
  | 0, _ => hp
  | m + 1, hm => by
    have ih := snd_lev hp m (by omega)
    intro ts d r h
    unfold pLev at h
    split at h
    · cases h
    · rename_i l r1 h1
      obtain ⟨k, e, ta, e1, e2, D⟩ := ih _ _ _ h1
      have hw : ops5[5 - (m + 1)]? = some (opAt m) := by
        have : m = 0 ∨ m = 1 ∨ m = 2 ∨ m = 3 ∨ m = 4 := by omega
        rcases this with rfl | rfl | rfl | rfl | rfl <;> rfl
      have ih' : Snd (5 - (m + 1) + 1) (pLev p m) := by rw [show 5 - (m + 1) + 1 = 5 - m by omega]; exact ih
      exact snd_loop hw ih' _ _ _ k e ta ts d r e2 (D.low (by omega)) e1 h
theorem snd_in : ∀ n, Snd 0 (pIn n)
  | 0 => fun _ _ _ h => by cases h
  | n + 1 => snd_lev (snd_single (snd_in n)) 5 (Nat.le_refl _)
theorem pE_ex {ts : List Str} {d : PyData} (h : pE ts = some d) : ∃ k e, d = e.d ∧ Dk k 0 e ts := by
  unfold pE at h
  split at h
  · rename_i d2 h1
    cases h
    obtain ⟨k, e, ta, e1, e2, D⟩ := snd_in 9 _ _ _ h1
    rw [List.append_nil] at e1
    exact ⟨k, e, e2, e1 ▸ D⟩
  · cases h
theorem Ex.d_inj : ∀ {a b : Ex}, a.d = b.d → a = b
  | .nm s, .nm t, h => by cases h; rfl
  | .nm _, .keys _, h => by cases h
  | .nm _, .bin _ _ _, h => by cases h
  | .keys _, .nm _, h => by cases h
  | .keys a, .keys b, h => by
    have e : a.d = b.d := by unfold Ex.d at h; simp only [PyData.tuple.injEq, List.cons.injEq] at h; exact h.2.1
    rw [Ex.d_inj e]
  | .keys _, .bin _ _ _, h => by unfold Ex.d at h; simp at h
  | .bin _ _ _, .nm _, h => by cases h
  | .bin _ _ _, .keys _, h => by unfold Ex.d at h; simp at h
  | .bin w a b, .bin v c d, h => by
    unfold Ex.d at h
    simp only [PyData.tuple.injEq, List.cons.injEq, PyData.str.injEq] at h
    rw [h.1, Ex.d_inj h.2.1, Ex.d_inj h.2.2.1]
abbrev cO (ts : List Str) : Nat := ts.count oP
theorem cO_par (ts : List Str) : cO (oP :: (ts ++ [cP])) = cO ts + 1 := by
  unfold cO
  rw [List.count_cons, List.count_append]
  rfl
theorem cO_ne {t : Str} (h : t ≠ oP) (ts : List Str) : cO (t :: ts) = cO ts := List.count_cons_of_ne h
theorem cO_mid {t : Str} (h : t ≠ oP) (ta tb : List Str) : cO (ta ++ t :: tb) = cO ta + cO tb := by
  unfold cO
  rw [List.count_append, List.count_cons_of_ne h]
theorem opw_no {i : Nat} {w : Str} (hw : ops5[i]? = some w) : w ≠ oP := by
  have : ∀ w ∈ ops5, w ≠ oP := by decide
  exact this w (List.mem_of_getElem? hw)
theorem name_no {s : Str} (h : nameOk s = true) : s ≠ oP := fun z => by rw [z, no_par] at h; cases h
theorem Dk.deep {d l : Nat} {e : Ex} {ts : List Str} (h : Dk d l e ts) : d ≤ cO ts := by
  induction h with
  | nm h => exact Nat.zero_le _
  | par h ih => rw [cO_par]; omega
  | keys h ih => rw [cO_ne (t := kW) (by decide), cO_par]; omega
  | @look d d2 l a b ta tb h g ih1 ih2 =>
    rw [show lW :: oP :: (ta ++ cM :: (tb ++ [cP])) = lW :: oP :: ((ta ++ cM :: tb) ++ [cP]) by simp, cO_ne (t := lW) (by decide), cO_par, cO_mid (t := cM) (by decide)]
    omega
  | op hw hl h g ih1 ih2 => rw [cO_mid (opw_no hw)]; omega
end My
set_option Elab.async false
set_option linter.all false
set_option maxRecDepth 100000
set_option maxHeartbeats 4000000
namespace My
open PySem PySem.Spec PyProof.Rows L2
abbrev c40 (T : List Nat) : Nat := T.count 40
abbrev c41 (T : List Nat) : Nat := T.count 41
theorem Ex.lay : ∀ e : Ex, e.Ok → e.d.canLay0 = true
  | .nm _, h => name_lay h
  | .keys a, h => by
    have := Ex.lay a h
    show PyData.canLay0 (.tuple [.str "keys", a.d]) = true
    have k : PyData.canLay0 (.str "keys") = true := by decide +kernel
    simp only [PyData.canLay0, PyData.canLayAll0, this] at k ⊢
    rw [k]
    rfl
  | .bin w a b, h => by
    have h1 := Ex.lay a h.2.1
    have h2 := Ex.lay b h.2.2
    show PyData.canLay0 (.tuple [.str w, a.d, b.d]) = true
    have k : PyData.canLay0 (.str w) = true := by
      rcases h.1 with q | rfl
      · have : ∀ w ∈ ops5, PyData.canLay0 (.str w) = true := by decide +kernel
        exact this w q
      · decide +kernel
    simp only [PyData.canLay0, PyData.canLayAll0, h1, h2] at k ⊢
    rw [k]
    rfl
theorem Dk.ok {d l : Nat} {e : Ex} {ts : List Str} (h : Dk d l e ts) : e.Ok := by
  induction h with
  | nm h => exact h
  | par h ih => exact ih
  | keys h ih => exact ih
  | look h g ih1 ih2 => exact ⟨.inr rfl, ih1, ih2⟩
  | op hw hl h g ih1 ih2 => exact ⟨.inl (List.mem_of_getElem? hw), ih1, ih2⟩
def saidE (x : Str) : PyData := (readE x).getD .none
theorem dk_arg {d l : Nat} {e : Ex} {ts : List Str} (h : Dk d (levE e) e ts) : ∃ d', Dk d' l e (argT l e ts) := by
  unfold argT
  by_cases q : levE e < l
  · rw [if_pos q]; exact ⟨d + 1, .par (h.low (Nat.zero_le _))⟩
  · rw [if_neg q]; exact ⟨d, h.low (by omega)⟩
def wrT : Ex → List Str
  | .nm s => [s]
  | .keys a => kW :: oP :: (wrT a ++ [cP])
  | .bin w a b => match lvl w with
    | some _ => argT 5 a (wrT a) ++ w :: argT 5 b (wrT b)
    | none => w :: oP :: (wrT a ++ cM :: (wrT b ++ [cP]))
theorem bin_dk {i : Nat} {w : Str} {a b : Ex} {ta tb : List Str} (hi : lvl w = some i) (h : ∃ d, Dk d i a ta) (g : ∃ d, Dk d (i + 1) b tb) : ∃ d, Dk d (levE (.bin w a b)) (.bin w a b) (ta ++ w :: tb) := by
  obtain ⟨d, h⟩ := h
  obtain ⟨d2, g⟩ := g
  have hk : levE (.bin w a b) = i := by show (lvl w).getD 5 = i; rw [hi]; rfl
  rw [hk]
  exact ⟨_, .op (lvl_at hi).2 (Nat.le_refl _) h g⟩
theorem look_w {w : Str} (h : w ∈ ops5 ∨ w = "look") (hn : lvl w = none) : w = lW := by
  rcases h with h | h
  · have : ∀ w ∈ ops5, lvl w ≠ none := by decide
    exact absurd hn (this w h)
  · exact h
theorem wr_dk : ∀ e : Ex, e.Ok → ∃ d, Dk d (levE e) e (wrT e)
  | .nm s, h => ⟨0, .nm h⟩
  | .keys a, h => by
    obtain ⟨d, D⟩ := wr_dk a h
    exact ⟨d + 1, .keys (D.low (Nat.zero_le _))⟩
  | .bin w a b, h => by
    obtain ⟨d, D⟩ := wr_dk a h.2.1
    obtain ⟨d2, D2⟩ := wr_dk b h.2.2
    unfold wrT
    cases hv : lvl w with
    | none =>
      have e := look_w h.1 hv
      subst e
      exact ⟨_, .look (D.low (Nat.zero_le _)) (D2.low (Nat.zero_le _))⟩
    | some i =>
      have hi := (lvl_at hv).1
      obtain ⟨x, X⟩ := dk_arg (l := 5) D
      obtain ⟨y, Y⟩ := dk_arg (l := 5) D2
      exact bin_dk hv ⟨x, X.low (by omega)⟩ ⟨y, Y.low (by omega)⟩
theorem total_app (a b : List Str) : total (a ++ b) = total a + total b := by unfold total; rw [List.map_append, List.sum_append]
theorem total_cons (t : Str) (b : List Str) : total (t :: b) = t.length + total b := rfl
theorem arg_total (l : Nat) (e : Ex) (ts : List Str) : total (argT l e ts) ≤ total ts + 2 := by
  unfold argT
  have h1 : oP.length = 1 := rfl
  have h2 : cP.length = 1 := rfl
  split
  · rw [total_cons, total_app, total_cons, h1, h2]
    show 1 + (total ts + (1 + 0)) ≤ _
    omega
  · omega
def Bal (T : List Nat) : Prop := (∀ i, c41 (T.take i) ≤ c40 (T.take i)) ∧ c41 T = c40 T
theorem Bal.app {A B : List Nat} (h : Bal A) (g : Bal B) : Bal (A ++ B) := by
  refine ⟨fun i => ?_, ?_⟩
  · unfold c41 c40
    rw [List.take_append, List.count_append, List.count_append]
    by_cases q : i ≤ A.length
    · have : i - A.length = 0 := by omega
      rw [this]
      have := h.1 i
      unfold c41 c40 at this
      simp
      omega
    · have h2 := g.1 (i - A.length)
      have h3 := h.1 i
      unfold c41 c40 at h2 h3
      omega
  · have h1 := h.2
    have h2 := g.2
    unfold c41 c40 at h1 h2 ⊢
    rw [List.count_append, List.count_append]
    omega
theorem Bal.par {A : List Nat} (h : Bal A) : Bal (40 :: (A ++ [41])) := by
  refine ⟨fun i => ?_, ?_⟩
  · cases i with
    | zero => simp
    | succ i =>
      unfold c41 c40
      rw [List.take_succ_cons, List.count_cons, List.count_cons, List.take_append, List.count_append, List.count_append]
      have h1 := h.1 i
      unfold c41 c40 at h1
      have h2 : (([41] : List Nat).take (i - A.length)).count 41 ≤ 1 := by
        refine Nat.le_trans List.count_le_length ?_
        rw [List.length_take]
        show min _ 1 ≤ 1
        omega
      have e1 : ((40 : Nat) == 41) = false := by decide
      have e2 : ((40 : Nat) == 40) = true := by decide
      rw [e1, e2]
      simp only [if_true, Bool.false_eq_true, if_false]
      omega
  · have h2 := h.2
    unfold c41 c40 at h2 ⊢
    rw [List.count_cons, List.count_cons, List.count_append, List.count_append, h2]
    rfl
end My
set_option Elab.async false
set_option linter.all false
set_option maxRecDepth 100000
set_option maxHeartbeats 4000000
namespace My
open PySem PySem.Spec PyProof.Rows L2
def wrS (e : Ex) : Str := ofL ((wrT e).flatMap letters)
theorem wrS_let (e : Ex) : letters (wrS e) = (wrT e).flatMap letters := rfl
def spWrit (K : PySem.W.Frag) (j : Nat) : Sp := fun vs H Q _ => ∃ (v : V) (e : Ex), vs = [v] ∧ DE K H v e ∧ Ex.In j e ∧ j ≤ 4 ∧ ∀ H', Same H H' → Q (.str (wrS e)) H'
theorem flatL_len (ts : List Str) : (ts.flatMap letters).length = total ts := by
  induction ts with
  | nil => rfl
  | cons t r ih =>
    rw [List.flatMap_cons, List.length_append, ih, total_cons, Array.length_toList]
    rfl
theorem wr_total : ∀ e : Ex, e.Ok → total (wrT e) ≤ 9 * e.size
  | .nm s, h => by
    have h : nameOk s = true := h
    have := (tok_len4 (.inr (.inl h))).2
    show s.length + 0 ≤ 9 * 1
    omega
  | .keys a, h => by
    have ih := wr_total a h
    have h1 : oP.length = 1 := rfl
    have h2 : cP.length = 1 := rfl
    have h3 : kW.length = 4 := rfl
    show total (kW :: oP :: (wrT a ++ [cP])) ≤ 9 * (a.size + 1)
    rw [total_cons, total_cons, total_app, total_cons, h1, h2, h3]
    show 4 + (1 + (total (wrT a) + (1 + 0))) ≤ _
    omega
  | .bin w a b, h => by
    have ih1 := wr_total a h.2.1
    have ih2 := wr_total b h.2.2
    have h1 : oP.length = 1 := rfl
    have h2 : cP.length = 1 := rfl
    have h3 : cM.length = 1 := rfl
    have hw : w.length ≤ 4 := by
      rcases h.1 with q | rfl
      · have : ∀ w ∈ ops5, w.length ≤ 4 := by decide
        exact this w q
      · decide
    show total (match lvl w with | some _ => argT 5 a (wrT a) ++ w :: argT 5 b (wrT b) | none => w :: oP :: (wrT a ++ cM :: (wrT b ++ [cP]))) ≤ 9 * (a.size + b.size + 1)
    cases lvl w with
    | none =>
      show total (w :: oP :: (wrT a ++ cM :: (wrT b ++ [cP]))) ≤ _
      rw [total_cons, total_cons, total_app, total_cons, total_app, total_cons, h1, h2, h3]
      show w.length + (1 + (total (wrT a) + (1 + (total (wrT b) + (1 + 0))))) ≤ _
      omega
    | some i =>
      show total (argT 5 a (wrT a) ++ w :: argT 5 b (wrT b)) ≤ _
      rw [total_app, total_cons]
      have := arg_total 5 a (wrT a)
      have := arg_total 5 b (wrT b)
      omega
theorem wr_len {e : Ex} (h : e.Ok) : (wrS e).length ≤ 9 * e.size := by
  have a := flatL_len (wrT e)
  rw [← wrS_let, Array.length_toList] at a
  have b := wr_total e h
  show (wrS e).cps.size ≤ _
  omega
theorem dpAll_ix {K : PySem.W.Frag} {H : Hp} : ∀ {vs : List V} {es : List Ex} {i : Nat} {v : V} {e : Ex}, DEs K H vs es → vs[i]? = some v → es[i]? = some e → DE K H v e
  | _, [], _, _, _, _, _, h => by simp at h
  | _, e :: es, i, v, e2, h, h1, h2 => by
    have h : DpAll K H _ (e.d :: es.map Ex.d) := h
    cases h with
    | cons a b =>
      cases i with
      | zero =>
        simp at h1 h2
        subst h1 h2
        exact a
      | succ i =>
        simp at h1 h2
        exact dpAll_ix (es := es) b h1 h2
theorem Ex.In.parts {j : Nat} {e : Ex} (h : Ex.In j e) : (∃ s, e = .nm s) ∨ ∃ (m : Nat) (x : Str) (as : List Ex), j = m + 1 ∧ e.d = .tuple (.str x :: as.map Ex.d) ∧ as.length ≤ 2 ∧ (∀ a ∈ as, Ex.In m a) ∧
    ((x = "keys" ∧ ∃ a, as = [a] ∧ e = .keys a) ∨ (x = "look" ∧ ∃ a b, as = [a, b] ∧ e = .bin "look" a b) ∨ (x ∈ ops5 ∧ ∃ a b, as = [a, b] ∧ e = .bin x a b)) := by
  cases e with
  | nm s => exact .inl ⟨s, rfl⟩
  | keys a =>
    cases j with
    | zero => exact h.elim
    | succ m => exact .inr ⟨m, "keys", [a], rfl, rfl, by simp, fun b hb => by rw [List.mem_singleton.mp hb]; exact h, .inl ⟨rfl, a, rfl, rfl⟩⟩
  | bin w a b =>
    cases j with
    | zero => exact h.elim
    | succ m =>
      refine .inr ⟨m, w, [a, b], rfl, rfl, by simp, fun c hc => ?_, ?_⟩
      · rcases List.mem_cons.mp hc with rfl | hc
        · exact h.2.1
        · rw [List.mem_singleton.mp hc]; exact h.2.2
      · rcases h.1 with q | rfl
        · exact .inr (.inr ⟨q, a, b, rfl, rfl⟩)
        · exact .inr (.inl ⟨rfl, a, b, rfl, rfl⟩)
theorem wrS_keys (a : Ex) : ("keys" ++ "(" ++ Txt.join "," [wrS a] ++ ")" : Str) = wrS (.keys a) := TL.ext_tl (by
  rw [TL.tl_append, TL.tl_append, TL.tl_append]
  show letters "keys" ++ letters "(" ++ letters (wrS a) ++ letters ")" = (kW :: oP :: (wrT a ++ [cP])).flatMap letters
  rw [List.flatMap_cons, List.flatMap_cons, List.flatMap_append, wrS_let]
  simp)
theorem wrS_look (a b : Ex) : ("look" ++ "(" ++ Txt.join "," [wrS a, wrS b] ++ ")" : Str) = wrS (.bin "look" a b) := TL.ext_tl (by
  rw [TL.tl_append, TL.tl_append, TL.tl_append]
  have e : Txt.join "," [wrS a, wrS b] = wrS a ++ "," ++ wrS b := by rw [join_eq]; rfl
  rw [e, TL.tl_append, TL.tl_append]
  show letters "look" ++ letters "(" ++ (letters (wrS a) ++ letters "," ++ letters (wrS b)) ++ letters ")" = (lW :: oP :: (wrT a ++ cM :: (wrT b ++ [cP]))).flatMap letters
  rw [List.flatMap_cons, List.flatMap_cons, List.flatMap_append, List.flatMap_cons, List.flatMap_append, wrS_let, wrS_let]
  simp)
def wrA (e : Ex) : Str := if levE e < 5 then "(" ++ wrS e ++ ")" else wrS e
theorem wrA_let (e : Ex) : letters (wrA e) = (argT 5 e (wrT e)).flatMap letters := by
  unfold wrA argT
  split
  · rw [let_app, let_app, List.flatMap_cons, List.flatMap_append]
    show letters "(" ++ letters (wrS e) ++ letters ")" = _
    rw [wrS_let]
    simp
  · exact wrS_let e
theorem wrS_op {w : Str} (h : w ∈ ops5) (a b : Ex) : (wrA a ++ w ++ wrA b : Str) = wrS (.bin w a b) := TL.ext_tl (by
  rw [TL.tl_append, TL.tl_append]
  show letters (wrA a) ++ letters w ++ letters (wrA b) = (match lvl w with | some _ => argT 5 a (wrT a) ++ w :: argT 5 b (wrT b) | none => w :: oP :: (wrT a ++ cM :: (wrT b ++ [cP]))).flatMap letters
  have : ∀ w ∈ ops5, (lvl w).isSome = true := by decide
  obtain ⟨i, hi⟩ := Option.isSome_iff_exists.mp (this w h)
  rw [hi]
  show _ = (argT 5 a (wrT a) ++ w :: argT 5 b (wrT b)).flatMap letters
  rw [List.flatMap_append, List.flatMap_cons, wrA_let, wrA_let]
  simp)
theorem wrA_len {e : Ex} (h : e.Ok) : (wrA e).length ≤ 9 * e.size + 2 := by
  have := wr_len h
  have h1 : ("(" : Str).length = 1 := rfl
  have h2 : (")" : Str).length = 1 := rfl
  unfold wrA
  split
  · rw [app_len, app_len]; omega
  · omega
theorem at_natA {α : Type} {xs : List α} {i : Nat} {v : α} (h : xs[i]? = some v) : atI xs (i : Int) = some v := by
  have hi := (List.getElem?_eq_some_iff.mp h).1
  unfold atI ixN
  rw [if_pos (Int.natCast_nonneg i), if_pos (by omega)]
  simpa using h
def spWritA (K : PySem.W.Frag) : Sp := fun vs H Q E => ∃ j, j ≤ 4 ∧ spWrit K j vs H Q E
end My
set_option Elab.async false
set_option linter.all false
set_option maxRecDepth 100000
set_option maxHeartbeats 4000000
namespace My
open PySem PySem.Spec PyProof.Rows L2
def scan : List Str → Nat → Int → Int → Nat → Option (Int × Int × Nat)
  | [], _, d, b, l => some (d, b, l)
  | t :: r, k, d, b, l =>
    let d2 := d + (if t = oP then 1 else 0) - (if t = cP then 1 else 0)
    if d2 < 0 ∨ 8 < d2 then none else
    match lvl t with
    | some i => if d2 = 0 ∧ i ≤ l then scan r (k + 1) d2 k i else scan r (k + 1) d2 b l
    | none => scan r (k + 1) d2 b l
def lastM (ts : List Str) : Option (Int × Nat) := match scan ts 0 0 (-1) 9 with
  | some (d, b, l) => if d = 0 then some (b, l) else none
  | none => none
theorem lastM_of {ts : List Str} {b : Int} {l : Nat} (h : scan ts 0 0 (-1) 9 = some (0, b, l)) : lastM ts = some (b, l) := by
  unfold lastM
  rw [h]
  exact if_pos rfl
theorem lastM_some {ts : List Str} {b : Int} {l : Nat} (h : lastM ts = some (b, l)) : scan ts 0 0 (-1) 9 = some (0, b, l) := by
  unfold lastM at h
  split at h
  · rename_i d b2 l2 e
    split at h
    · rename_i z
      cases h
      rw [e, z]
    · cases h
  · cases h
def stp (t : Str) (k : Nat) (d b : Int) (l : Nat) : Option (Int × Int × Nat) :=
  let d2 := d + (if t = oP then 1 else 0) - (if t = cP then 1 else 0)
  if d2 < 0 ∨ 8 < d2 then none else
  match lvl t with
  | some i => if d2 = 0 ∧ i ≤ l then some (d2, (k : Int), i) else some (d2, b, l)
  | none => some (d2, b, l)
theorem scan_cons (t : Str) (r : List Str) (k : Nat) (d b : Int) (l : Nat) : scan (t :: r) k d b l = (stp t k d b l).bind fun q => scan r (k + 1) q.1 q.2.1 q.2.2 := by
  unfold stp
  conv => lhs; unfold scan
  simp only
  generalize d + (if t = oP then 1 else 0) - (if t = cP then 1 else 0) = d2
  by_cases c : d2 < 0 ∨ 8 < d2
  · rw [if_pos c, if_pos c]; rfl
  · rw [if_neg c, if_neg c]
    cases lvl t with
    | none => rfl
    | some i =>
      by_cases z : d2 = 0 ∧ i ≤ l
      · simp only [if_pos z]; rfl
      · simp only [if_neg z]; rfl
theorem scan_app : ∀ (a b : List Str) (k : Nat) (d p : Int) (l : Nat), scan (a ++ b) k d p l = (scan a k d p l).bind fun q => scan b (k + a.length) q.1 q.2.1 q.2.2
  | [], b, k, d, p, l => by simp [scan]
  | t :: a, b, k, d, p, l => by
    have ih := scan_app a b
    have e : k + (t :: a).length = k + 1 + a.length := by rw [List.length_cons]; omega
    rw [List.cons_append, scan_cons, scan_cons, e]
    cases stp t k d p l with
    | none => rfl
    | some q => exact ih _ _ _ _
theorem stp_of {t : Str} {k : Nat} {d b : Int} {l : Nat} {x y : Int} (hx : (if t = oP then (1 : Int) else 0) = x) (hy : (if t = cP then (1 : Int) else 0) = y) : stp t k d b l =
    (if d + x - y < 0 ∨ 8 < d + x - y then none else match lvl t with
      | some i => if d + x - y = 0 ∧ i ≤ l then some (d + x - y, (k : Int), i) else some (d + x - y, b, l)
      | none => some (d + x - y, b, l)) := by
  subst hx hy
  rfl
theorem scan_tok {t : Str} {r : List Str} {k : Nat} {d p : Int} {l : Nat} (h1 : t ≠ oP) (h2 : t ≠ cP) (h0 : 0 ≤ d) (h8 : d ≤ 8) (hn : d ≠ 0 ∨ ∀ i, lvl t = some i → l < i) : scan (t :: r) k d p l = scan r (k + 1) d p l := by
  have e : d + 0 - 0 = d := by omega
  rw [scan_cons, stp_of (if_neg h1) (if_neg h2), e, if_neg (by omega)]
  cases q : lvl t with
  | none => rfl
  | some i =>
    have : ¬ (d = 0 ∧ i ≤ l) := by
      rintro ⟨z1, z2⟩
      rcases hn with u | u
      · exact u z1
      · have := u i q; omega
    simp only [if_neg this]
    rfl
theorem scan_op {t : Str} {r : List Str} {k : Nat} {p : Int} {l i : Nat} (hi : lvl t = some i) (hl : i ≤ l) : scan (t :: r) k 0 p l = scan r (k + 1) 0 k i := by
  have h1 : t ≠ oP := fun z => by rw [z] at hi; cases hi
  have h2 : t ≠ cP := fun z => by rw [z] at hi; cases hi
  have e : (0 : Int) + 0 - 0 = 0 := rfl
  rw [scan_cons, stp_of (if_neg h1) (if_neg h2), e, if_neg (by omega), hi]
  show (if (0 : Int) = 0 ∧ i ≤ l then some ((0 : Int), (k : Int), i) else some (0, p, l)).bind _ = _
  rw [if_pos ⟨rfl, hl⟩]
  rfl
theorem scan_open {r : List Str} {k : Nat} {d p : Int} {l : Nat} (h0 : 0 ≤ d) (h8 : d + 1 ≤ 8) : scan (oP :: r) k d p l = scan r (k + 1) (d + 1) p l := by
  have e : d + 1 - 0 = d + 1 := by omega
  rw [scan_cons, stp_of (if_pos rfl) (if_neg (by decide)), e, if_neg (by omega), show lvl oP = none from by decide]
  rfl
theorem scan_close {r : List Str} {k : Nat} {d p : Int} {l : Nat} (h0 : 1 ≤ d) (h8 : d ≤ 9) : scan (cP :: r) k d p l = scan r (k + 1) (d - 1) p l := by
  have e : d + 0 - 1 = d - 1 := by omega
  rw [scan_cons, stp_of (if_neg (by decide)) (if_pos rfl), e, if_neg (by omega), show lvl cP = none from by decide]
  rfl
theorem name_lv {s : Str} (h : nameOk s = true) : lvl s = none := by
  cases q : lvl s with
  | none => rfl
  | some i =>
    have m := List.mem_of_getElem? (lvl_at q).2
    have : ∀ w ∈ ops5, nameOk w = false := by decide +kernel
    rw [this s m] at h
    cases h
theorem name_cp {s : Str} (h : nameOk s = true) : s ≠ cP := fun z => by rw [z, show nameOk cP = false from by decide +kernel] at h; cases h
theorem op_lv {i : Nat} {w : Str} (hw : ops5[i]? = some w) : lvl w = some i := by
  have hi := (op_at hw).1
  have : i = 0 ∨ i = 1 ∨ i = 2 ∨ i = 3 ∨ i = 4 := by omega
  rcases this with rfl | rfl | rfl | rfl | rfl <;> cases hw <;> decide
theorem opw_cp {i : Nat} {w : Str} (hw : ops5[i]? = some w) : w ≠ cP := by
  have : ∀ w ∈ ops5, w ≠ cP := by decide
  exact this w (List.mem_of_getElem? hw)
theorem Dk.still {d l : Nat} {e : Ex} {ts : List Str} (h : Dk d l e ts) : ∀ (k : Nat) (D p : Int) (lv : Nat), 0 ≤ D → D + d ≤ 8 → (D ≠ 0 ∨ lv < l) → l ≤ 5 → scan ts k D p lv = some (D, p, lv) := by
  have par : ∀ {d : Nat} {ts : List Str}, (∀ (k : Nat) (D p : Int) (lv : Nat), 1 ≤ D → D + d ≤ 8 → scan ts k D p lv = some (D, p, lv)) → ∀ (k : Nat) (D p : Int) (lv : Nat), 0 ≤ D → D + ((d + 1 : Nat) : Int) ≤ 8 → scan (oP :: (ts ++ [cP])) k D p lv = some (D, p, lv) := by
    intro d ts ih k D p lv h0 h8
    rw [scan_open h0 (by omega), scan_app, ih _ _ _ _ (by omega) (by omega)]
    show scan [cP] _ (D + 1) p lv = _
    rw [scan_close (by omega) (by omega)]
    show some (D + 1 - 1, p, lv) = _
    rw [show D + 1 - 1 = D by omega]
  induction h with
  | nm h =>
    intro k D p lv h0 h8 hc hl
    rw [scan_tok (name_no h) (name_cp h) h0 (by omega) (.inr fun i hi => by rw [name_lv h] at hi; cases hi)]
    rfl
  | par h ih =>
    intro k D p lv h0 h8 hc hl
    exact par (fun k D p lv h1 h2 => ih k D p lv (by omega) h2 (.inl (by omega)) (by omega)) k D p lv h0 h8
  | keys h ih =>
    intro k D p lv h0 h8 hc hl
    rw [scan_tok (by decide) (by decide) h0 (by omega) (.inr fun i hi => by rw [show lvl kW = none from by decide] at hi; cases hi)]
    exact par (fun k D p lv h1 h2 => ih k D p lv (by omega) h2 (.inl (by omega)) (by omega)) _ D p lv h0 h8
  | @look d d2 l a b ta tb h g ih1 ih2 =>
    intro k D p lv h0 h8 hc hl
    rw [show lW :: oP :: (ta ++ cM :: (tb ++ [cP])) = lW :: oP :: ((ta ++ cM :: tb) ++ [cP]) by simp]
    rw [scan_tok (by decide) (by decide) h0 (by omega) (.inr fun i hi => by rw [show lvl lW = none from by decide] at hi; cases hi)]
    refine par (d := max d d2) (fun k D p lv h1 h2 => ?_) _ D p lv h0 h8
    rw [scan_app, ih1 k D p lv (by omega) (by omega) (.inl (by omega)) (by omega)]
    show scan (cM :: tb) _ D p lv = _
    rw [scan_tok (by decide) (by decide) (by omega) (by omega) (.inl (by omega))]
    exact ih2 _ D p lv (by omega) (by omega) (.inl (by omega)) (by omega)
  | @op d d2 l i w a b ta tb hw hl' h g ih1 ih2 =>
    intro k D p lv h0 h8 hc hl
    have hi := (op_at hw).1
    have hc' := hc
    rw [scan_app, ih1 k D p lv h0 (by omega) (by rcases hc' with q | q; exact .inl q; exact .inr (by omega)) (by omega)]
    show scan (w :: tb) _ D p lv = _
    rw [scan_tok (opw_no hw) (opw_cp hw) h0 (by omega) (by
      rcases hc' with q | q
      · exact .inl q
      · refine .inr fun j hj => ?_
        rw [op_lv hw] at hj
        cases hj
        omega)]
    exact ih2 _ D p lv h0 (by omega) (by rcases hc' with q | q; exact .inl q; exact .inr (by omega)) (by omega)
theorem Dk.found {d l : Nat} {e : Ex} {ts : List Str} (h : Dk d l e ts) : ∀ (k : Nat) (p : Int) (lv : Nat), d ≤ 8 → l ≤ lv → l ≤ 5 → ∃ p' lv', scan ts k 0 p lv = some (0, p', lv') ∧ l ≤ lv' := by
  induction h with
  | @nm l s h =>
    intro k p lv h8 hlv hl
    refine ⟨p, lv, ?_, hlv⟩
    rw [scan_tok (name_no h) (name_cp h) (Int.le_refl _) (by decide) (.inr fun i hi => by rw [name_lv h] at hi; cases hi)]
    rfl
  | @par d l e ts h ih =>
    intro k p lv h8 hlv hl
    refine ⟨p, lv, ?_, hlv⟩
    rw [scan_open (Int.le_refl _) (by decide), scan_app, h.still (k + 1) (0 + 1) p lv (by decide) (by omega) (.inl (by decide)) (by omega)]
    show scan [cP] 0 (0 + 1) p lv = _
    rw [scan_close (by decide) (by decide)]
    rfl
  | @keys d l a ts h ih =>
    intro k p lv h8 hlv hl
    refine ⟨p, lv, ?_, hlv⟩
    rw [scan_tok (by decide) (by decide) (Int.le_refl _) (by decide) (.inr fun i hi => by rw [show lvl kW = none from by decide] at hi; cases hi)]
    rw [scan_open (Int.le_refl _) (by decide), scan_app, h.still (k + 1 + 1) (0 + 1) p lv (by decide) (by omega) (.inl (by decide)) (by omega)]
    show scan [cP] 0 (0 + 1) p lv = _
    rw [scan_close (by decide) (by decide)]
    rfl
  | @look d d2 l a b ta tb h g ih1 ih2 =>
    intro k p lv h8 hlv hl
    refine ⟨p, lv, ?_, hlv⟩
    rw [show lW :: oP :: (ta ++ cM :: (tb ++ [cP])) = lW :: oP :: (ta ++ (cM :: tb ++ [cP])) by simp]
    rw [scan_tok (by decide) (by decide) (Int.le_refl _) (by decide) (.inr fun i hi => by rw [show lvl lW = none from by decide] at hi; cases hi)]
    rw [scan_open (Int.le_refl _) (by decide), scan_app, h.still (k + 1 + 1) (0 + 1) p lv (by decide) (by omega) (.inl (by decide)) (by omega)]
    show scan (cM :: (tb ++ [cP])) _ (0 + 1) p lv = _
    rw [scan_tok (by decide) (by decide) (by decide) (by decide) (.inl (by decide)), scan_app, g.still (k + 1 + 1 + ta.length + 1) (0 + 1) p lv (by decide) (by omega) (.inl (by decide)) (by omega)]
    show scan [cP] 0 (0 + 1) p lv = _
    rw [scan_close (by decide) (by decide)]
    rfl
  | @op d d2 l i w a b ta tb hw hl' h g ih1 ih2 =>
    intro k p lv h8 hlv hl
    have hi := (op_at hw).1
    rcases Nat.lt_or_ge lv i with q | q
    · refine ⟨p, lv, ?_, hlv⟩
      rw [scan_app, h.still k 0 p lv (Int.le_refl _) (by omega) (.inr q) (by omega)]
      show scan (w :: tb) _ 0 p lv = _
      rw [scan_tok (opw_no hw) (opw_cp hw) (Int.le_refl _) (by decide) (.inr fun j hj => by rw [op_lv hw] at hj; cases hj; omega)]
      exact g.still _ 0 _ _ (Int.le_refl _) (by omega) (.inr (by omega)) (by omega)
    · obtain ⟨p', lv', e1, e2⟩ := ih1 k p lv (by omega) q (by omega)
      refine ⟨((k + ta.length : Nat) : Int), i, ?_, hl'⟩
      rw [scan_app, e1]
      show scan (w :: tb) _ 0 p' lv' = _
      rw [scan_op (op_lv hw) e2]
      exact g.still _ 0 _ _ (Int.le_refl _) (by omega) (.inr (by omega)) (by omega)
theorem last_op {d d2 i : Nat} {w : Str} {a b : Ex} {ta tb : List Str} (hw : ops5[i]? = some w) (h : Dk d i a ta) (g : Dk d2 (i + 1) b tb) (h8 : max d d2 ≤ 8) : lastM (ta ++ w :: tb) = some ((ta.length : Int), i) := by
  have hi := (op_at hw).1
  refine lastM_of ?_
  obtain ⟨p', lv', e1, e2⟩ := h.found 0 (-1) 9 (by omega) (by omega) (by omega)
  rw [scan_app, e1]
  show scan (w :: tb) _ 0 p' lv' = _
  rw [scan_op (op_lv hw) e2]
  have := g.still (0 + ta.length + 1) 0 ((0 + ta.length : Nat) : Int) i (Int.le_refl _) (by omega) (.inr (by omega)) (by omega)
  rw [this, Nat.zero_add]
end My
set_option Elab.async false
set_option linter.all false
set_option maxRecDepth 100000
set_option maxHeartbeats 4000000
namespace My
open PySem PySem.Spec PyProof.Rows L2
theorem stp_cases {t : Str} {k : Nat} {d b : Int} {l : Nat} {q : Int × Int × Nat} (h : stp t k d b l = some q) : 0 ≤ q.1 ∧ q.1 ≤ 8 ∧ q.1 = d + (if t = oP then 1 else 0) - (if t = cP then 1 else 0) ∧ ((q.2 = (b, l) ∧ ∀ i, lvl t = some i → q.1 = 0 → l < i) ∨ ∃ i, lvl t = some i ∧ i ≤ l ∧ q = (0, (k : Int), i)) := by
  rw [stp_of rfl rfl] at h
  generalize hx : d + (if t = oP then (1 : Int) else 0) - (if t = cP then (1 : Int) else 0) = d2 at h ⊢
  by_cases c : d2 < 0 ∨ 8 < d2
  · rw [if_pos c] at h; cases h
  · rw [if_neg c] at h
    cases hv : lvl t with
    | none =>
      rw [hv] at h
      cases h
      exact ⟨by show 0 ≤ d2; omega, by show d2 ≤ 8; omega, rfl, .inl ⟨rfl, fun i hi => by cases hi⟩⟩
    | some i =>
      rw [hv] at h
      have h : (if d2 = 0 ∧ i ≤ l then some (d2, (k : Int), i) else some (d2, b, l)) = some q := h
      by_cases z : d2 = 0 ∧ i ≤ l
      · rw [if_pos z] at h
        cases h
        exact ⟨by show 0 ≤ d2; omega, by show d2 ≤ 8; omega, rfl, .inr ⟨i, rfl, z.2, by rw [z.1]⟩⟩
      · rw [if_neg z] at h
        cases h
        refine ⟨by show 0 ≤ d2; omega, by show d2 ≤ 8; omega, rfl, .inl ⟨rfl, fun j hj hz => ?_⟩⟩
        cases hj
        have hz : d2 = 0 := hz
        omega
theorem scan_best : ∀ {r : List Str} {k : Nat} {d b : Int} {l : Nat} {d' b' : Int} {l' : Nat}, scan r k d b l = some (d', b', l') → (b' = b ∧ l' = l) ∨ (k : Int) ≤ b'
  | [], k, d, b, l, d', b', l', h => by cases h; exact .inl ⟨rfl, rfl⟩
  | t :: r, k, d, b, l, d', b', l', h => by
    rw [scan_cons] at h
    cases hs : stp t k d b l with
    | none => rw [hs] at h; cases h
    | some q =>
      rw [hs] at h
      have h : scan r (k + 1) q.1 q.2.1 q.2.2 = some (d', b', l') := h
      rcases scan_best h with ⟨e1, e2⟩ | e
      · rcases (stp_cases hs).2.2.2 with ⟨z, _⟩ | ⟨i, _, _, z⟩
        · rw [z] at e1 e2; exact .inl ⟨e1, e2⟩
        · rw [z] at e1; right; rw [e1]; exact Int.le_refl _
      · right; omega
theorem scan_level : ∀ {r : List Str} {k : Nat} {d b : Int} {l : Nat} {d' b' : Int} {l' : Nat}, scan r k d b l = some (d', b', l') → b' = b → b < k → ∀ (k2 : Nat) (b2 : Int) (l2 : Nat), l < l2 → ∃ b3 l3, scan r k2 d b2 l2 = some (d', b3, l3) ∧ l < l3
  | [], k, d, b, l, d', b', l', h, e, hb, k2, b2, l2, hl => by cases h; exact ⟨b2, l2, rfl, hl⟩
  | t :: r, k, d, b, l, d', b', l', h, e, hb, k2, b2, l2, hl => by
    rw [scan_cons] at h
    cases hs : stp t k d b l with
    | none => rw [hs] at h; cases h
    | some q =>
      rw [hs] at h
      have h : scan r (k + 1) q.1 q.2.1 q.2.2 = some (d', b', l') := h
      obtain ⟨q1, q2, q3, q4⟩ := stp_cases hs
      rcases q4 with ⟨z, hz⟩ | ⟨i, _, _, z⟩
      · rw [z] at h
        have st : ∃ b4 l4, stp t k2 d b2 l2 = some (q.1, b4, l4) ∧ l < l4 := by
          rw [stp_of rfl rfl, ← q3, if_neg (by omega)]
          cases hv : lvl t with
          | none => exact ⟨b2, l2, rfl, hl⟩
          | some i =>
            show ∃ b4 l4, (if q.1 = 0 ∧ i ≤ l2 then some (q.1, (k2 : Int), i) else some (q.1, b2, l2)) = _ ∧ _
            by_cases y : q.1 = 0 ∧ i ≤ l2
            · rw [if_pos y]; exact ⟨_, _, rfl, hz i hv y.1⟩
            · rw [if_neg y]; exact ⟨_, _, rfl, hl⟩
        obtain ⟨b4, l4, e4, hl4⟩ := st
        obtain ⟨b3, l3, e3, hl3⟩ := scan_level h e (by show b < ((k + 1 : Nat) : Int); omega) (k2 + 1) b4 l4 hl4
        exact ⟨b3, l3, by rw [scan_cons, e4]; exact e3, hl3⟩
      · exfalso
        rw [z] at h
        rcases scan_best h with ⟨e1, _⟩ | e1
        · have e1 : b' = (k : Int) := e1
          omega
        · omega
theorem scan_split : ∀ {r : List Str} {k : Nat} {d b : Int} {l : Nat} {d' b' : Int} {l' : Nat}, scan r k d b l = some (d', b', l') → b < k → (k : Int) ≤ b' →
    ∃ (ra : List Str) (w : Str) (rb : List Str) (b1 : Int) (l1 : Nat), r = ra ++ w :: rb ∧ b' = ((k + ra.length : Nat) : Int) ∧ lvl w = some l' ∧ scan ra k d b l = some (0, b1, l1) ∧ l' ≤ l1 ∧ scan rb (k + ra.length + 1) 0 b' l' = some (d', b', l')
  | [], k, d, b, l, d', b', l', h, hb, hk => by cases h; omega
  | t :: r, k, d, b, l, d', b', l', h, hb, hk => by
    rw [scan_cons] at h
    cases hs : stp t k d b l with
    | none => rw [hs] at h; cases h
    | some q =>
      rw [hs] at h
      have h : scan r (k + 1) q.1 q.2.1 q.2.2 = some (d', b', l') := h
      obtain ⟨q1, q2, q3, q4⟩ := stp_cases hs
      by_cases hk1 : ((k + 1 : Nat) : Int) ≤ b'
      · have hq : q.2.1 < ((k + 1 : Nat) : Int) := by
          rcases q4 with ⟨z, _⟩ | ⟨i, _, _, z⟩
          · rw [z]; show b < _; omega
          · rw [z]; show (k : Int) < _; omega
        obtain ⟨ra, w, rb, b1, l1, e1, e2, e3, e4, e5, e6⟩ := scan_split h hq hk1
        refine ⟨t :: ra, w, rb, b1, l1, by rw [e1]; rfl, by rw [e2, List.length_cons]; omega, e3, by rw [scan_cons, hs]; exact e4, e5, ?_⟩
        rw [List.length_cons, show k + (ra.length + 1) + 1 = k + 1 + ra.length + 1 by omega]
        exact e6
      · have hb' : b' = (k : Int) := by omega
        rcases scan_best h with ⟨e1, e2⟩ | e1
        · rcases q4 with ⟨z, _⟩ | ⟨i, hi, hl, z⟩
          · rw [z] at e1
            have : b' = b := e1
            omega
          · rw [z] at h e1 e2
            have e2 : l' = i := e2
            subst e2
            have t1 : t ≠ oP := fun y => by rw [y] at hi; cases hi
            have t2 : t ≠ cP := fun y => by rw [y] at hi; cases hi
            have d0 : d = 0 := by
              rw [if_neg t1, if_neg t2, z] at q3
              have q3 : (0 : Int) = d + 0 - 0 := q3
              omega
            subst d0
            refine ⟨[], t, r, b, l, rfl, hb', hi, rfl, hl, ?_⟩
            rw [hb'] at h ⊢
            exact h
        · omega
def azFirst : List Nat → Bool
  | [] => false
  | c :: _ => decide (97 ≤ c ∧ c ≤ 122)
def nameL (t : Str) : Bool := (decide (t.length = 1) || decide (t.length = 2) || decide (t.length = 3) || decide (t.length = 4)) && !(decide (t = "keys") || decide (t = "look") || decide (t = "self")) && azFirst (letters t)
def sidesM (f : List Str → Option Ex) (ins : List Str) (k : Nat) : Option Ex := if ins[k]? = some cM then (match f (ins.take k), f (ins.drop (k + 1)) with | some a, some b => some (.bin lW a b) | _, _ => none) else none
def callM (f : List Str → Option Ex) (w : Str) (ins : List Str) : Option Ex :=
  if w = kW then (f ins).map .keys else if w ≠ lW then none else (List.range ins.length).findSome? (sidesM f ins)
def parM : Nat → List Str → Option Ex
  | 0, _ => none
  | n + 1, ts => match lastM ts with
    | none => none
    | some (b, _) =>
      if ts = [] then none else
      if 0 ≤ b then (match parM n (ts.take b.toNat), parM n (ts.drop (b.toNat + 1)) with | some a, some c => some (.bin (ts.getD b.toNat "") a c) | _, _ => none) else
      if ts.length = 1 then (if nameL (ts.getD 0 "") = true then some (.nm (ts.getD 0 "")) else none) else
      if ts.getD (ts.length - 1) "" ≠ cP then none else
      if ts.getD 0 "" = oP then parM n ((ts.drop 1).take (ts.length - 2)) else
      if ts.length < 4 ∨ ts.getD 1 "" ≠ oP then none else
      callM (parM n) (ts.getD 0 "") ((ts.drop 2).take (ts.length - 3))
theorem last_end {ts : List Str} {t : Str} (h : 2 ≤ ts.length) (e : ts.getD (ts.length - 1) "" = t) : ts = ts.getD 0 "" :: ((ts.drop 1).take (ts.length - 2) ++ [t]) := by
  match ts, h with
  | x :: y :: r, _ =>
    have e2 : (x :: y :: r).length - 2 = r.length := by simp
    have e3 : (x :: y :: r).length - 1 = r.length + 1 := by simp
    rw [e3] at e
    rw [e2]
    show x :: y :: r = x :: (List.take r.length (y :: r) ++ [t])
    congr 1
    have hl : (y :: r).getD r.length "" = t := by simpa using e
    have : (y :: r) = List.take r.length (y :: r) ++ [(y :: r).getD r.length ""] := by
      have h1 : r.length < (y :: r).length := by simp
      conv => lhs; rw [← List.take_append_drop r.length (y :: r)]
      congr 1
      rw [List.drop_eq_getElem_cons h1, List.drop_of_length_le (by simp)]
      simp [List.getD, h1]
    rw [← hl]
    exact this
theorem parM_sound : ∀ (n : Nat) (ts : List Str) (e : Ex), (∀ t ∈ ts, nameL t = nameOk t) → parM n ts = some e → ∃ (k : Nat) (b : Int) (l : Nat), lastM ts = some (b, l) ∧ Dk k (min 5 l) e ts
  | 0, ts, e, hN, h => by cases h
  | n + 1, ts, e, hN, h => by
    unfold parM at h
    cases hl : lastM ts with
    | none => rw [hl] at h; cases h
    | some q =>
      obtain ⟨b, l⟩ := q
      rw [hl] at h
      simp only at h
      have ih := parM_sound n
      split at h
      · cases h
      rename_i hne
      have sc := lastM_some hl
      split at h
      · -- an operator
        rename_i hb
        split at h
        · rename_i x y hx hy
          cases h
          obtain ⟨ra, w, rb, b1, l1, e1, e2, e3, e4, e5, e6⟩ := scan_split sc (by decide) (by simpa using hb)
          rw [Nat.zero_add] at e2 e6
          have hbn : b.toNat = ra.length := by omega
          have hi := (lvl_at e3)
          have et : ts.take b.toNat = ra := by rw [hbn, e1]; simp
          have ed : ts.drop (b.toNat + 1) = rb := by rw [hbn, e1]; simp
          have ew : ts.getD b.toNat "" = w := by rw [hbn, e1]; simp [List.getD]
          rw [et] at hx
          rw [ed] at hy
          rw [ew]
          have sub1 : ∀ t ∈ ra, nameL t = nameOk t := fun t ht => hN t (by rw [e1]; exact List.mem_append_left _ ht)
          have sub2 : ∀ t ∈ rb, nameL t = nameOk t := fun t ht => hN t (by rw [e1]; exact List.mem_append_right _ (List.mem_cons_of_mem _ ht))
          obtain ⟨k1, b3, l3, z1, D1⟩ := ih ra x sub1 hx
          obtain ⟨k2, b4, l4, z2, D2⟩ := ih rb y sub2 hy
          have z3 := lastM_some z1
          rw [e4] at z3
          cases z3
          obtain ⟨b5, l5, z5, hl5⟩ := scan_level e6 rfl (by rw [e2]; show (ra.length : Int) < ((ra.length + 1 : Nat) : Int); omega) 0 (-1) 9 (by have := hi.1; omega)
          have z6 := lastM_some z2
          rw [z5] at z6
          cases z6
          have hi5 := hi.1
          refine ⟨max k1 k2, b, l, rfl, ?_⟩
          rw [e1, show min 5 l = l by omega]
          exact .op hi.2 (Nat.le_refl _) (D1.low (by omega)) (D2.low (by omega))
        · cases h
      · rename_i hb
        have hl9 : l = 9 := by
          rcases scan_best sc with ⟨z, z2⟩ | z
          · exact z2
          · exact absurd (by simpa using z) hb
        subst hl9
        suffices h5 : ∃ k, Dk k 5 e ts by
          obtain ⟨k, D⟩ := h5
          exact ⟨k, b, 9, rfl, D⟩
        split at h
        · rename_i h1
          split at h
          · rename_i hn
            cases h
            obtain ⟨t, rfl⟩ : ∃ t, ts = [t] := List.length_eq_one_iff.mp h1
            have : nameOk t = true := by rw [← hN t List.mem_cons_self]; exact hn
            exact ⟨0, .nm this⟩
          · cases h
        rename_i h1
        have h2 : 2 ≤ ts.length := by
          have : ts.length ≠ 0 := fun z => hne (List.length_eq_zero_iff.mp z)
          omega
        split at h
        · cases h
        rename_i hlast
        have hlast : ts.getD (ts.length - 1) "" = cP := by
          by_cases z : ts.getD (ts.length - 1) "" = cP
          · exact z
          · exact absurd z hlast
        have et := last_end h2 hlast
        split at h
        · rename_i h0
          have sub : ∀ t ∈ (ts.drop 1).take (ts.length - 2), nameL t = nameOk t := fun t ht => hN t (List.mem_of_mem_drop (List.mem_of_mem_take ht))
          obtain ⟨k1, b3, l3, z1, D1⟩ := ih _ e sub h
          rw [et, h0]
          exact ⟨_, .par (D1.low (Nat.zero_le _))⟩
        rename_i h0
        split at h
        · cases h
        rename_i h4
        have h4a : 4 ≤ ts.length := by omega
        have h4b : ts.getD 1 "" = oP := by
          by_cases z : ts.getD 1 "" = oP
          · exact z
          · exact absurd (.inr z) h4
        have eins : ts = ts.getD 0 "" :: oP :: ((ts.drop 2).take (ts.length - 3) ++ [cP]) := by
          match ts, h4a with
          | x :: y :: r, h4a =>
            have h4b : y = oP := h4b
            have q := last_end (ts := y :: r) (t := cP) (by simp at h4a ⊢; omega) (by
              have : (x :: y :: r).length - 1 = (y :: r).length - 1 + 1 := by simp
              rw [this] at hlast
              simpa [List.getD] using hlast)
            have e3 : (x :: y :: r).length - 3 = (y :: r).length - 2 := by simp
            rw [e3]
            show x :: y :: r = x :: oP :: ((r.take ((y :: r).length - 2)) ++ [cP])
            have q : y :: r = y :: ((r.take ((y :: r).length - 2)) ++ [cP]) := q
            rw [← h4b]
            congr 1
        have sub : ∀ t ∈ (ts.drop 2).take (ts.length - 3), nameL t = nameOk t := fun t ht => hN t (List.mem_of_mem_drop (List.mem_of_mem_take ht))
        generalize (ts.drop 2).take (ts.length - 3) = ins at h eins sub
        unfold callM at h
        split at h
        · rename_i hk
          cases hx : parM n ins with
          | none => rw [hx] at h; cases h
          | some x =>
            rw [hx] at h
            cases h
            obtain ⟨k1, b3, l3, z1, D1⟩ := ih _ x sub hx
            rw [eins, hk]
            exact ⟨_, .keys (D1.low (Nat.zero_le _))⟩
        · split at h
          · cases h
          rename_i hw
          have hw : ts.getD 0 "" = lW := by
            by_cases z : ts.getD 0 "" = lW
            · exact z
            · exact absurd z hw
          obtain ⟨k, _, hk⟩ := List.exists_of_findSome?_eq_some h
          unfold sidesM at hk
          split at hk
          · rename_i hc
            split at hk
            · rename_i x y hx hy
              cases hk
              obtain ⟨hlt, hck⟩ := List.getElem?_eq_some_iff.mp hc
              have e5 : ins = ins.take k ++ cM :: ins.drop (k + 1) := by rw [← hck, ← List.drop_eq_getElem_cons hlt, List.take_append_drop]
              obtain ⟨k1, b3, l3, z1, D1⟩ := ih _ x (fun t ht => sub t (List.mem_of_mem_take ht)) hx
              obtain ⟨k2, b4, l4, z2, D2⟩ := ih _ y (fun t ht => sub t (List.mem_of_mem_drop ht)) hy
              have D := Dk.look (l := 5) (D1.low (Nat.zero_le _)) (D2.low (Nat.zero_le _))
              have e6 : lW :: oP :: (ins.take k ++ cM :: (ins.drop (k + 1) ++ [cP])) = ts := by
                rw [eins, hw]
                conv => rhs; rw [e5]
                simp
              rw [e6] at D
              exact ⟨_, D⟩
            · cases hk
          · cases hk
end My
set_option Elab.async false
set_option linter.all false
set_option maxRecDepth 100000
set_option maxHeartbeats 4000000
namespace My
open PySem PySem.Spec PyProof.Rows L2
def SndB (m l : Nat) (p : Ps) : Prop := ∀ ts d r, p ts = some (d, r) → ∃ (k : Nat) (e : Ex) (ta : List Str), ts = ta ++ r ∧ d = e.d ∧ k < m ∧ Dk k l e ta
theorem sb_parts1 {m : Nat} {p : Ps} (hp : SndB m 0 p) {ts : List Str} {d : PyData} {r : List Str} (h : pParts1 p ts = some (d, r)) : ∃ k e ta, ts = oP :: (ta ++ cP :: r) ∧ d = e.d ∧ k < m ∧ Dk k 0 e ta := by
  unfold pParts1 at h
  split at h
  · cases h
  · rename_i r1 h1
    split at h
    · cases h
    · rename_i d2 r2 h2
      split at h
      · cases h
      · rename_i r3 h3
        cases h
        obtain ⟨k, e, ta, e1, e2, km, D⟩ := hp _ _ _ h2
        exact ⟨k, e, ta, by rw [tok_some h1, e1, tok_some h3], e2, km, D⟩
theorem sb_parts2 {m : Nat} {p : Ps} (hp : SndB m 0 p) {ts : List Str} {d d2 : PyData} {r : List Str} (h : pParts2 p ts = some (d, d2, r)) : ∃ k e ta k2 e2 tb, ts = oP :: (ta ++ cM :: (tb ++ cP :: r)) ∧ d = e.d ∧ k < m ∧ Dk k 0 e ta ∧ d2 = e2.d ∧ k2 < m ∧ Dk k2 0 e2 tb := by
  unfold pParts2 at h
  split at h
  · cases h
  · rename_i r1 h1
    split at h
    · cases h
    · rename_i d3 r2 h2
      split at h
      · cases h
      · rename_i r3 h3
        split at h
        · cases h
        · rename_i d4 r4 h4
          split at h
          · cases h
          · rename_i r5 h5
            cases h
            obtain ⟨k, e, ta, e1, e2, km, D⟩ := hp _ _ _ h2
            obtain ⟨k2, e3, tb, e4, e5, km2, D2⟩ := hp _ _ _ h4
            exact ⟨k, e, ta, k2, e3, tb, by rw [tok_some h1, e1, tok_some h3, e4, tok_some h5], e2, km, D, e5, km2, D2⟩
theorem sb_single {m : Nat} {p : Ps} (hp : SndB m 0 p) : SndB (m + 1) 5 (pSingle p) := by
  intro ts d r h
  cases ts with
  | nil => cases h
  | cons t tl =>
    unfold pSingle at h
    simp only at h
    split at h
    · rename_i hn
      cases h
      exact ⟨0, .nm t, [t], rfl, rfl, by omega, .nm hn⟩
    · split at h
      · rename_i e
        subst e
        split at h
        · cases h
        · rename_i d1 q h1
          cases h
          obtain ⟨k, e, ta, e1, e2, km, D⟩ := sb_parts1 hp h1
          refine ⟨k + 1, .keys e, kW :: oP :: (ta ++ [cP]), ?_, ?_, by omega, .keys D⟩
          · rw [e1]; simp
          · rw [e2]; rfl
      · split at h
        · rename_i e
          subst e
          split at h
          · cases h
          · rename_i d1 d2 q h1
            cases h
            obtain ⟨k, e, ta, k2, e3, tb, e1, e2, km, D, e4, km2, D2⟩ := sb_parts2 hp h1
            refine ⟨max k k2 + 1, .bin lW e e3, lW :: oP :: (ta ++ cM :: (tb ++ [cP])), ?_, ?_, by omega, .look D D2⟩
            · rw [e1]; simp
            · rw [e2, e4]; rfl
        · obtain ⟨k, e, ta, e1, e2, km, D⟩ := sb_parts1 hp h
          exact ⟨k + 1, e, oP :: (ta ++ [cP]), by rw [e1]; simp, e2, by omega, .par D⟩
theorem sb_loop {m : Nat} {sub : Ps} {i : Nat} {op : Str} (hw : ops5[i]? = some op) (hs : SndB m (i + 1) sub) : ∀ (n : Nat) (l : PyData) (r : List Str) (k : Nat) (e : Ex) (ta ts : List Str) (d : PyData) (q : List Str),
    l = e.d → k < m → Dk k i e ta → ts = ta ++ r → pLoop op sub n l r = some (d, q) → ∃ (k : Nat) (e : Ex) (ta : List Str), ts = ta ++ q ∧ d = e.d ∧ k < m ∧ Dk k i e ta := by
  intro n
  induction n with
  | zero =>
    intro l r k e ta ts d q hl km D ht h
    cases h
    exact ⟨k, e, ta, ht, hl, km, D⟩
  | succ n ih =>
    intro l r k e ta ts d q hl km D ht h
    unfold pLoop at h
    split at h
    · cases h
      exact ⟨k, e, ta, ht, hl, km, D⟩
    · rename_i r1 h1
      split at h
      · cases h
      · rename_i d2 r2 h2
        obtain ⟨k2, e2, tb, e3, e4, km2, D2⟩ := hs _ _ _ h2
        refine ih _ _ (max k k2) (.bin op e e2) (ta ++ op :: tb) ts d q ?_ (by omega) (.op hw (Nat.le_refl _) D D2) ?_ h
        · rw [hl, e4]; rfl
        · rw [ht, tok_some h1, e3]; simp
theorem sb_lev {k0 : Nat} {p : Ps} (hp : SndB k0 5 p) : ∀ m, m ≤ 5 → SndB k0 (5 - m) (pLev p m)
  | 0, _ => hp
  | m + 1, hm => by
    have ih := sb_lev hp m (by omega)
    intro ts d r h
    unfold pLev at h
    split at h
    · cases h
    · rename_i l r1 h1
      obtain ⟨k, e, ta, e1, e2, km, D⟩ := ih _ _ _ h1
      have hw : ops5[5 - (m + 1)]? = some (opAt m) := by
        have : m = 0 ∨ m = 1 ∨ m = 2 ∨ m = 3 ∨ m = 4 := by omega
        rcases this with rfl | rfl | rfl | rfl | rfl <;> rfl
      have ih' : SndB k0 (5 - (m + 1) + 1) (pLev p m) := by rw [show 5 - (m + 1) + 1 = 5 - m by omega]; exact ih
      exact sb_loop hw ih' _ _ _ k e ta ts d r e2 km (D.low (by omega)) e1 h
theorem sb_in : ∀ n, SndB n 0 (pIn n)
  | 0 => fun _ _ _ h => by cases h
  | n + 1 => sb_lev (sb_single (sb_in n)) 5 (Nat.le_refl _)
theorem pE_ex8 {ts : List Str} {d : PyData} (h : pE ts = some d) : ∃ k e, d = e.d ∧ k < 9 ∧ Dk k 0 e ts := by
  unfold pE at h
  split at h
  · rename_i d2 h1
    cases h
    obtain ⟨k, e, ta, e1, e2, km, D⟩ := sb_in 9 _ _ _ h1
    rw [List.append_nil] at e1
    exact ⟨k, e, e2, km, e1 ▸ D⟩
  · cases h
theorem Dk.ne {d l : Nat} {e : Ex} {ts : List Str} (h : Dk d l e ts) : 1 ≤ ts.length := by
  cases h with
  | nm h => exact Nat.le_refl _
  | par h => simp
  | keys h => simp
  | look h g => simp
  | op hw hl h g => simp; omega
theorem dk_deep {d d' : Nat} {l l' : Nat} {e e' : Ex} {ts : List Str} (h : Dk d l e ts) (g : Dk d' l' e' ts) : d = d' := by
  have h1 := h.open_ (0, 0) (Int.le_refl _)
  have h2 := g.open_ (0, 0) (Int.le_refl _)
  rw [h1] at h2
  have h3 : max (0 : Int) (0 + (d : Int)) = max 0 (0 + (d' : Int)) := congrArg Prod.snd h2
  omega
theorem dk_one {d d' : Nat} {e e' : Ex} {ts : List Str} (h : Dk d 0 e ts) (g : Dk d' 0 e' ts) (h8 : d ≤ 8) : e = e' := by
  have h1 := rd_pE (h.rd 8 h8)
  have h2 := rd_pE (g.rd 8 (dk_deep h g ▸ h8))
  exact Ex.d_inj (Option.some.inj (h1.symm.trans h2))
theorem top_none {d : Nat} {e : Ex} {ts : List Str} (h : Dk d 5 e ts) (h8 : d ≤ 8) : lastM ts = some (-1, 9) := by
  obtain ⟨p, lv, e1, e2⟩ := h.found 0 (-1) 9 h8 (by decide) (Nat.le_refl _)
  rcases scan_best e1 with ⟨q1, q2⟩ | q
  · rw [q1, q2] at e1
    exact lastM_of e1
  · obtain ⟨ra, w, rb, b1, l1, z1, z2, z3, z4, z5, z6⟩ := scan_split e1 (by decide) q
    have := (lvl_at z3).1
    omega
theorem getD_last (x : List Str) (t : Str) : (x ++ [t]).getD ((x ++ [t]).length - 1) "" = t := by simp [List.getD]
theorem parM_total {d l : Nat} {e : Ex} {ts : List Str} (h : Dk d l e ts) : d ≤ 8 → l ≤ 5 → (∀ t ∈ ts, nameL t = nameOk t) → ∀ n, ts.length ≤ n → parM n ts = some e := by
  induction h with
  | @nm l s h =>
    intro h8 hl hN n hn
    obtain ⟨n, rfl⟩ : ∃ m, n = m + 1 := ⟨n - 1, by simp at hn; omega⟩
    have hx : nameL s = true := by rw [hN s List.mem_cons_self]; exact h
    unfold parM
    rw [top_none (.nm h) h8]
    show (if [s] = [] then none else if (0 : Int) ≤ -1 then _ else if [s].length = 1 then (if nameL s = true then some (Ex.nm s) else none) else _) = _
    rw [if_neg (by simp), if_neg (by decide), if_pos (show [s].length = 1 from rfl), if_pos hx]
  | @par d l e ts h ih =>
    intro h8 hl hN n hn
    have hne := h.ne
    obtain ⟨n, rfl⟩ : ∃ m, n = m + 1 := ⟨n - 1, by simp at hn; omega⟩
    have ih := ih (by omega) (by omega) (fun t ht => hN t (List.mem_cons_of_mem _ (List.mem_append_left _ ht))) n (by simp at hn; omega)
    unfold parM
    rw [top_none (.par h) h8]
    simp only
    rw [if_neg (by simp), if_neg (by decide), if_neg (by simp)]
    have e1 : (oP :: (ts ++ [cP])).getD ((oP :: (ts ++ [cP])).length - 1) "" = cP := by simp [List.getD]
    rw [if_neg (by rw [e1]; simp), if_pos (show (oP :: (ts ++ [cP])).getD 0 "" = oP from rfl)]
    have e2 : (((oP :: (ts ++ [cP])).drop 1).take ((oP :: (ts ++ [cP])).length - 2)) = ts := by simp
    rw [e2]
    exact ih
  | @keys d l a ts h ih =>
    intro h8 hl hN n hn
    have hne := h.ne
    obtain ⟨n, rfl⟩ : ∃ m, n = m + 1 := ⟨n - 1, by simp at hn; omega⟩
    have ih := ih (by omega) (by omega) (fun t ht => hN t (List.mem_cons_of_mem _ (List.mem_cons_of_mem _ (List.mem_append_left _ ht)))) n (by simp at hn; omega)
    unfold parM
    rw [top_none (.keys h) h8]
    simp only
    rw [if_neg (by simp), if_neg (by decide), if_neg (by simp)]
    have e1 : (kW :: oP :: (ts ++ [cP])).getD ((kW :: oP :: (ts ++ [cP])).length - 1) "" = cP := by simp [List.getD]
    rw [if_neg (by rw [e1]; simp), if_neg (show ¬ (kW :: oP :: (ts ++ [cP])).getD 0 "" = oP from (by decide : ¬ kW = oP)), if_neg (by
      rintro (z | z)
      · simp at z; omega
      · exact z rfl)]
    have e2 : (((kW :: oP :: (ts ++ [cP])).drop 2).take ((kW :: oP :: (ts ++ [cP])).length - 3)) = ts := by simp
    rw [e2]
    show callM (parM n) kW ts = _
    unfold callM
    rw [if_pos rfl, ih]
    rfl
  | @look d d2 l a b ta tb h g ih1 ih2 =>
    intro h8 hl hN n hn
    have hna := h.ne
    have hnb := g.ne
    obtain ⟨n, rfl⟩ : ∃ m, n = m + 1 := ⟨n - 1, by simp at hn; omega⟩
    have ih1 := ih1 (by omega) (by omega) (fun t ht => hN t (List.mem_cons_of_mem _ (List.mem_cons_of_mem _ (List.mem_append_left _ ht)))) n (by simp at hn; omega)
    have ih2 := ih2 (by omega) (by omega) (fun t ht => hN t (List.mem_cons_of_mem _ (List.mem_cons_of_mem _ (List.mem_append_right _ (List.mem_cons_of_mem _ (List.mem_append_left _ ht)))))) n (by simp at hn; omega)
    have some_ : ∃ x, parM (n + 1) (lW :: oP :: (ta ++ cM :: (tb ++ [cP]))) = some x := by
      unfold parM
      rw [top_none (.look h g) h8]
      simp only
      rw [if_neg (by simp), if_neg (by decide), if_neg (by simp)]
      have e1 : (lW :: oP :: (ta ++ cM :: (tb ++ [cP]))).getD ((lW :: oP :: (ta ++ cM :: (tb ++ [cP]))).length - 1) "" = cP := by
        have : lW :: oP :: (ta ++ cM :: (tb ++ [cP])) = (lW :: oP :: (ta ++ cM :: tb)) ++ [cP] := by simp
        rw [this]
        exact getD_last _ _
      rw [if_neg (by rw [e1]; simp), if_neg (show ¬ (lW :: oP :: (ta ++ cM :: (tb ++ [cP]))).getD 0 "" = oP from (by decide : ¬ lW = oP)), if_neg (by
        rintro (z | z)
        · simp at z; omega
        · exact z rfl)]
      have e2 : (((lW :: oP :: (ta ++ cM :: (tb ++ [cP]))).drop 2).take ((lW :: oP :: (ta ++ cM :: (tb ++ [cP]))).length - 3)) = ta ++ cM :: tb := by
        have : lW :: oP :: (ta ++ cM :: (tb ++ [cP])) = lW :: oP :: ((ta ++ cM :: tb) ++ [cP]) := by simp
        rw [this]
        generalize ta ++ cM :: tb = u
        simp
      rw [e2]
      show ∃ x, callM (parM n) lW (ta ++ cM :: tb) = some x
      unfold callM
      rw [if_neg (by decide), if_neg (by simp)]
      cases q : (List.range (ta ++ cM :: tb).length).findSome? (sidesM (parM n) (ta ++ cM :: tb)) with
      | some x => exact ⟨x, rfl⟩
      | none =>
        exfalso
        have := (List.findSome?_eq_none_iff.mp q) ta.length (by simp)
        unfold sidesM at this
        have c1 : (ta ++ cM :: tb)[ta.length]? = some cM := by simp
        have c2 : (ta ++ cM :: tb).take ta.length = ta := by simp
        have c3 : (ta ++ cM :: tb).drop (ta.length + 1) = tb := by simp
        rw [if_pos c1, c2, c3, ih1, ih2] at this
        cases this
    obtain ⟨x, hx⟩ := some_
    obtain ⟨k, b0, l0, z, D⟩ := parM_sound _ _ _ hN hx
    have := dk_one (Dk.look (l := 0) h g) (D.low (Nat.zero_le _)) h8
    rw [hx, this]
  | @op d d2 l i w a b ta tb hw hl' h g ih1 ih2 =>
    intro h8 hl hN n hn
    have hi := (op_at hw).1
    have hna := h.ne
    obtain ⟨n, rfl⟩ : ∃ m, n = m + 1 := ⟨n - 1, by simp at hn; omega⟩
    have ih1 := ih1 (by omega) (by omega) (fun t ht => hN t (List.mem_append_left _ ht)) n (by simp at hn; omega)
    have ih2 := ih2 (by omega) (by omega) (fun t ht => hN t (List.mem_append_right _ (List.mem_cons_of_mem _ ht))) n (by simp at hn; omega)
    unfold parM
    rw [last_op hw h g h8]
    simp only
    have c2 : (ta ++ w :: tb).take ((ta.length : Int)).toNat = ta := by simp
    have c3 : (ta ++ w :: tb).drop (((ta.length : Int)).toNat + 1) = tb := by simp
    have c4 : (ta ++ w :: tb).getD ((ta.length : Int)).toNat "" = w := by simp [List.getD]
    rw [if_neg (by simp), if_pos (by omega), c2, c3, c4, ih1, ih2]
theorem scan_max : ∀ {r : List Str} {k : Nat} {d b : Int} {l : Nat} {q : Int × Int × Nat} {m : Int}, scan r k d b l = some q → m ≤ 8 → (r.foldl opF (d, m)).2 ≤ 8
  | [], k, d, b, l, q, m, h, hm => hm
  | t :: r, k, d, b, l, q, m, h, hm => by
    rw [scan_cons] at h
    cases hs : stp t k d b l with
    | none => rw [hs] at h; cases h
    | some p =>
      rw [hs] at h
      obtain ⟨q1, q2, q3, _⟩ := stp_cases hs
      rw [List.foldl_cons]
      have e : opF (d, m) t = (p.1, max m p.1) := by
        unfold opF
        rw [q3]
      rw [e]
      exact scan_max (r := r) h (by omega)
theorem par_pE {ts : List Str} (hN : ∀ t ∈ ts, nameL t = nameOk t) {n : Nat} (hn : ts.length ≤ n) : (parM n ts).map Ex.d = pE ts := by
  cases h : pE ts with
  | some d =>
    obtain ⟨k, e, rfl, hk, D⟩ := pE_ex8 h
    rw [parM_total D (by omega) (by omega) hN n hn]
    rfl
  | none =>
    cases q : parM n ts with
    | none => rfl
    | some e =>
      exfalso
      obtain ⟨k, b, l, hl, D⟩ := parM_sound n ts e hN q
      have hm := scan_max (m := 0) (lastM_some hl) (by decide)
      have D0 := D.low (Nat.zero_le _)
      rw [D0.open_ (0, 0) (Int.le_refl _)] at hm
      have hm : max (0 : Int) (0 + (k : Int)) ≤ 8 := hm
      have := rd_pE (D0.rd 8 (by omega))
      rw [h] at this
      cases this
end My
set_option Elab.async false
set_option linter.all false
set_option maxRecDepth 100000
set_option maxHeartbeats 4000000
namespace My
open PySem PySem.Spec PyProof.Rows L2
def opC : List Nat := [124, 94, 38, 45, 64]
def cutW (w : List Nat) : List Str := if w = [] then [] else [ofL w]
def ltk : List Nat → Option Nat → List Str → List Nat → Option (List Str)
  | [], _, f, w => some (f ++ cutW w)
  | c :: r, pv, f, w =>
    if 97 ≤ c ∧ c ≤ 122 then ltk r (some c) f (w ++ [c]) else
    if c = 61 ∧ (∃ p, pv = some p ∧ p ∈ opC) then ltk r (some c) ((f ++ cutW w).set ((f ++ cutW w).length - 1) (ofL [pv.getD 0, 61])) []
    else if c ∈ [40, 41, 61, 44, 124, 94, 38, 45, 64] then ltk r (some c) (f ++ cutW w ++ [ofL [c]]) []
    else if c ≠ 32 then none
    else ltk r (some c) (f ++ cutW w) []
def goodC (c : Nat) : Prop := (97 ≤ c ∧ c ≤ 122) ∨ c = 32 ∨ c ∈ signL
theorem az_no {c : Nat} (h : 97 ≤ c ∧ c ≤ 122) : c ≠ 32 ∧ c ∉ signL ∧ c ≠ 61 := by
  refine ⟨by omega, fun m => ?_, by omega⟩
  have : ∀ c ∈ signL, ¬ (97 ≤ c ∧ c ≤ 122) := by decide
  exact this c m h
theorem sg_no {c : Nat} (h : c ∈ signL) : ¬ (97 ≤ c ∧ c ≤ 122) ∧ c ≠ 32 ∧ c ≠ 61 ∧ c ∈ [40, 41, 61, 44, 124, 94, 38, 45, 64] := by
  have : ∀ c ∈ signL, ¬ (97 ≤ c ∧ c ≤ 122) ∧ c ≠ 32 ∧ c ≠ 61 ∧ c ∈ [40, 41, 61, 44, 124, 94, 38, 45, 64] := by decide
  exact this c h
theorem cut_flush (w : List Nat) (l : List (List Nat)) : (flush w l).map ofL = cutW w ++ l.map ofL := by
  unfold flush cutW
  split <;> rfl
theorem ltk_good : ∀ (L : List Nat) (pv : Option Nat) (f : List Str) (w : List Nat), (∀ c ∈ L, goodC c) → ltk L pv f w = some (f ++ (wl w L).map ofL)
  | [], pv, f, w, h => by unfold ltk wl; rw [cut_flush, List.map_nil, List.append_nil]
  | c :: r, pv, f, w, h => by
    have hr : ∀ c ∈ r, goodC c := fun x hx => h x (List.mem_cons_of_mem _ hx)
    unfold ltk wl
    rcases h c List.mem_cons_self with q | q | q
    · obtain ⟨n1, n2, n3⟩ := az_no q
      rw [if_pos q, if_neg n1, if_neg n2]
      exact ltk_good r _ f (w ++ [c]) hr
    · subst q
      rw [if_neg (by omega), if_neg (by omega), if_neg (by decide), if_neg (by simp), if_pos rfl, cut_flush, ltk_good r _ _ [] hr, List.append_assoc]
    · obtain ⟨n1, n2, n3, n4⟩ := sg_no q
      rw [if_neg n1, if_neg (fun z => n3 z.1), if_pos n4, if_neg n2, if_pos q, cut_flush, ltk_good r _ _ [] hr, List.map_cons]
      simp
def tokL (t : Str) : Prop := (letters t ≠ [] ∧ ∀ c ∈ letters t, 97 ≤ c ∧ c ≤ 122) ∨ ∃ c r, letters t = c :: r ∧ ¬ (97 ≤ c ∧ c ≤ 122)
theorem tokL_cut {w : List Nat} (h : ∀ c ∈ w, 97 ≤ c ∧ c ≤ 122) : ∀ t ∈ cutW w, tokL t := by
  intro t ht
  unfold cutW at ht
  split at ht
  · cases ht
  · rename_i q
    rw [List.mem_singleton.mp ht]
    exact .inl ⟨q, h⟩
theorem opC_no {p : Nat} (h : p ∈ opC) : ¬ (97 ≤ p ∧ p ≤ 122) := by
  have : ∀ p ∈ opC, ¬ (97 ≤ p ∧ p ≤ 122) := by decide
  exact this p h
def has61 (f : List Str) : Prop := ∃ t ∈ f, 61 ∈ letters t
theorem ltk_any : ∀ (L : List Nat) (pv : Option Nat) (f : List Str) (w : List Nat) (ts : List Str), ltk L pv f w = some ts → (∀ t ∈ f, tokL t) → (∀ c ∈ w, 97 ≤ c ∧ c ≤ 122) → ((∃ p, pv = some p ∧ p ∈ opC) → f ≠ [] ∧ w = []) →
    (∀ t ∈ ts, tokL t) ∧ (∀ c ∈ L, goodC c ∨ c = 61) ∧ (has61 f ∨ 61 ∈ L → has61 ts) ∧ ts.length ≤ f.length + (cutW w).length + L.length
  | [], pv, f, w, ts, h, hf, hw, hp => by
    unfold ltk at h
    cases h
    refine ⟨fun t ht => ?_, fun c hc => by simp at hc, fun z => ?_, ?_⟩
    · rcases List.mem_append.mp ht with q | q
      · exact hf t q
      · exact tokL_cut hw t q
    · rcases z with ⟨t, h1, h2⟩ | z
      · exact ⟨t, List.mem_append_left _ h1, h2⟩
      · cases z
    · rw [List.length_append]
      exact Nat.le_refl _
  | c :: r, pv, f, w, ts, h, hf, hw, hp => by
    have hfw : ∀ t ∈ f ++ cutW w, tokL t := fun t ht => by
      rcases List.mem_append.mp ht with q | q
      · exact hf t q
      · exact tokL_cut hw t q
    have lfw : (f ++ cutW w).length = f.length + (cutW w).length := List.length_append
    have c0 : (cutW []).length = 0 := rfl
    have keep : has61 f → has61 (f ++ cutW w) := fun ⟨t, h1, h2⟩ => ⟨t, List.mem_append_left _ h1, h2⟩
    unfold ltk at h
    split at h
    · rename_i q
      obtain ⟨a1, a2, a3, a4⟩ := ltk_any r _ f (w ++ [c]) ts h hf (fun x hx => by
        rcases List.mem_append.mp hx with y | y
        · exact hw x y
        · rw [List.mem_singleton.mp y]; exact q) (fun ⟨p, e, m⟩ => by cases e; exact absurd q (opC_no m))
      have c1 : (cutW (w ++ [c])).length = 1 := by unfold cutW; rw [if_neg (by simp)]; rfl
      refine ⟨a1, fun x hx => ?_, fun z => a3 ?_, by rw [List.length_cons]; omega⟩
      · rcases List.mem_cons.mp hx with rfl | hx
        · exact .inl (.inl q)
        · exact a2 x hx
      · rcases z with z | z
        · exact .inl z
        · rcases List.mem_cons.mp z with z | z
          · omega
          · exact .inr z
    · rename_i naz
      split at h
      · rename_i q
        obtain ⟨rfl, p, rfl, hpm⟩ := q
        obtain ⟨fne, we⟩ := hp ⟨p, rfl, hpm⟩
        subst we
        have e0 : f ++ cutW [] = f := by unfold cutW; simp
        rw [e0] at h
        have lpos : 0 < f.length := by
          cases f with
          | nil => exact absurd rfl fne
          | cons _ _ => simp
        have h61 : has61 (f.set (f.length - 1) (ofL [(some p).getD 0, 61])) := ⟨_, List.mem_set (by omega) _, by show 61 ∈ [p, 61]; simp⟩
        obtain ⟨a1, a2, a3, a4⟩ := ltk_any r _ _ [] ts h (fun t ht => by
          rcases List.mem_or_eq_of_mem_set ht with y | rfl
          · exact hf t y
          · exact .inr ⟨p, [61], rfl, opC_no hpm⟩) (by simp) (fun ⟨p2, e, m⟩ => by cases e; exact absurd m (by decide))
        refine ⟨a1, fun x hx => ?_, fun z => a3 (.inl h61), by rw [List.length_set] at a4; rw [List.length_cons]; omega⟩
        rcases List.mem_cons.mp hx with rfl | hx
        · exact .inr rfl
        · exact a2 x hx
      · split at h
        · rename_i q
          obtain ⟨a1, a2, a3, a4⟩ := ltk_any r _ _ [] ts h (fun t ht => by
            rcases List.mem_append.mp ht with y | y
            · exact hfw t y
            · rw [List.mem_singleton.mp y]; exact .inr ⟨c, [], rfl, naz⟩) (by simp) (fun _ => ⟨by simp, rfl⟩)
          refine ⟨a1, fun x hx => ?_, fun z => a3 ?_, ?_⟩
          · rcases List.mem_cons.mp hx with rfl | hx
            · have : ∀ c ∈ [40, 41, 61, 44, 124, 94, 38, 45, 64], c ∈ signL ∨ c = 61 := by decide
              rcases this x q with y | y
              · exact .inl (.inr (.inr y))
              · exact .inr y
            · exact a2 x hx
          · rcases z with z | z
            · obtain ⟨t, h1, h2⟩ := keep z
              exact .inl ⟨t, List.mem_append_left _ h1, h2⟩
            · rcases List.mem_cons.mp z with z | z
              · exact .inl ⟨ofL [c], List.mem_append_right _ List.mem_cons_self, by show 61 ∈ [c]; rw [z]; simp⟩
              · exact .inr z
          · rw [List.length_append] at a4
            have : ([ofL [c]] : List Str).length = 1 := rfl
            rw [List.length_cons]
            omega
        · split at h
          · cases h
          · rename_i q
            have c32 : c = 32 := by
              by_cases y : c = 32
              · exact y
              · exact absurd y q
            obtain ⟨a1, a2, a3, a4⟩ := ltk_any r _ _ [] ts h hfw (by simp) (fun ⟨p2, e, m⟩ => by cases e; rw [c32] at m; exact absurd m (by decide))
            refine ⟨a1, fun x hx => ?_, fun z => a3 ?_, ?_⟩
            · rcases List.mem_cons.mp hx with rfl | hx
              · exact .inl (.inr (.inl c32))
              · exact a2 x hx
            · rcases z with z | z
              · exact .inl (keep z)
              · rcases List.mem_cons.mp z with z | z
                · omega
                · exact .inr z
            · rw [List.length_cons]; omega
end My
set_option Elab.async false
set_option linter.all false
set_option maxRecDepth 100000
set_option maxHeartbeats 4000000
namespace My
open PySem PySem.Spec PyProof.Rows L2
theorem abc_az : ∀ c ∈ abc.cps.toList, 97 ≤ c ∧ c ≤ 122 := by decide +kernel
theorem az_abc {c : Nat} (h : 97 ≤ c ∧ c ≤ 122) : c ∈ abc.cps.toList := by
  have : ∀ k, k < 26 → 97 + k ∈ abc.cps.toList := by decide +kernel
  have := this (c - 97) (by omega)
  rwa [show 97 + (c - 97) = c by omega] at this
theorem tokL_name {t : Str} (h : tokL t) : nameL t = nameOk t := by
  have hl : (letters t).length = t.length := Array.length_toList
  rcases h with ⟨hne, h⟩ | ⟨c, r, e, h⟩
  · have a1 : (letters t).all (fun c => decide (c ∈ abc.cps.toList)) = true := List.all_eq_true.mpr fun c hc => decide_eq_true (az_abc (h c hc))
    obtain ⟨c, r, e⟩ : ∃ c r, letters t = c :: r := by
      cases q : letters t with
      | nil => exact absurd q hne
      | cons c r => exact ⟨c, r, rfl⟩
    have a2 : azFirst (letters t) = true := by
      rw [e]
      exact decide_eq_true (h c (by rw [e]; exact List.mem_cons_self))
    unfold nameL nameOk
    rw [a2, a1]
    have a3 : inV (.str t) [.str "keys", .str "look", .str "self"] = (decide (t = "keys") || decide (t = "look") || decide (t = "self")) := by
      have e : inV (V.str t) [V.str "keys", .str "look", .str "self"] = (("keys" == t) || (("look" == t) || (("self" == t) || false))) := rfl
      have c : ∀ x : Str, (x == t) = decide (t = x) := fun x => by
        by_cases q : t = x
        · rw [q]; simp
        · rw [decide_eq_false q]
          exact beq_eq_false_iff_ne.mpr fun z => q z.symm
      rw [e, c, c, c, Bool.or_false, Bool.or_assoc]
    rw [a3]
    congr 1
    congr 1
    rw [Bool.eq_iff_iff]
    simp
    omega
  · have a2 : azFirst (letters t) = false := by
      rw [e]
      exact decide_eq_false h
    have a1 : (letters t).all (fun c => decide (c ∈ abc.cps.toList)) = false := by
      rw [e, List.all_cons, decide_eq_false fun m => h (abc_az c m)]
      rfl
    unfold nameL nameOk
    rw [a2, a1, Bool.and_false, Bool.and_false]
theorem flush_mem {c : Nat} {acc : List Nat} {l : List (List Nat)} : (c ∈ acc ∨ ∃ w ∈ l, c ∈ w) → ∃ w ∈ flush acc l, c ∈ w := by
  intro h
  unfold flush
  split
  · rename_i q
    rcases h with h | h
    · rw [q] at h; cases h
    · exact h
  · rcases h with h | ⟨w, h1, h2⟩
    · exact ⟨acc, List.mem_cons_self, h⟩
    · exact ⟨w, List.mem_cons_of_mem _ h1, h2⟩
theorem wl_mem : ∀ (L acc : List Nat) (c : Nat), (c ∈ acc ∨ (c ∈ L ∧ c ≠ 32)) → ∃ w ∈ wl acc L, c ∈ w
  | [], acc, c, h => by
    unfold wl
    refine flush_mem (.inl ?_)
    rcases h with h | ⟨h, _⟩
    · exact h
    · cases h
  | x :: r, acc, c, h => by
    unfold wl
    by_cases e : x = 32
    · rw [if_pos e]
      refine flush_mem ?_
      rcases h with h | ⟨h, n⟩
      · exact .inl h
      · rcases List.mem_cons.mp h with h | h
        · exact absurd (h.trans e) n
        · exact .inr (wl_mem r [] c (.inr ⟨h, n⟩))
    · rw [if_neg e]
      by_cases m : x ∈ signL
      · rw [if_pos m]
        refine flush_mem ?_
        rcases h with h | ⟨h, n⟩
        · exact .inl h
        · rcases List.mem_cons.mp h with h | h
          · exact .inr ⟨[x], List.mem_cons_self, by rw [h]; exact List.mem_cons_self⟩
          · obtain ⟨w, h1, h2⟩ := wl_mem r [] c (.inr ⟨h, n⟩)
            exact .inr ⟨w, List.mem_cons_of_mem _ h1, h2⟩
      · rw [if_neg m]
        refine wl_mem r (acc ++ [x]) c ?_
        rcases h with h | ⟨h, n⟩
        · exact .inl (List.mem_append_left _ h)
        · rcases List.mem_cons.mp h with h | h
          · exact .inl (List.mem_append_right _ (by rw [h]; exact List.mem_cons_self))
          · exact .inr ⟨h, n⟩
theorem tok_good {t : Str} (h : tokOk t) : ∀ c ∈ letters t, goodC c := by
  rcases h with h | h | rfl | rfl
  · obtain ⟨c, e, m⟩ := sgn_letters h
    rw [e]
    intro x hx
    rw [List.mem_singleton.mp hx]
    exact .inr (.inr m)
  · unfold nameOk at h
    rw [Bool.and_eq_true] at h
    intro c hc
    have := List.all_eq_true.mp h.2 c hc
    exact .inl (abc_az c (of_decide_eq_true this))
  · have : ∀ c ∈ letters kW, 97 ≤ c ∧ c ≤ 122 := by decide +kernel
    exact fun c hc => .inl (this c hc)
  · have : ∀ c ∈ letters lW, 97 ≤ c ∧ c ≤ 122 := by decide +kernel
    exact fun c hc => .inl (this c hc)
theorem no61 : ¬ goodC 61 := by
  rintro (h | h | h)
  · omega
  · omega
  · exact absurd h (by decide)
def ownE (n : Nat) (x : Str) : Option Ex := match ltk (letters x) none [] [] with
  | none => none
  | some ts => parM n ts
theorem ownE_says {n : Nat} {x : Str} (hn : x.length ≤ n) : (ownE n x).map Ex.d = pE (tokensOf x) := by
  have hl : (letters x).length = x.length := Array.length_toList
  by_cases hg : ∀ c ∈ letters x, goodC c
  · have h1 := ltk_good (letters x) none [] [] hg
    have e : (wl [] (letters x)).map ofL = tokensOf x := by
      have := tokens_wl x
      have e2 : ((tokensOf x).map TL.tl).map ofL = tokensOf x := by
        rw [List.map_map]
        conv => rhs; rw [← List.map_id (tokensOf x)]
        refine List.map_congr_left fun t _ => ?_
        exact TL.ext_tl rfl
      rw [this] at e2
      exact e2
    rw [List.nil_append, e] at h1
    obtain ⟨a1, _, _, a4⟩ := ltk_any _ _ _ _ _ h1 (by simp) (by simp) (fun ⟨p, z, _⟩ => by cases z)
    unfold ownE
    rw [h1]
    refine par_pE (fun t ht => tokL_name (a1 t ht)) ?_
    have a4 : (tokensOf x).length ≤ 0 + 0 + (letters x).length := a4
    omega
  · obtain ⟨c, hc, hb⟩ : ∃ c, c ∈ letters x ∧ ¬ goodC c := by
      by_cases q : ∃ c, c ∈ letters x ∧ ¬ goodC c
      · exact q
      · exact absurd (fun c hc => by
          by_cases g : goodC c
          · exact g
          · exact absurd ⟨c, hc, g⟩ q) hg
    have r : pE (tokensOf x) = none := by
      cases q : pE (tokensOf x) with
      | none => rfl
      | some d =>
        exfalso
        obtain ⟨k, e, _, D⟩ := pE_ex q
        obtain ⟨w, h1, h2⟩ := wl_mem (letters x) [] c (.inr ⟨hc, fun z => hb (.inr (.inl z))⟩)
        rw [← tokens_wl] at h1
        obtain ⟨t, ht, rfl⟩ := List.mem_map.mp h1
        exact hb (tok_good (D.toks.2 t ht) c h2)
    rw [r]
    unfold ownE
    cases q : ltk (letters x) none [] [] with
    | none => rfl
    | some ts =>
      obtain ⟨a1, a2, a3, a4⟩ := ltk_any _ _ _ _ _ q (by simp) (by simp) (fun ⟨p, z, _⟩ => by cases z)
      have c61 : c = 61 := by
        rcases a2 c hc with z | z
        · exact absurd z hb
        · exact z
      obtain ⟨t, ht, h61⟩ := a3 (.inr (c61 ▸ hc))
      show (parM n ts).map Ex.d = none
      cases y : parM n ts with
      | none => rfl
      | some e =>
        exfalso
        obtain ⟨k, b, l, _, D⟩ := parM_sound n ts e (fun t ht => tokL_name (a1 t ht)) y
        exact no61 (tok_good (D.toks.2 t ht) 61 h61)
end My
set_option Elab.async false
set_option linter.all false
set_option maxRecDepth 100000
set_option maxHeartbeats 4000000
namespace My
open PySem PySem.Spec PyProof.Rows L2
def spNam : Sp := fun vs H Q _ => ∃ t : Str, vs = [.str t] ∧ t.length ≤ 1000 ∧ ∀ H', Same H H' → Q (.bl (nameL t)) H'
def lastV (ts : List Str) : V := match lastM ts with
  | none => .non
  | some (b, _) => .int b
def spLast : Sp := fun vs H Q _ => ∃ (p : Addr) (ts : List Str), vs = [.ref p] ∧ H p = some (.lst (ts.map V.str)) ∧ ts.length ≤ 1000 ∧ (∀ t ∈ ts, t.length ≤ 1000) ∧ ∀ H', Same H H' → Q (lastV ts) H'
def exV (K : PySem.W.Frag) (H : Hp) (v : V) : Option Ex → Prop
  | none => v = .non
  | some e => DE K H v e
def tokG (t : Str) : Prop := t.length ≤ 1000 ∧ (PyData.str t).canLay0 = true
def spPar (K : PySem.W.Frag) (n : Nat) : Sp := fun vs H Q _ => ∃ (p : Addr) (ts : List Str), vs = [.ref p] ∧ H p = some (.lst (ts.map V.str)) ∧ ts.length ≤ 1000 ∧ (∀ t ∈ ts, tokG t) ∧ (∀ t ∈ ts, nameL t = nameOk t) ∧ ts.length < n ∧ ∀ v H', Same H H' → exV K H' v (parM n ts) → Q v H'
def spCalled (K : PySem.W.Frag) (n : Nat) : Sp := fun vs H Q _ => ∃ (w : Str) (p : Addr) (ts : List Str), vs = [.str w, .ref p] ∧ H p = some (.lst (ts.map V.str)) ∧ ts.length ≤ 1000 ∧ (∀ t ∈ ts, tokG t) ∧ (∀ t ∈ ts, nameL t = nameOk t) ∧ w.length ≤ 1000 ∧ ts.length < n ∧ ∀ v H', Same H H' → exV K H' v (callM (parM n) w ts) → Q v H'
theorem scan_snoc (ts : List Str) (t : Str) (k : Nat) (d b : Int) (l : Nat) : scan (ts ++ [t]) k d b l = (scan ts k d b l).bind fun q => stp t (k + ts.length) q.1 q.2.1 q.2.2 := by
  rw [scan_app]
  cases scan ts k d b l with
  | none => rfl
  | some q =>
    show scan [t] _ _ _ _ = stp t _ _ _ _
    rw [scan_cons]
    cases stp t (k + ts.length) q.1 q.2.1 q.2.2 <;> rfl
theorem lt_one (c d : Nat) : decide (([c] : List Nat) < [d]) = decide (c < d) := by
  by_cases h : c < d
  · rw [decide_eq_true h, decide_eq_true (show ([c] : List Nat) < [d] from List.Lex.rel h)]
  · rw [decide_eq_false h, decide_eq_false]
    intro z
    have z : List.Lex (· < ·) [c] [d] := z
    cases z with
    | rel q => exact h q
    | cons q => cases q
theorem le_az (c : Nat) : (!decide ((⟨#[c]⟩ : Str).cps.toList < ("a" : Str).cps.toList)) = decide (97 ≤ c) ∧ (!decide (("z" : Str).cps.toList < (⟨#[c]⟩ : Str).cps.toList)) = decide (c ≤ 122) := by
  have e1 : ("a" : Str).cps.toList = [97] := by decide +kernel
  have e2 : ("z" : Str).cps.toList = [122] := by decide +kernel
  rw [e1, e2]
  show (!decide ([c] < [97])) = _ ∧ (!decide ([122] < [c])) = _
  rw [lt_one, lt_one]
  constructor
  · by_cases h : c < 97
    · rw [decide_eq_true h, decide_eq_false (by omega)]; rfl
    · rw [decide_eq_false h, decide_eq_true (by omega)]; rfl
  · by_cases h : 122 < c
    · rw [decide_eq_true h, decide_eq_false (by omega)]; rfl
    · rw [decide_eq_false h, decide_eq_true (by omega)]; rfl
theorem in_len (n : Nat) : inV (V.int (n : Int)) [V.int 1, .int 2, .int 3, .int 4] = (decide (n = 1) || decide (n = 2) || decide (n = 3) || decide (n = 4)) := by
  have e : inV (V.int (n : Int)) [V.int 1, .int 2, .int 3, .int 4] = (((1 : Int) == n) || (((2 : Int) == n) || (((3 : Int) == n) || (((4 : Int) == n) || false)))) := rfl
  have c : ∀ m : Nat, (((m : Nat) : Int) == (n : Int)) = decide (n = m) := fun m => by
    by_cases q : n = m
    · rw [q]; simp
    · rw [decide_eq_false q]
      exact beq_eq_false_iff_ne.mpr fun z => q (by omega)
  rw [e]
  rw [show ((1 : Int) == (n : Int)) = decide (n = 1) from c 1, show ((2 : Int) == (n : Int)) = decide (n = 2) from c 2, show ((3 : Int) == (n : Int)) = decide (n = 3) from c 3, show ((4 : Int) == (n : Int)) = decide (n = 4) from c 4, Bool.or_false, Bool.or_assoc, Bool.or_assoc]
theorem in_kls (t : Str) : inV (.str t) [.str "keys", .str "look", .str "self"] = (decide (t = "keys") || decide (t = "look") || decide (t = "self")) := by
  have e : inV (V.str t) [V.str "keys", .str "look", .str "self"] = (("keys" == t) || (("look" == t) || (("self" == t) || false))) := rfl
  have c : ∀ x : Str, (x == t) = decide (t = x) := fun x => by
    by_cases q : t = x
    · rw [q]; simp
    · rw [decide_eq_false q]
      exact beq_eq_false_iff_ne.mpr fun z => q z.symm
  rw [e, c, c, c, Bool.or_false, Bool.or_assoc]
theorem lastV_eq {ts : List Str} {d b : Int} {l : Nat} (h : scan ts 0 0 (-1) 9 = some (d, b, l)) : lastV ts = if d = 0 then .int b else .non := by
  unfold lastV lastM
  rw [h]
  by_cases z : d = 0
  · subst z; rfl
  · simp only [if_neg z]
theorem lastM_lt {ts : List Str} {b : Int} {l : Nat} (h : lastM ts = some (b, l)) (hb : 0 ≤ b) : b.toNat < ts.length := by
  obtain ⟨ra, w, rb, b1, l1, e1, e2, _⟩ := scan_split (lastM_some h) (by decide) (by simpa using hb)
  rw [Nat.zero_add] at e2
  rw [e1, List.length_append, List.length_cons]
  omega
theorem parM_fuel : ∀ (n m : Nat) (ts : List Str), ts.length < n → ts.length < m → parM n ts = parM m ts
  | 0, m, ts, h, _ => absurd h (Nat.not_lt_zero _)
  | n + 1, 0, ts, _, h => absurd h (Nat.not_lt_zero _)
  | n + 1, m + 1, ts, hn, hm => by
    have ih : ∀ us : List Str, us.length < ts.length → parM n us = parM m us := fun us h => parM_fuel n m us (by omega) (by omega)
    unfold parM
    cases hl : lastM ts with
    | none => rfl
    | some q =>
      obtain ⟨b, l⟩ := q
      simp only
      split
      · rfl
      rename_i hne
      have pos : 0 < ts.length := by
        cases ts with
        | nil => exact absurd rfl hne
        | cons _ _ => simp
      split
      · rename_i hb
        have lt := lastM_lt hl hb
        rw [ih (ts.take b.toNat) (by rw [List.length_take]; omega), ih (ts.drop (b.toNat + 1)) (by rw [List.length_drop]; omega)]
      · split
        · rfl
        · split
          · rfl
          · split
            · rw [ih _ (by rw [List.length_take, List.length_drop]; omega)]
            · split
              · rfl
              · rename_i h4
                have ih2 : ∀ us : List Str, us.length ≤ ((ts.drop 2).take (ts.length - 3)).length → parM n us = parM m us := fun us h => ih us (by rw [List.length_take, List.length_drop] at h; omega)
                unfold callM
                rw [ih2 _ (Nat.le_refl _)]
                split
                · rfl
                · split
                  · rfl
                  · have e : sidesM (parM n) ((ts.drop 2).take (ts.length - 3)) = sidesM (parM m) ((ts.drop 2).take (ts.length - 3)) := by
                      funext k
                      unfold sidesM
                      rw [ih2 _ (by rw [List.length_take]; exact Nat.min_le_right _ _), ih2 (((ts.drop 2).take (ts.length - 3)).drop (k + 1)) (by rw [List.length_drop]; omega)]
                    rw [e]
end My
set_option Elab.async false
set_option linter.all false
set_option maxRecDepth 100000
set_option maxHeartbeats 4000000
namespace My
open PySem PySem.Spec PyProof.Rows L2
def rInM (K : PySem.W.Frag) : R2 := fun x y H Q => ∃ d ds, Dp K H x d ∧ Dp K H y (.list ds) ∧ d.canLay0 = true ∧ PyData.canLayAll0 ds = true ∧ d.depth ≤ 64 ∧ Q (.bl (ds.any fun z => PyData.eqv z d)) H
def rNotInM (K : PySem.W.Frag) : R2 := fun x y H Q => ∃ d ds, Dp K H x d ∧ Dp K H y (.list ds) ∧ d.canLay0 = true ∧ PyData.canLayAll0 ds = true ∧ d.depth ≤ 64 ∧ Q (.bl (!ds.any fun z => PyData.eqv z d)) H
theorem op_inM {X : Cx} {K : PySem.W.Frag} (hK : X.K = K) (hu : X.A.units + 65 < cLine) : OpR X (compareOp .In) (rInM K) := by
  subst hK
  intro pins s σ H x y v u Q I rx ry h
  obtain ⟨d, ds, hd, he, sd, se, dp, q⟩ := h
  obtain ⟨as, r1⟩ := Dp.reads I d x v hd rx
  obtain ⟨bs, r2⟩ := Dp.reads I (.list ds) y u he ry
  exact SeqAt.in_list_reads r2 r1 se sd (by have := Nat.min_le_right (PyData.depthAll ds) d.depth; omega) ⟨.bl _, H, I, rfl, q⟩
theorem op_notInM {X : Cx} {K : PySem.W.Frag} (hK : X.K = K) (hu : X.A.units + 65 < cLine) : OpR X (compareOp .NotIn) (rNotInM K) := by
  subst hK
  intro pins s σ H x y v u Q I rx ry h
  obtain ⟨d, ds, hd, he, sd, se, dp, q⟩ := h
  obtain ⟨as, r1⟩ := Dp.reads I d x v hd rx
  obtain ⟨bs, r2⟩ := Dp.reads I (.list ds) y u he ry
  exact SeqAt.notIn_list_reads r2 r1 se sd (by have := Nat.min_le_right (PyData.depthAll ds) d.depth; omega) ⟨.bl _, H, I, rfl, q⟩
theorem cut_toV {xs : List V} {b : Nat} (h : b ≤ xs.length) : cutV xs none (some (b : Int)) = xs.take b := by
  unfold cutV
  have e1 : HT.sIx xs.length 0 none = 0 := rfl
  have e2 : HT.sIx xs.length xs.length (some (b : Int)) = b := by rw [HT.sIx_nat]; omega
  rw [e1, e2, List.drop_zero, Nat.sub_zero]
theorem cut_in {xs : List V} {a : Nat} (h : a + 1 ≤ xs.length) : cutV xs (some (a : Int)) (some (-1)) = (xs.drop a).take (xs.length - (a + 1)) := by
  unfold cutV
  have e1 : HT.sIx xs.length 0 (some (a : Int)) = a := by rw [HT.sIx_nat]; omega
  have e2 : HT.sIx xs.length xs.length (some (-1)) = xs.length - 1 := by
    unfold HT.sIx
    simp
    omega
  rw [e1, e2]
  congr 1
  omega
def exD : Option Ex → PyData
  | none => .none
  | some e => e.d
theorem exV_dp {K : PySem.W.Frag} {H : Hp} {v : V} {o : Option Ex} (h : exV K H v o) : Dp K H v (exD o) := by
  cases o with
  | none => rw [show v = .non from h]; exact .non
  | some e => exact h
theorem exV_same {K : PySem.W.Frag} {H H' : Hp} (s : Same H H') {v : V} {o : Option Ex} (h : exV K H v o) : exV K H' v o := by
  cases o with
  | none => exact h
  | some e => exact dp_same s _ _ h
theorem de_ne {K : PySem.W.Frag} {H : Hp} {v : V} {e : Ex} (h : DE K H v e) : v ≠ .non := by
  rintro rfl
  cases e <;> cases h
theorem exV_none {K : PySem.W.Frag} {H : Hp} {v : V} {o : Option Ex} (h : exV K H v o) : decide (v = .non) = o.isNone := by
  cases o with
  | none => rw [show v = .non from h]; rfl
  | some e => exact decide_eq_false (de_ne h)
theorem eqv_none (o : Option Ex) : PyData.eqv (exD o) .none = o.isNone := by
  cases o with
  | none => rfl
  | some e => cases e <;> simp [exD, Ex.d, PyData.eqv]
theorem first_some {α : Type} {f : Nat → Option α} {n i : Nat} {x : α} (hi : i < n) (h0 : ∀ m, m < i → f m = none) (h1 : f i = some x) : (List.range n).findSome? f = some x := by
  induction n with
  | zero => omega
  | succ n ih =>
    rw [List.range_succ, List.findSome?_append]
    by_cases q : i < n
    · rw [ih q]; rfl
    · have : i = n := by omega
      subst this
      have : (List.range i).findSome? f = none := List.findSome?_eq_none_iff.mpr fun m hm => h0 m (List.mem_range.mp hm)
      rw [this]
      show (List.findSome? f [i]) = _
      simp [h1]
theorem exD_lay {o : Option Ex} (h : ∀ e, o = some e → e.Ok) : (exD o).canLay0 = true := by
  cases o with
  | none => rfl
  | some e => exact e.lay (h e rfl)
theorem dp_strs {K : PySem.W.Frag} {H : Hp} {p : Addr} {ts : List Str} (h : H p = some (.lst (ts.map V.str))) : Dp K H (.ref p) (.list (ts.map PyData.str)) := by
  refine .lst (SqL.of h) ?_
  clear h
  induction ts with
  | nil => exact .nil
  | cons t r ih => exact .cons (.str t) ih
theorem shaped_strs {ts : List Str} (h : ∀ t ∈ ts, tokG t) : SeqAt.shaped (.list (ts.map PyData.str)) = true := by
  have lay : PyData.canLayAll0 (ts.map PyData.str) = true := by
    induction ts with
    | nil => rfl
    | cons t r ih =>
      have a := (h t List.mem_cons_self).2
      have b := ih fun u hu => h u (List.mem_cons_of_mem _ hu)
      simp only [List.map_cons, PyData.canLayAll0, a, b]
      rfl
  have dep : ∀ us : List Str, PyData.depthAll (us.map PyData.str) ≤ 1 := by
    intro us
    induction us with
    | nil => exact Nat.zero_le _
    | cons t r ih =>
      rw [List.map_cons, PyData.depthAll]
      refine Nat.max_le.mpr ⟨?_, ih⟩
      simp only [PyData.depth]
      omega
  have d := dep ts
  unfold SeqAt.shaped
  have e1 : (PyData.list (ts.map PyData.str)).canLay0 = true := by simp only [PyData.canLay0]; exact lay
  have e2 : (PyData.list (ts.map PyData.str)).depth ≤ 64 := by simp only [PyData.depth]; omega
  rw [e1, decide_eq_true e2]
  rfl
theorem eqv_nilS (ts : List Str) : PyData.eqv (.list (ts.map PyData.str)) (.list []) = ts.isEmpty := by cases ts <;> rfl
theorem callM_fuel {n m : Nat} {w : Str} {us : List Str} (h1 : us.length < n) (h2 : us.length < m) : callM (parM n) w us = callM (parM m) w us := by
  have e : sidesM (parM n) us = sidesM (parM m) us := by
    funext k
    unfold sidesM
    rw [parM_fuel n m (us.take k) (by rw [List.length_take]; omega) (by rw [List.length_take]; omega), parM_fuel n m (us.drop (k + 1)) (by rw [List.length_drop]; omega) (by rw [List.length_drop]; omega)]
  unfold callM
  rw [parM_fuel n m us h1 h2, e]
def spTok : Sp := fun vs H Q _ => ∃ x : Str, vs = [.str x] ∧ x.length ≤ 400 ∧ ∀ v H', Same H H' → (match ltk (letters x) none [] [] with | none => v = .non | some ts => ∃ p, v = .ref p ∧ H' p = some (.lst (ts.map V.str))) → Q v H'
theorem max0 (i : Nat) : (if (i : Int) - 1 > 0 then (i : Int) - 1 else 0) = ((i - 1 : Nat) : Int) := by split <;> omega
theorem cut_before {x : Str} {i : Nat} (hi : i ≤ x.length) : cutS x (some ((i - 1 : Nat) : Int)) (some (i : Int)) = ofL (((letters x).drop (i - 1)).take (i - (i - 1))) := by
  unfold cutS
  rw [HT.sIx_nat, HT.sIx_nat, show min (i - 1) x.length = i - 1 by omega, show min i x.length = i by omega]
theorem lv_one (c : Nat) : (lvl (⟨#[c]⟩ : Str)).isSome = decide (c ∈ opC) := by
  have e : ∀ d : Nat, ((⟨#[c]⟩ : Str) = ⟨#[d]⟩) ↔ c = d := fun d => ⟨fun h => by injection h with h; simpa using h, fun h => by rw [h]⟩
  have o : ops5 = opC.map fun d => (⟨#[d]⟩ : Str) := by decide +kernel
  by_cases h : c ∈ opC
  · rw [decide_eq_true h]
    have : ∀ w ∈ ops5, (lvl w).isSome = true := by decide
    exact this _ (by rw [o]; exact List.mem_map_of_mem h)
  · rw [decide_eq_false h]
    cases q : lvl (⟨#[c]⟩ : Str) with
    | none => rfl
    | some i =>
      exfalso
      have m := List.mem_of_getElem? (lvl_at q).2
      rw [o] at m
      obtain ⟨d, hd, e2⟩ := List.mem_map.mp m
      exact h ((e d).mp e2.symm ▸ hd)
theorem one_eq (c d : Nat) (y : Str) (hy : y = ⟨#[d]⟩) : decide (V.str ⟨#[c]⟩ = V.str y) = decide (c = d) := by
  subst hy
  by_cases h : c = d
  · rw [h, decide_eq_true rfl, decide_eq_true rfl]
  · rw [decide_eq_false h, decide_eq_false]
    intro z
    injection z with z
    injection z with z
    exact h (by simpa using z)
theorem str_nil {w : Str} : (w = ("" : Str)) ↔ letters w = [] := by
  constructor
  · intro h; rw [h]; rfl
  · intro h; exact TL.ext_tl h
def rInt : List V → Hp → VK → Prop := fun xs H Q => (∃ i, xs = [V.int i] ∧ Q (V.int i) H) ∨ ∃ k, xs = [V.bl k] ∧ Q (V.int (if k = true then 1 else 0)) H
theorem cat_word {σ : L2.St} {G : Hp} {Q : VK} {p : Addr} {f : List Str} {wS : Str} (h1 : σ[1]? = some (some (.ref p))) (h2 : σ[2]? = some (some (.str wS))) (gp : G p = some (.lst (f.map V.str))) (hf : f.length ≤ 2000)
    (k : ∀ q G', Same G G' → G q = none → G' q = some (.lst ((f ++ cutW (letters wS)).map V.str)) → Q (.ref q) G') :
    tOp rCat (tVar 1) (tOp rRep (tLst (tCons (tVar 2) tNil)) (tCB rInt (tCons (tOp rNe (tVar 2) (tC (V.str ""))) tNil))) σ G Q := by
  have sz : sizeLine = 16777216 := sizeLine_eq
  refine ⟨_, h1, _, h2, size_ok (by simp), fun a ha => ?_⟩
  generalize e1 : upd G a _ = G1
  have s1 := new_same e1 ha
  have g1 := new_at e1
  refine ⟨_, h2, rfl, .inr ⟨_, rfl, ?_⟩⟩
  have fin : ∀ (b : Addr) (G2 : Hp) (ys : List V), Same G1 G2 → G2 b = some (.lst ys) → ys = (cutW (letters wS)).map V.str → rCat (.ref p) (.ref b) G2 Q := fun b G2 ys s2 hb hy => by
    have c1 : (cutW (letters wS)).length ≤ 1 := by unfold cutW; split <;> simp
    refine ⟨p, b, f.map V.str, ys, rfl, rfl, s2 _ _ (s1 _ _ gp), hb, by rw [hy, List.length_map, List.length_map]; omega, fun q hq => ?_⟩
    have hqG : G q = none := by
      cases z : G q with
      | none => rfl
      | some o => rw [s2 _ _ (s1 _ _ z)] at hq; cases hq
    refine k q _ ((s1.trans s2).trans (same_new hq)) hqG ?_
    rw [upd_same, hy, List.map_append]
  by_cases hw : letters wS = []
  · have e : decide (V.str wS = V.str "") = true := decide_eq_true (congrArg V.str (str_nil.mpr hw))
    rw [e]
    refine ⟨a, 0, [.str wS], rfl, rfl, g1, by decide, by decide, by rw [sz, List.length_cons]; show 1 * _ ≤ _; decide, fun b hb => ?_⟩
    exact fin b _ _ (same_new hb) upd_same (by unfold cutW; rw [if_pos hw]; rfl)
  · have e : decide (V.str wS = V.str "") = false := decide_eq_false fun z => hw (str_nil.mp (by injection z))
    rw [e]
    refine ⟨a, 1, [.str wS], rfl, rfl, g1, by decide, by decide, by rw [sz, List.length_cons]; show 1 * _ ≤ _; decide, fun b hb => ?_⟩
    exact fin b _ _ (same_new hb) upd_same (by unfold cutW; rw [if_neg hw]; rfl)
def befS : Option Nat → Str
  | none => ""
  | some c => ⟨#[c]⟩
def rLeS : R2 := fun x y H Q => ∃ i j, x = V.str i ∧ y = V.str j ∧ Q (V.bl !decide (j.cps.toList < i.cps.toList)) H
theorem chain_az {σ : L2.St} {G : Hp} {c : Nat} (hs : σ[4]? = some (some (.str ⟨#[c]⟩))) {Q : Bool → Hp → Prop} (q : Q (decide (97 ≤ c ∧ c ≤ 122)) G) :
    tTest (tChain rLeS rLeS (tC (V.str "a")) (tVar 4) (tC (V.str "z"))) σ G Q := by
  refine ⟨_, hs, "a", _, rfl, rfl, _, rfl, ?_⟩
  rw [(le_az c).1]
  by_cases h : 97 ≤ c
  · rw [decide_eq_true h]
    refine iteT ⟨_, "z", rfl, rfl, ?_⟩
    rw [(le_az c).2]
    refine ⟨_, rfl, ?_⟩
    have : decide (97 ≤ c ∧ c ≤ 122) = decide (c ≤ 122) := by simp [h]
    rwa [this] at q
  · rw [decide_eq_false h]
    refine iteFS rfl ⟨_, rfl, ?_⟩
    have : decide (97 ≤ c ∧ c ≤ 122) = false := decide_eq_false fun z => h z.1
    rwa [this] at q
theorem bef_in (pv : Option Nat) : inV (V.str (befS pv)) [V.str "|", .str "^", .str "&", .str "-", .str "@"] = true ↔ ∃ p, pv = some p ∧ p ∈ opC := by
  rw [inV_ops]
  cases pv with
  | none =>
    constructor
    · intro h; exact absurd h (by decide)
    · rintro ⟨p, z, _⟩; cases z
  | some c =>
    show (lvl (⟨#[c]⟩ : Str)).isSome = true ↔ _
    rw [lv_one]
    constructor
    · intro h; exact ⟨c, rfl, of_decide_eq_true h⟩
    · rintro ⟨p, z, m⟩; cases z; exact decide_eq_true m
end My
set_option Elab.async false
set_option linter.all false
set_option maxRecDepth 100000
set_option maxHeartbeats 4000000
namespace My
open PySem PySem.Spec PyProof.Rows L2
theorem tokG_of {l : List Nat} (h : ∀ c ∈ l, c < 0x110000) (hl : l.length ≤ 1000) : tokG (ofL l) := by
  refine ⟨by show l.toArray.size ≤ 1000; rw [List.size_toArray]; exact hl, ?_⟩
  show PyData.strOk (ofL l) = true
  unfold PyData.strOk
  rw [Array.all_eq_true]
  intro i hi
  have : i < l.length := by simpa using hi
  have m : l[i] ∈ l := List.getElem_mem this
  simpa using h _ m
theorem tokG_cut {w : List Nat} (h : ∀ c ∈ w, c < 0x110000) (hl : w.length ≤ 1000) : ∀ t ∈ cutW w, tokG t := by
  intro t ht
  unfold cutW at ht
  split at ht
  · cases ht
  · rw [List.mem_singleton.mp ht]; exact tokG_of h hl
theorem ltk_ok : ∀ (L : List Nat) (pv : Option Nat) (f : List Str) (w : List Nat) (ts : List Str), ltk L pv f w = some ts → (∀ c ∈ L, c < 0x110000) → (∀ p, pv = some p → p < 0x110000) → (∀ t ∈ f, tokG t) → (∀ c ∈ w, c < 0x110000) → w.length + L.length ≤ 1000 → ∀ t ∈ ts, tokG t
  | [], pv, f, w, ts, h, hL, hp, hf, hw, hl => by
    unfold ltk at h
    cases h
    intro t ht
    rcases List.mem_append.mp ht with q | q
    · exact hf t q
    · exact tokG_cut hw (by omega) t q
  | c :: r, pv, f, w, ts, h, hL, hp, hf, hw, hl => by
    have hc := hL c List.mem_cons_self
    have hr : ∀ c ∈ r, c < 0x110000 := fun x hx => hL x (List.mem_cons_of_mem _ hx)
    have hpc : ∀ p, some c = some p → p < 0x110000 := fun p z => by cases z; exact hc
    rw [List.length_cons] at hl
    have hfw : ∀ t ∈ f ++ cutW w, tokG t := fun t ht => by
      rcases List.mem_append.mp ht with q | q
      · exact hf t q
      · exact tokG_cut hw (by omega) t q
    have l0 : ([] : List Nat).length + r.length ≤ 1000 := by simp; omega
    unfold ltk at h
    split at h
    · exact ltk_ok r _ f _ ts h hr hpc hf (fun x hx => by
        rcases List.mem_append.mp hx with y | y
        · exact hw x y
        · rw [List.mem_singleton.mp y]; exact hc) (by rw [List.length_append]; show w.length + 1 + _ ≤ _; omega)
    · split at h
      · rename_i q
        obtain ⟨_, p, rfl, _⟩ := q
        refine ltk_ok r _ _ [] ts h hr hpc (fun t ht => ?_) (by simp) l0
        rcases List.mem_or_eq_of_mem_set ht with y | rfl
        · exact hfw t y
        · refine tokG_of (fun x hx => ?_) (by simp)
          rcases List.mem_cons.mp hx with rfl | hx
          · exact hp _ rfl
          · rw [List.mem_singleton.mp hx]; decide
      · split at h
        · refine ltk_ok r _ _ [] ts h hr hpc (fun t ht => ?_) (by simp) l0
          rcases List.mem_append.mp ht with y | y
          · exact hfw t y
          · rw [List.mem_singleton.mp y]
            exact tokG_of (fun x hx => by rw [List.mem_singleton.mp hx]; exact hc) (by simp)
        · split at h
          · cases h
          · exact ltk_ok r _ _ [] ts h hr hpc hfw (by simp) l0
theorem count_sp (x : Str) : (x.length : Int) - Txt.count x " " = ((noSpace x).length : Int) := by
  have e : (" " : Str) = ⟨#[32]⟩ := by decide +kernel
  have c : ∀ l : List Nat, PyProof.Rows.cnt 32 l = (l.count 32 : Int) := by
    intro l
    induction l with
    | nil => rfl
    | cons n r ih =>
      rw [PyProof.Rows.cnt_cons 32 n r, ih, List.count_cons]
      by_cases h : n = 32
      · subst h; simp; omega
      · simp [h]
  have f : ∀ l : List Nat, l.length = l.count 32 + (l.filter (· != 32)).length := by
    intro l
    induction l with
    | nil => rfl
    | cons n r ih =>
      rw [List.length_cons, List.count_cons, List.filter_cons]
      by_cases h : n = 32
      · subst h; simp; omega
      · simp [h]; omega
  have hl : (letters x).length = x.length := Array.length_toList
  have ff := f (letters x)
  rw [e, count_cnt, nsp_len]
  have cc := c (letters x)
  have e0 : ∀ l, countIn (.str ⟨#[32]⟩) (l.map fun n => PyData.str ⟨#[n]⟩) = PyProof.Rows.cnt 32 l := fun _ => rfl
  show (x.length : Int) - countIn (.str ⟨#[32]⟩) (x.cps.toList.map fun n => PyData.str ⟨#[n]⟩) = _
  rw [e0]
  have cc2 : PyProof.Rows.cnt 32 x.cps.toList = ((letters x).count 32 : Int) := cc
  rw [cc2]
  omega
end My
set_option Elab.async false
set_option linter.all false
set_option maxRecDepth 100000
set_option maxHeartbeats 4000000
namespace My
open PySem PySem.Spec PyProof.Rows L2
def revS (z : Str) : Str := ⟨((Builtin.Str.strSliceIndices none none (-1) z.length).filterMap (z.cps[·]?)).toArray⟩
def tRevS (te : TE) : TE := fun σ H Q => te σ H fun x H1 => ∃ z, x = .str z ∧ (revS z).length ≤ sizeLine ∧ Q (.str (revS z)) H1
section
variable {X : Cx}
theorem pe_revS {e : Expr} {te : TE} {k : Nat} {p1 p2 p3 pos : Pos} (he : PE X e te) : PE X (.Subscript e (.Slice none none (some (.UnaryOp .USub (.Constant (.int 1) k p1) p2)) p3) pos) (tRevS te) := by
  refine ⟨fun pins s σ H Q I h => ?_⟩
  refine Subscript_ (thn (he.run pins s σ H _ I h) fun v s1 ⟨x, H1, I1, r1, q1⟩ => ?_)
  obtain ⟨z, ex, hl, q⟩ := q1
  subst ex
  obtain ⟨t, rfl⟩ := r1
  have hst : PO X (some (.UnaryOp .USub (.Constant (.int 1) k p1) p2)) (tPart (tUn (rU fun i => .int (-i)) (tC (.int 1)))) := po_some (pe_un un_neg pe_int)
  refine wpAny_Slice (thn (po_none.run pins s1 σ H1 (fun o H2 => o = none ∧ H2 = H1) I1 ⟨rfl, rfl⟩) fun vl s2 ⟨l, H2, I2, pl, el, e2⟩ => ?_)
  subst el e2
  refine thn (po_none.run pins s2 σ H2 (fun o H3 => o = none ∧ H3 = H2) I2 ⟨rfl, rfl⟩) fun vu s3 ⟨u, H3, I3, pu, eu, e3⟩ => ?_
  subst eu e3
  refine thn (hst.run pins s3 σ H3 (fun o H4 => o = some (-1) ∧ H4 = H3) I3 ⟨1, rfl, -1, rfl, rfl, rfl⟩) fun vs s4 ⟨o, H4, I4, ps, eo, e4⟩ => ?_
  subst eo e4
  have I5 : Inv X pins σ H4 { s4 with heap := s4.heap.push { cls := .type "slice", data := .fields #[vl, vu, vs] } } := I4.kept (t' := s4.toks) fun b ob q => Heap.get?_push_of_some _ q
  obtain ⟨l0, e1, d1⟩ := IsPart.raw pl
  obtain ⟨u0, e2, d2⟩ := IsPart.raw pu
  obtain ⟨s0, e3, d3⟩ := IsPart.raw ps
  have hl0 : l0 = none := by cases l0 <;> simp_all
  have hu0 : u0 = none := by cases u0 <;> simp_all
  subst hl0 hu0
  show wpAny (model X.prog X.w) X.A (subscriptTail e (.Slice none none (some (.UnaryOp .USub (.Constant (.int 1) k p1) p2)) p3) (.str z t) (.ref s4.heap.objs.size)) (EP X pins σ Q) X.xe { s4 with heap := s4.heap.push { cls := .type "slice", data := .fields #[vl, vu, vs] } }
  refine tail_any (ops := [.str z t, .ref s4.heap.objs.size]) (typeIs_str _ _ _) (F.slot_str_getitem.lookup) ?_ (by with_unfolding_all rfl)
  refine wpAny_getItem_str_slice (l := none) (u := none) (st := s0) ?_ ?_ ?_
  · exact ⟨_, Heap.get?_push_size _ rfl, rfl, by rw [e1, e2, e3]⟩
  · rw [d3]; rfl
  · have e : sliceMade z t none none s0 = Made.str (revS z) := by
      unfold sliceMade slicePicked
      rw [d3]
      rfl
    rw [e]
    exact ⟨hl, .str _, _, I5.tok _, ⟨_, rfl⟩, q⟩
end
theorem revS_mem {z : Str} {c : Nat} (h : c ∈ letters (revS z)) : c ∈ letters z := by
  have h : c ∈ (Builtin.Str.strSliceIndices none none (-1) z.length).filterMap (z.cps[·]?) := h
  obtain ⟨i, _, hi⟩ := List.mem_filterMap.mp h
  obtain ⟨h1, h2⟩ := Array.getElem?_eq_some_iff.mp hi
  rw [← h2]
  exact Array.mem_toList_iff.mpr (Array.getElem_mem h1)
theorem revS_len {z : Str} (h : z.length ≤ 2) : (revS z).length ≤ z.length := by
  have e : ∀ n, n ≤ 2 → (Builtin.Str.strSliceIndices none none (-1) n).length ≤ n := by
    intro n hn
    have : n = 0 ∨ n = 1 ∨ n = 2 := by omega
    rcases this with rfl | rfl | rfl <;> decide +kernel
  show ((Builtin.Str.strSliceIndices none none (-1) z.length).filterMap (z.cps[·]?)).toArray.size ≤ _
  rw [List.size_toArray]
  exact Nat.le_trans (List.length_filterMap_le ..) (e _ h)
theorem cutS_mem {z : Str} {lo hi : Option Int} {c : Nat} (h : c ∈ letters (cutS z lo hi)) : c ∈ letters z := by
  have h : c ∈ (((letters z).drop (HT.sIx z.length 0 lo)).take (HT.sIx z.length z.length hi - HT.sIx z.length 0 lo)) := h
  exact List.mem_of_mem_drop (List.mem_of_mem_take h)
theorem cl_to (z : Str) (k : Nat) : (cutS z none (some (k : Int))).length = min k z.length := by
  have hl : (letters z).length = z.length := Array.length_toList
  show (((letters z).drop (HT.sIx z.length 0 none)).take (HT.sIx z.length z.length (some (k : Int)) - HT.sIx z.length 0 none)).toArray.size = _
  rw [List.size_toArray, List.length_take, List.length_drop, HT.sIx_nat, hl]
  show min (min k z.length - 0) (z.length - 0) = _
  omega
theorem cl_from (z : Str) (k : Nat) : (cutS z (some (k : Int)) none).length = z.length - min k z.length := by
  have hl : (letters z).length = z.length := Array.length_toList
  show (((letters z).drop (HT.sIx z.length 0 (some (k : Int)))).take (HT.sIx z.length z.length none - HT.sIx z.length 0 (some (k : Int)))).toArray.size = _
  rw [List.size_toArray, List.length_take, List.length_drop, HT.sIx_nat, hl]
  show min (z.length - min k z.length) (z.length - min k z.length) = _
  omega
theorem cl_mid (z : Str) (k j : Nat) : (cutS z (some (k : Int)) (some (j : Int))).length = min j z.length - min k z.length := by
  have hl : (letters z).length = z.length := Array.length_toList
  show (((letters z).drop (HT.sIx z.length 0 (some (k : Int)))).take (HT.sIx z.length z.length (some (j : Int)) - HT.sIx z.length 0 (some (k : Int)))).toArray.size = _
  rw [List.size_toArray, List.length_take, List.length_drop, HT.sIx_nat, HT.sIx_nat, hl]
  omega
end My
set_option Elab.async false
set_option linter.all false
set_option maxRecDepth 100000
set_option maxHeartbeats 4000000
namespace My
open PySem PySem.Spec PyProof.Rows L2
theorem Fn.imp {P : Program} {w : World} {K : PySem.W.Frag} {mg : Str → Option Value} {base : Heap} {k : Nat} {x : Str} {ps : List Str} {sp sp' : Sp} (h : Fn P w K mg base k x ps sp) (i : ∀ vs H Q E, sp' vs H Q E → sp vs H Q E) : Fn P w K mg base k x ps sp' :=
  let ⟨f, fd, h1, F, kp, b⟩ := h
  ⟨f, fd, h1, F.imp i, kp, b⟩
theorem par_tie {P : Program} {w : World} {K : PySem.W.Frag} {mg : Str → Option Value} {base : Heap} {x y : Str} {ps qs : List Str}
    (hz : ∀ k, Fn P w K mg base k x ps spNever) (cz : ∀ k, Fn P w K mg base k y qs spNever)
    (aC : ∀ (k0 n : Nat) (spS : Sp), spS = spPar K n → Fn P w K mg base (k0 + 1) x ps spS → Fn P w K mg base (k0 + 2) y qs (spCalled K n))
    (aP : ∀ (k0 n : Nat) (spP spC : Sp), (∀ m, n = m + 1 → spP = spPar K m) → (∀ m, n = m + 1 → spC = spCalled K (m - 1)) → Fn P w K mg base (k0 + 1) x ps spP → Fn P w K mg base (k0 + 1) y qs spC → Fn P w K mg base (k0 + 2) x ps (spPar K n)) :
    ∀ n, Fn P w K mg base (n + 2) x ps (spPar K n) := by
  intro n
  induction n using Nat.strongRecOn with
  | ind n ih =>
    match n, ih with
    | 0, _ => exact aP 0 0 spNever spNever (fun m z => by cases z) (fun m z => by cases z) (hz 1) (cz 1)
    | 1, ih =>
      have c0 : Fn P w K mg base 2 y qs (spCalled K 0) := (cz 2).imp fun vs H Q E ⟨_, _, ts, _, _, _, _, _, _, h, _⟩ => absurd h (Nat.not_lt_zero _)
      exact aP 1 1 _ _ (fun m z => by cases z; rfl) (fun m z => by cases z; rfl) (ih 0 (by decide)) c0
    | j + 2, ih =>
      have c1 : Fn P w K mg base (j + 3) y qs (spCalled K j) := aC (j + 1) j _ rfl (ih j (by omega))
      exact aP (j + 2) (j + 2) _ _ (fun m z => by cases z; rfl) (fun m z => by cases z; rfl) (ih (j + 1) (by omega)) c1
end My
set_option Elab.async false
set_option linter.all false
set_option maxRecDepth 100000
set_option maxHeartbeats 4000000
namespace My
open PySem PySem.Spec PyProof.Rows L2
def spOddT (K : PySem.W.Frag) (CB : Addr) : Sp := fun vs H Q E => ∃ (v : V) (d : PyData), vs = [v] ∧ Dx K H v d ∧ isD "str" d = false ∧ ∀ e H', Same H H' → H e = none → H' e = some (.xd [("place", .int 0)]) → E (.ref CB) (some e) H'
def cB (L : List Nat) : Nat := L.countP fun c => decide (c = 40 ∨ c ∈ opC)
theorem cB_app (a b : List Nat) : cB (a ++ b) = cB a + cB b := List.countP_append ..
theorem cB_one (c : Nat) : cB [c] ≤ 1 := by
  have := List.countP_le_length (p := fun c => decide (c = 40 ∨ c ∈ opC)) (l := [c])
  exact this
theorem lt_to (z : Str) (k : Nat) : letters (cutS z none (some (k : Int))) = (letters z).take k := by
  have hl : (letters z).length = z.length := Array.length_toList
  show ((letters z).drop 0).take (HT.sIx z.length z.length (some (k : Int)) - 0) = _
  rw [HT.sIx_nat, List.drop_zero, Nat.sub_zero]
  by_cases h : k ≤ z.length
  · rw [Nat.min_eq_left h]
  · rw [Nat.min_eq_right (by omega), List.take_of_length_le (by omega), List.take_of_length_le (by omega)]
theorem lt_from (z : Str) (k : Nat) : letters (cutS z (some (k : Int)) none) = (letters z).drop k := by
  have hl : (letters z).length = z.length := Array.length_toList
  show ((letters z).drop (HT.sIx z.length 0 (some (k : Int)))).take (z.length - HT.sIx z.length 0 (some (k : Int))) = _
  rw [HT.sIx_nat]
  by_cases h : k ≤ z.length
  · rw [Nat.min_eq_left h, List.take_of_length_le (by rw [List.length_drop]; omega)]
  · rw [Nat.min_eq_right (by omega), List.drop_of_length_le (by omega), List.drop_of_length_le (by omega), List.take_nil]
theorem lt_mid (z : Str) (k : Nat) (h : k ≤ z.length) : letters (cutS z (some (k : Int)) (some ((k + 2 : Nat) : Int))) = ((letters z).drop k).take 2 := by
  have hl : (letters z).length = z.length := Array.length_toList
  show ((letters z).drop (HT.sIx z.length 0 (some (k : Int)))).take (HT.sIx z.length z.length (some ((k + 2 : Nat) : Int)) - HT.sIx z.length 0 (some (k : Int))) = _
  rw [HT.sIx_nat, HT.sIx_nat, Nat.min_eq_left h]
  by_cases h2 : k + 2 ≤ z.length
  · rw [Nat.min_eq_left h2, show k + 2 - k = 2 by omega]
  · rw [Nat.min_eq_right (by omega), List.take_of_length_le (by rw [List.length_drop]; omega), List.take_of_length_le (by rw [List.length_drop]; omega)]
theorem cB_rev {z : Str} (h : z.length ≤ 2) : cB (letters (revS z)) ≤ cB (letters z) := by
  have hl : (letters z).length = z.length := Array.length_toList
  have e0 : ∀ l : List Nat, z.cps.toList = l → letters (revS z) = (Builtin.Str.strSliceIndices none none (-1) l.length).filterMap (l[·]?) := by
    intro l e
    show (Builtin.Str.strSliceIndices none none (-1) z.length).filterMap (z.cps[·]?) = _
    have : z.length = l.length := by rw [← e]; exact hl.symm
    rw [this]
    have fe : (fun i : Nat => z.cps[i]?) = (fun i : Nat => l[i]?) := funext fun i => by rw [← e, Array.getElem?_toList]
    rw [fe]
  have i1 : Builtin.Str.strSliceIndices none none (-1) 1 = [0] := by decide +kernel
  have i2 : Builtin.Str.strSliceIndices none none (-1) 2 = [1, 0] := by decide +kernel
  have i0 : Builtin.Str.strSliceIndices none none (-1) 0 = [] := by decide +kernel
  cases q : letters z with
  | nil => rw [e0 _ q, show ([] : List Nat).length = 0 from rfl, i0]; exact Nat.le_refl _
  | cons a r =>
    cases r with
    | nil => rw [e0 _ q, show [a].length = 1 from rfl, i1]; exact Nat.le_refl _
    | cons b r =>
      cases r with
      | nil =>
        rw [e0 _ q, show [a, b].length = 2 from rfl, i2]
        show cB [b, a] ≤ cB [a, b]
        have e1 := cB_app [b] [a]
        have e2 := cB_app [a] [b]
        show cB ([b] ++ [a]) ≤ cB ([a] ++ [b])
        omega
      | cons c r => rw [q] at hl; simp at hl; omega
theorem cB_cut (L : List Nat) (j : Nat) : cB (L.take j) + cB (L.drop j) = cB L := by rw [← cB_app, List.take_append_drop]
theorem cB_drop (L : List Nat) (j : Nat) : cB (L.drop (j + 1)) ≤ cB (L.drop j) := by
  have : L.drop (j + 1) = (L.drop j).drop 1 := by rw [List.drop_drop]
  rw [this]
  exact (List.drop_sublist 1 _).countP_le
theorem cB_drop2 (L : List Nat) (j : Nat) : cB ((L.drop j).take 2) + cB (L.drop (j + 2)) = cB (L.drop j) := by
  have : L.drop (j + 2) = (L.drop j).drop 2 := by rw [List.drop_drop]
  rw [this]
  exact cB_cut _ 2
def spBentC : Sp := fun vs H Q _ => ∃ (a : Addr) (x : Str) (n : Nat), vs = [.ref a, .str x] ∧ Bag H a n ∧ n + 10 < 900000 ∧ x.length ≤ 148 ∧ (∀ c ∈ letters x, c < 128) ∧
  ∀ (y : Str) (H' : Hp) (n' : Nat), y.length ≤ x.length + 1 → (∀ c ∈ letters y, c < 128) → cB (letters y) ≤ cB (letters x) + 1 → n' ≤ n + 3 → Bag H' a n' → Ext a H H' → Q (.str y) H'
end My
set_option Elab.async false
set_option linter.all false
set_option maxRecDepth 100000
set_option maxHeartbeats 4000000
namespace My
open PySem PySem.Spec PyProof.Rows L2
def isB (t : Str) : Bool := decide (t = oP ∨ t ∈ ops5)
def cT (ts : List Str) : Nat := ts.countP isB
theorem cT_app (a b : List Str) : cT (a ++ b) = cT a + cT b := List.countP_append ..
theorem cT_cons (t : Str) (b : List Str) : cT (t :: b) = cT b + if isB t = true then 1 else 0 := List.countP_cons ..
theorem dep_str (x : Str) : (PyData.str x).depth ≤ 1 := by simp only [PyData.depth]; omega
theorem Dk.depth {d l : Nat} {e : Ex} {ts : List Str} (h : Dk d l e ts) : e.d.depth ≤ 1 + cT ts := by
  have o1 : isB oP = true := by decide
  have two : ∀ (x : Str) (a : PyData), (PyData.tuple [.str x, a]).depth ≤ 1 + max 1 a.depth := fun x a => by
    have := dep_str x
    simp only [PyData.depth, PyData.depthAll] at this ⊢
    omega
  have three : ∀ (x : Str) (a b : PyData), (PyData.tuple [.str x, a, b]).depth ≤ 1 + max 1 (max a.depth b.depth) := fun x a b => by
    have := dep_str x
    simp only [PyData.depth, PyData.depthAll] at this ⊢
    omega
  induction h with
  | @nm l s h => exact Nat.le_trans (dep_str s) (by omega)
  | par h ih => rw [cT_cons, cT_app]; omega
  | @keys d l a ts h ih =>
    have := two "keys" a.d
    show (PyData.tuple [.str "keys", a.d]).depth ≤ _
    rw [cT_cons, cT_cons, cT_app, if_pos o1]
    omega
  | @look d d2 l a b ta tb h g ih1 ih2 =>
    have := three lW a.d b.d
    show (PyData.tuple [.str lW, a.d, b.d]).depth ≤ _
    rw [cT_cons, cT_cons, cT_app, cT_cons, cT_app, if_pos o1]
    omega
  | @op d d2 l i w a b ta tb hw hl h g ih1 ih2 =>
    have ow : isB w = true := decide_eq_true (.inr (List.mem_of_getElem? hw))
    have := three w a.d b.d
    show (PyData.tuple [.str w, a.d, b.d]).depth ≤ _
    rw [cT_app, cT_cons, if_pos ow]
    omega
def isW (w : List Nat) : Bool := decide (w ∈ ([[40], [124], [94], [38], [45], [64]] : List (List Nat)))
theorem isW_one {w : List Nat} (h : isW w = true) : ∃ c, w = [c] ∧ (c = 40 ∨ c ∈ opC) := by
  have m := of_decide_eq_true h
  have : ∀ w ∈ ([[40], [124], [94], [38], [45], [64]] : List (List Nat)), ∃ c ∈ ([40, 124, 94, 38, 45, 64] : List Nat), w = [c] := by decide
  obtain ⟨c, hc, e⟩ := this w m
  have : ∀ c ∈ ([40, 124, 94, 38, 45, 64] : List Nat), c = 40 ∨ c ∈ opC := by decide
  exact ⟨c, e, this c hc⟩
theorem flush_cW {acc : List Nat} {l : List (List Nat)} (h : ∀ c ∈ acc, ¬ (c = 40 ∨ c ∈ opC)) : (flush acc l).countP isW = l.countP isW := by
  unfold flush
  split
  · rfl
  · rw [List.countP_cons, if_neg]
    · rfl
    · intro z
      obtain ⟨c, e, hc⟩ := isW_one z
      exact h c (by rw [e]; exact List.mem_cons_self) hc
theorem wl_cW : ∀ (T acc : List Nat), (∀ c ∈ acc, ¬ (c = 40 ∨ c ∈ opC)) → (wl acc T).countP isW ≤ cB T
  | [], acc, h => by unfold wl; rw [flush_cW h]; exact Nat.zero_le _
  | c :: r, acc, h => by
    have e1 : cB (c :: r) = cB r + if decide (c = 40 ∨ c ∈ opC) = true then 1 else 0 := List.countP_cons ..
    have ih := wl_cW r [] (by simp)
    unfold wl
    by_cases e : c = 32
    · rw [if_pos e, flush_cW h]
      omega
    · rw [if_neg e]
      by_cases m : c ∈ signL
      · rw [if_pos m, flush_cW h, List.countP_cons, e1]
        by_cases q : c = 40 ∨ c ∈ opC
        · rw [if_pos (decide_eq_true q)]
          split <;> omega
        · have nw : ¬ isW [c] = true := fun z => by
            obtain ⟨d, e2, hd⟩ := isW_one z
            injection e2 with e2
            exact q (e2 ▸ hd)
          rw [if_neg nw, if_neg (by rw [decide_eq_false q]; exact Bool.false_ne_true)]
          omega
      · rw [if_neg m]
        refine Nat.le_trans (wl_cW r (acc ++ [c]) fun x hx => ?_) (by omega)
        rcases List.mem_append.mp hx with y | y
        · exact h x y
        · rw [List.mem_singleton.mp y]
          rintro (z | z)
          · exact m (z ▸ (by decide))
          · have : ∀ c ∈ opC, c ∈ signL := by decide
            exact m (this c z)
theorem cT_le (x : Str) : cT (tokensOf x) ≤ cB (letters x) := by
  have h := wl_cW (letters x) [] (by simp)
  rw [← tokens_wl] at h
  refine Nat.le_trans ?_ h
  rw [List.countP_map]
  refine List.countP_mono_left fun t _ ht => ?_
  have ht : t = oP ∨ t ∈ ops5 := of_decide_eq_true ht
  show isW (letters t) = true
  rcases ht with rfl | ht
  · decide
  · have : ∀ t ∈ ops5, isW (letters t) = true := by decide
    exact this t ht
theorem said_depth (x : Str) : (saidE x).depth ≤ 1 + cB (letters x) := by
  unfold saidE
  cases h : readE x with
  | none => show PyData.depth .none ≤ _; simp only [PyData.depth]; omega
  | some d =>
    unfold readE at h
    split at h
    · obtain ⟨k, e, rfl, D⟩ := pE_ex h
      have := D.depth
      have := cT_le x
      show e.d.depth ≤ _
      omega
    · cases h
end My
set_option Elab.async false
set_option linter.all false
set_option maxRecDepth 100000
set_option maxHeartbeats 4000000
namespace My
open PySem PySem.Spec PyProof.Rows L2
theorem short_str {x : Str} (h : ∀ c ∈ letters x, c < 128) : (PyData.str x).leavesShort 100 = true := by
  simp only [PyData.leavesShort]
  exact List.all_eq_true.mpr fun c hc => decide_eq_true (Nat.lt_trans (h c hc) (by decide))
theorem Ex.shows : ∀ e : Ex, e.Ok → e.d.showable = true ∧ e.d.leavesShort 100 = true ∧ e.d.weight ≤ 8 * e.size
  | .nm s, h => by
    have h : nameOk s = true := h
    have l := (tok_len4 (.inr (.inl h))).2
    refine ⟨by show (PyData.str s).showable = true; simp only [PyData.showable], short_str (tok_ascii (.inr (.inl h))), ?_⟩
    show (PyData.str s).weight ≤ 8 * 1
    simp only [PyData.weight]
    show s.length ≤ _
    omega
  | .keys a, h => by
    obtain ⟨a1, a2, a3⟩ := Ex.shows a h
    have k1 : (PyData.str "keys").leavesShort 100 = true := by decide +kernel
    have k2 : (PyData.str "keys").weight = 4 := by decide +kernel
    show (PyData.tuple [.str "keys", a.d]).showable = true ∧ (PyData.tuple [.str "keys", a.d]).leavesShort 100 = true ∧ (PyData.tuple [.str "keys", a.d]).weight ≤ 8 * (a.size + 1)
    refine ⟨by simp only [PyData.showable, PyData.showableAll, a1]; rfl, ?_, ?_⟩
    · rw [PyData.leavesShort, PyData.leavesShortAll, PyData.leavesShortAll, PyData.leavesShortAll, k1, a2]; rfl
    · rw [PyData.weight, PyData.weightAll, PyData.weightAll, PyData.weightAll, k2]; omega
  | .bin w a b, h => by
    obtain ⟨a1, a2, a3⟩ := Ex.shows a h.2.1
    obtain ⟨b1, b2, b3⟩ := Ex.shows b h.2.2
    have kk : (PyData.str w).leavesShort 100 = true ∧ (PyData.str w).weight ≤ 4 := by
      rcases h.1 with q | rfl
      · have : ∀ w ∈ ops5, (PyData.str w).leavesShort 100 = true ∧ (PyData.str w).weight ≤ 4 := by decide +kernel
        exact this w q
      · decide +kernel
    obtain ⟨k1, k2⟩ := kk
    show (PyData.tuple [.str w, a.d, b.d]).showable = true ∧ (PyData.tuple [.str w, a.d, b.d]).leavesShort 100 = true ∧ (PyData.tuple [.str w, a.d, b.d]).weight ≤ 8 * (a.size + b.size + 1)
    refine ⟨by simp only [PyData.showable, PyData.showableAll, a1, b1]; rfl, ?_, ?_⟩
    · rw [PyData.leavesShort, PyData.leavesShortAll, PyData.leavesShortAll, PyData.leavesShortAll, PyData.leavesShortAll, k1, a2, b2]; rfl
    · rw [PyData.weight, PyData.weightAll, PyData.weightAll, PyData.weightAll, PyData.weightAll]; omega
theorem Dk.size_le {d l : Nat} {e : Ex} {ts : List Str} (h : Dk d l e ts) : e.size ≤ ts.length := by
  induction h with
  | nm h => exact Nat.le_refl _
  | par h ih => simp; omega
  | @keys d l a ts h ih => show a.size + 1 ≤ _; simp; omega
  | @look d d2 l a b ta tb h g ih1 ih2 => show a.size + b.size + 1 ≤ _; simp; omega
  | @op d d2 l i w a b ta tb hw hl h g ih1 ih2 => show a.size + b.size + 1 ≤ _; simp; omega
def bB : Nat → Nat
  | 0 => 0
  | j + 1 => 2 * bB j + 3
theorem cB_flat (a b : List Str) : cB ((a ++ b).flatMap letters) = cB (a.flatMap letters) + cB (b.flatMap letters) := by rw [List.flatMap_append, cB_app]
theorem cB_fcons (t : Str) (b : List Str) : cB ((t :: b).flatMap letters) = cB (letters t) + cB (b.flatMap letters) := by rw [List.flatMap_cons, cB_app]
theorem cB_arg (l : Nat) (e : Ex) (ts : List Str) : cB ((argT l e ts).flatMap letters) ≤ cB (ts.flatMap letters) + 1 := by
  have h1 : cB (letters oP) = 1 := by decide
  have h2 : cB (([cP] : List Str).flatMap letters) = 0 := by decide
  unfold argT
  split
  · rw [cB_fcons, cB_flat, h1, h2]; omega
  · omega
theorem Ex.In.few : ∀ {j : Nat} {e : Ex}, Ex.In j e → cB ((wrT e).flatMap letters) ≤ bB j
  | j, .nm s, h => by
    have h' : s ∈ (["a", "b", "key", "zzzz", "lo"] : List Str) := by cases j <;> exact h
    have : ∀ s ∈ (["a", "b", "key", "zzzz", "lo"] : List Str), cB (([s] : List Str).flatMap letters) = 0 := by decide +kernel
    show cB (([s] : List Str).flatMap letters) ≤ _
    rw [this s h']
    exact Nat.zero_le _
  | 0, .keys _, h => h.elim
  | 0, .bin _ _ _, h => h.elim
  | j + 1, .keys a, h => by
    have ih := Ex.In.few (j := j) (e := a) h
    have h1 : cB (letters oP) = 1 := by decide
    have h2 : cB (([cP] : List Str).flatMap letters) = 0 := by decide
    have h3 : cB (letters kW) = 0 := by decide +kernel
    show cB ((kW :: oP :: (wrT a ++ [cP])).flatMap letters) ≤ 2 * bB j + 3
    rw [cB_fcons, cB_fcons, cB_flat, h1, h2, h3]
    omega
  | j + 1, .bin w a b, h => by
    have ih1 := Ex.In.few (j := j) (e := a) h.2.1
    have ih2 := Ex.In.few (j := j) (e := b) h.2.2
    have h1 : cB (letters oP) = 1 := by decide
    have h2 : cB (([cP] : List Str).flatMap letters) = 0 := by decide
    have h4 : cB (letters cM) = 0 := by decide
    have hw : cB (letters w) ≤ 1 := by
      rcases h.1 with q | rfl
      · have : ∀ w ∈ ops5, cB (letters w) ≤ 1 := by decide
        exact this w q
      · decide +kernel
    have a1 := cB_arg 5 a (wrT a)
    have a2 := cB_arg 5 b (wrT b)
    show cB ((match lvl w with | some _ => argT 5 a (wrT a) ++ w :: argT 5 b (wrT b) | none => w :: oP :: (wrT a ++ cM :: (wrT b ++ [cP]))).flatMap letters) ≤ 2 * bB j + 3
    cases lvl w with
    | none =>
      show cB ((w :: oP :: (wrT a ++ cM :: (wrT b ++ [cP]))).flatMap letters) ≤ _
      rw [cB_fcons, cB_fcons, cB_flat, cB_fcons, cB_flat, h1, h2, h4]
      omega
    | some i =>
      show cB ((argT 5 a (wrT a) ++ w :: argT 5 b (wrT b)).flatMap letters) ≤ _
      rw [cB_flat, cB_fcons]
      omega
end My
set_option Elab.async false
set_option linter.all false
set_option maxRecDepth 100000
set_option maxHeartbeats 4000000
namespace My
open PySem PySem.Spec PyProof.Rows L2
section
variable {n : Nat} {X : Cx} {a b c e : Expr} {es : List Expr} {pos : Pos} {ta tb te : TE} {tc : TT} {tl : TA}
theorem PWn.of (h : PW X e tc) : PWn n X e tc := ⟨fun wh pins s σ H Q _ I q => h.run wh pins s σ H Q I q⟩
end
theorem thnFK {α : Type} {t : Sem α} {Q Q' : α → Shared → Prop} {M : Model} {A : Around} {E : Value → Shared → Prop} {s : Shared} {n : Nat} (hn : n ≤ s.toks) (h : wpAny M A t Q (fun _ _ => False) s) (hQ : ∀ a s1, n ≤ s1.toks → Q a s1 → Q' a s1) : wpAny M A t Q' E s :=
  wpAny_mono (PySem.wpAny_toks_of hn h) (fun a s1 q => hQ a s1 q.1 q.2) fun _ _ z => z.2.elim
theorem pen_lc {n : Nat} {X : Cx} {elt tg iter : Expr} {sc : Scope} {own : List (Str × Nat)} {pos : Pos} {wi : TI} {g : TG} {te : TE} (calm : X.calm = true) (nd : X.N.Nodup) (hi : PI X tg iter wi) (bo : BlkOk X.N X.env.scope sc own)
    (pgs : ∀ (t : Shared) (G : Hp) (B : Addr) (cs : List (Str × Addr)) (fp : List Addr), PG (X.blk t G sc (compEnvC sc cs B X.env) fp) tg g)
    (pes : ∀ (t : Shared) (G : Hp) (B : Addr) (cs : List (Str × Addr)) (fp : List Addr), PEn n (X.blk t G sc (compEnvC sc cs B X.env) fp) elt te)
    (fold : ∀ x, foldedSetIterable iter X.env x = pure x := by intro _; rfl) : PEn n X (.ListComp elt [⟨tg, iter, [], 0⟩] sc pos) (tLc wi g tYes te (own.map (·.2))) := by
  refine ⟨fun pins s σ H Q hn I h => ?_⟩
  rw [eval_ListComp]
  have clo : ∀ y ∈ sc.names, y.2 = .free → ∃ c, X.env.cells.lookup y.1 = some c := fun y my fy => (bo.free y my fy).elim (fun k => I.ok.has _ (.inl k)) fun k => I.ok.has _ (.inr k)
  refine wpAny_comprehension_free (use := none) rfl fold (closure_ok clo) bo.kind (fun y my fy => by rw [bo.uniq y my, fy]) (thnK hn (hi.run pins s σ H _ I h) fun _ s1 hn1 hx => thnK hn1 hx fun _ s2 hn2 hy => ?_)
  obtain ⟨it, fp, tn, J, H2, rfl, I2, T, at0, foot, q⟩ := hy
  refine wpAny_newObj_type (newEnv_comp ?_) (Nat.zero_le _)
  obtain ⟨L, hL⟩ : ∃ L, s2.heap.objs.size = L := ⟨_, rfl⟩
  have freeL : H2 L = none := I2.hok.fresh (Nat.le_of_eq hL)
  obtain ⟨W, ⟨m0, w0⟩, turn⟩ := q L freeL
  obtain ⟨s3, e3⟩ : ∃ s3 : Shared, s3 = { s2 with heap := s2.heap.push { cls := .type "list", data := .seq ([] : List Value).toArray } } := ⟨_, rfl⟩
  have hn3 : n ≤ s3.toks := by rw [e3]; exact hn2
  have I3 : Inv X pins σ (upd H2 L (.lst [])) s3 := by
    subst e3
    exact I2.laid (t' := s2.toks) (fun b o z => Heap.get?_push_of_some _ z) (Nat.le_of_eq hL) ⟨Nat.zero_le _, [], 0, .nil, by rw [← hL]; exact Heap.get?_push_size _ rfl⟩
  have at3 : tn 0 s3.heap := T.keep _ _ _ at0 fun b _ o z => by subst e3; exact Heap.get?_push_of_some _ z
  have foot3 : ∀ b ∈ fp, FpOk X pins (upd H2 L (.lst [])) b ∧ b < s3.heap.objs.size := fun b hb => by
    obtain ⟨o, eo, _⟩ := T.obj _ _ at0 b hb
    have lt := Heap.lt_size eo
    refine ⟨⟨(upd_ne (by rw [← hL]; exact Nat.ne_of_lt lt)).trans (foot b hb).1, (foot b hb).2⟩, ?_⟩
    subst e3
    rw [Heap.size_push]
    exact Nat.lt_succ_of_lt lt
  have I4 := block_start I3 bo nd foot3
  obtain ⟨G3, eG⟩ : ∃ G3, upd H2 L (.lst []) = G3 := ⟨_, rfl⟩
  rw [eG] at I3 I4 foot3 w0
  rw [← e3]
  obtain ⟨B, eB⟩ : ∃ B, s3.heap.objs.size = B := ⟨_, rfl⟩
  obtain ⟨ce, ece⟩ : ∃ ce, compEnvC sc (cellsFrom (s3.heap.objs.size + 1) sc.names (cloFrom X.env.cells sc.names [])) s3.heap.objs.size X.env = ce := ⟨_, rfl⟩
  have pg := pgs s3 G3 s3.heap.objs.size (cellsFrom (s3.heap.objs.size + 1) sc.names (cloFrom X.env.cells sc.names [])) fp
  have pe := pes s3 G3 s3.heap.objs.size (cellsFrom (s3.heap.objs.size + 1) sc.names (cloFrom X.env.cells sc.names [])) fp
  show codeAny _ _ (.compStart (.ListComp elt [⟨tg, iter, [], 0⟩] sc pos) 0 (.ref it) (.ref s2.heap.objs.size) (compEnvC sc (cellsFrom (s3.heap.objs.size + 1) sc.names (cloFrom X.env.cells sc.names [])) s3.heap.objs.size X.env)) (compPost (model X.prog X.w) X.A X.xe none (EP X pins σ Q) (.ref s2.heap.objs.size) s3.heap.objs.size) { s3 with heap := pushCells (s3.heap.push { cls := .type "dict", data := .dict #[] }) sc.names }
  rw [ece] at I4 pg pe ⊢
  rw [eB, hL]
  have locB : ce.locals = B := by rw [← ece, ← eB]; rfl
  obtain ⟨s4, e4⟩ : ∃ s4 : Shared, s4 = { s3 with heap := pushCells (s3.heap.push { cls := .type "dict", data := .dict #[] }) sc.names } := ⟨_, rfl⟩
  rw [← e4] at I4 ⊢
  have hn4 : n ≤ s4.toks := by rw [e4]; exact hn3
  have at4 : tn 0 s4.heap := T.keep _ _ _ at3 fun b _ o z => by rw [e4]; exact pushCells_keeps _ _ _ _ (Heap.get?_push_of_some _ z)
  have stat : ∀ {τ : L2.St} {G : Hp} {t : Shared}, Inv (X.blk s3 G3 sc ce fp) [] τ G t → (∀ b ∈ fp, G b = none) → ∀ b ∈ fp, FpOk (X.blk s3 G3 sc ce fp) [] G b := fun {τ G t} J' z b hb =>
    ⟨z b hb, (J'.ok.exf b hb).1, J'.ok.exfs b hb, .inl hb, fun x c lk => (J'.ok.exf b hb).2 x c lk, fun p mp => absurd (show p ∈ ([] : List (Addr × Obj)) ++ [] from mp) (by simp)⟩
  have loop : codeAny (model X.prog X.w) X.A (.compLoop (.ListComp elt [⟨tg, iter, [], 0⟩] sc pos) 0 (.ref it) (.ref L) ce) (compPost (model X.prog X.w) X.A X.xe none (EP X pins σ Q) (.ref L) B) s4 := by
    refine compLoop_any (fun m t => n ≤ t.toks ∧ ∃ i G, Inv (X.blk s3 G3 sc ce fp) [] (wipe σ (own.map (·.2))) G t ∧ tn i t.heap ∧ (∀ b ∈ fp, G b = none) ∧ W i m G) ?_ m0 ⟨hn4, 0, G3, I4, at4, fun b hb => (foot3 b hb).1.1, w0⟩
    rintro m s5 ⟨hn5, i, H5, I5, at5, z5, w5⟩
    rcases turn i m H5 w5 with ⟨stop, fin⟩ | ⟨go, Nx, dec, step⟩
    · refine thnF (T.done (X.blk s3 G3 sc ce fp) rfl rfl rfl calm i [] s5 _ H5 (fun _ _ => False) I5 (stat I5 z5) at5 stop) fun r s6 ⟨hr, I6⟩ => ?_
      subst hr
      have back : Inv X pins σ H5 s6 := I3.call' (ch := fp) I6.os I6.base I6.hok I6.bare fun b hb => by
        obtain ⟨_, k1, k2, k3, k4, k5⟩ := (foot3 b hb).1
        exact ⟨k3, k1, k4, k5⟩
      have zB : H5 B = none := by
        have z : H5 ce.locals = none := I6.free
        rwa [locB] at z
      obtain ⟨mm, ns, _⟩ := I6.loc
      have ns : s6.heap.Ns ce.locals mm := ns
      rw [locB] at ns
      refine ⟨mm, ns, fun h7 sb => ?_⟩
      obtain ⟨f0, f1, _, f3, f4, f5⟩ := I3.fpOk (H' := H5) (Nat.le_of_eq eB) zB
      exact ⟨.ref L, H5, back.turned (t' := s6.toks) (fun b o hb z => (sb.2 b hb).trans z) f0 f1 f3 f4 f5, rfl, fin⟩
    · refine thnFK hn5 (T.item (X.blk s3 G3 sc ce fp) rfl rfl rfl calm i [] s5 _ H5 (fun _ _ => False) I5 (stat I5 z5) at5 go) fun r s6 hn6 hh => ?_
      obtain ⟨u, hr, h6⟩ := hh
      subst hr
      refine thnFK hn6 h6 fun _ s7 hn7 hh => ?_
      obtain ⟨x, H7, I7, r7, y7, at7, z7⟩ := hh
      have I7p := I7.pinned (stat I7 z7) (T.obj _ _ at7)
      refine thnFK hn7 (pg.run _ s7 _ H7 x u _ I7p r7 (step x H7 y7)) fun _ s8 hn8 hh => ?_
      obtain ⟨σ8, H8, I8, hw8, q8⟩ := hh
      refine thnFK hn8 ((pts_nil (X := X.blk s3 G3 sc ce fp)).run _ s8 σ8 H8 _ I8 q8) fun b s9 hn9 hh => ?_
      obtain ⟨H9, I9, q9⟩ := hh
      have next : ∀ {t : Shared} {G : Hp}, n ≤ t.toks → Inv (X.blk s3 G3 sc ce fp) ([] ++ pinsAt fp s7.heap) σ8 G t → Nx G → ∃ m', m' < m ∧ (n ≤ t.toks ∧ ∃ i G, Inv (X.blk s3 G3 sc ce fp) [] (wipe σ (own.map (·.2))) G t ∧ tn i t.heap ∧ (∀ b ∈ fp, G b = none) ∧ W i m' G) := fun {t G} hnt J' nx => by
        obtain ⟨m', lt, w'⟩ := dec G nx
        have kept : ∀ b ∈ fp, ∀ o, s7.heap.get? b = some o → t.heap.get? b = some o ∧ G b = none := fun b hb o eo => by
          have z := J'.pin (b, o) (List.mem_append_right _ (List.mem_append_right _ (mem_pinsAt hb eo)))
          exact ⟨z.1, z.2.1⟩
        have len : (wipe σ (own.map (·.2))).length = σ8.length := by rw [← hw8, wipe_length]
        refine ⟨m', lt, hnt, i + 1, G, (J'.unpinned (pins := [])).weak len (fun j v ej => ?_), T.keep _ _ _ at7 fun b hb o eo => (kept b hb o eo).1, fun b hb => ?_, w'⟩
        · exact (wipe_some (hw8 ▸ ej)).1
        · obtain ⟨o, eo, _⟩ := T.obj _ _ at7 b hb
          exact (kept b hb o eo).2
      match b, q9 with
      | false, q9 => exact next hn9 I9 q9
      | true, q9 =>
        refine thnFK hn9 (pe.run _ s9 σ8 H9 _ hn9 I9 q9) fun z s10 hn10 hh => ?_
        obtain ⟨yv, H10, I10, r10, acc, hL10, hz10, nx⟩ := hh
        exact PySem.wpAny_with_toks hn10 (app_ok (X := X.blk s3 G3 sc ce fp) I10 hL10 hz10 r10 fun s11 I11 hn11 => next hn11 I11 nx)
  exact codeAny_compStart_list loop (T.self X.A 0 _ _ _ at4 loop)
end My
set_option Elab.async false
set_option maxRecDepth 100000
set_option maxHeartbeats 4000000
set_option linter.unusedVariables false
set_option Elab.async false
set_option maxRecDepth 100000
set_option maxHeartbeats 4000000
set_option linter.unusedVariables false
set_option Elab.async false
set_option linter.all false
set_option maxRecDepth 100000
namespace My
open PySem PySem.Spec PyProof.Rows L2
inductive AllX (K : PySem.W.Frag) (H : Hp) : List V → List PyData → Prop
  | nil : AllX K H [] []
  | cons {v : V} {d : PyData} {vs : List V} {ds : List PyData} : Dx K H v d → AllX K H vs ds → AllX K H (v :: vs) (d :: ds)
inductive Dn (K : PySem.W.Frag) (H : Hp) : V → PyData → Prop
  | of {v : V} {d : PyData} : Dx K H v d → Dn K H v d
  | lst {a : Addr} {vs : List V} {ds : List PyData} : SqL K H a vs → AllX K H vs ds → Dn K H (.ref a) (.list ds)
  | tup {a : Addr} {vs : List V} {ds : List PyData} : SqT K H a vs → AllX K H vs ds → Dn K H (.ref a) (.tuple ds)
section
variable {K : PySem.W.Frag} {H H' : Hp}
theorem AllX.same (s : Same H H') : ∀ {vs : List V} {ds : List PyData}, AllX K H vs ds → AllX K H' vs ds
  | _, _, .nil => .nil
  | _, _, .cons h r => .cons (h.same s) (AllX.same s r)
theorem AllX.app {vs ws : List V} {ds es : List PyData} (h : AllX K H vs ds) (h2 : AllX K H ws es) : AllX K H (vs ++ ws) (ds ++ es) := by
  induction h with
  | nil => exact h2
  | cons a _ ih => exact .cons a ih
theorem AllX.len {vs : List V} {ds : List PyData} (h : AllX K H vs ds) : vs.length = ds.length := by
  induction h with
  | nil => rfl
  | cons _ _ ih => rw [List.length_cons, List.length_cons, ih]
theorem AllX.at {vs : List V} {ds : List PyData} (h : AllX K H vs ds) : ∀ {i : Nat} {v : V}, vs[i]? = some v → ∃ d, ds[i]? = some d ∧ Dx K H v d := by
  induction h with
  | nil => intro i v e; cases e
  | cons a _ ih =>
    intro i v e
    cases i with
    | zero => cases e; exact ⟨_, rfl, a⟩
    | succ i => simpa using ih (i := i) (by simpa using e)
theorem AllX.of : ∀ {vs : List V} {ds : List PyData}, DpAll K H vs ds → AllX K H vs ds
  | _, _, .nil => .nil
  | _, _, .cons h r => .cons (.of h) (AllX.of r)
theorem AllX.take {vs : List V} {ds : List PyData} (h : AllX K H vs ds) : ∀ n, AllX K H (vs.take n) (ds.take n) := by
  induction h with
  | nil => intro n; simpa using AllX.nil
  | cons a _ ih =>
    intro n
    cases n with
    | zero => exact .nil
    | succ n => exact .cons a (ih n)
theorem AllX.drop {vs : List V} {ds : List PyData} (h : AllX K H vs ds) : ∀ n, AllX K H (vs.drop n) (ds.drop n) := by
  induction h with
  | nil => intro n; simpa using AllX.nil
  | cons a r ih =>
    intro n
    cases n with
    | zero => exact .cons a r
    | succ n => exact ih n
theorem Dn.same {v : V} {d : PyData} (h : Dn K H v d) (s : Same H H') : Dn K H' v d := by
  cases h with
  | of h => exact .of (h.same s)
  | lst h1 h2 => exact .lst (s.seq h1) (h2.same s)
  | tup h1 h2 => exact .tup (same_seqT s h1) (h2.same s)
end
def SysK (K : PySem.W.Frag) : Prop := ∃ od es n sl, K.lookup sysModules = some ⟨.type "dict", od, .dict es n, sl⟩
section
variable {h : Heap}
mutual
theorem reads_noSys {o : Obj} (ho : h.get? sysModules = some o) (hc : o.cls = .type "dict") : ∀ {v : Value} {d : PyData} {as : List Addr}, PySem.Reads h v d as → d.hasDict = false → sysModules ∉ as
  | _, _, _, .none, _ => List.not_mem_nil
  | _, _, _, .bool _, _ => List.not_mem_nil
  | _, _, _, .int _ _, _ => List.not_mem_nil
  | _, _, _, .str _ _, _ => List.not_mem_nil
  | _, _, _, .list e1 e2 e3 r, hd => fun m => by
    rcases List.mem_cons.mp m with q | q
    · rw [← q, ho] at e1
      cases e1
      rw [hc] at e2
      exact absurd e2 (by decide)
    · exact readsAll_noSys ho hc r (by simpa only [PyData.hasDict] using hd) q
  | _, _, _, .tuple e1 e2 e3 r, hd => readsAll_noSys ho hc r (by simpa only [PyData.hasDict] using hd)
  | _, _, _, .dict _ _ _ _ _, hd => by simp only [PyData.hasDict] at hd; cases hd
theorem readsAll_noSys {o : Obj} (ho : h.get? sysModules = some o) (hc : o.cls = .type "dict") : ∀ {vs : List Value} {ds : List PyData} {as : List Addr}, ReadsAll h vs ds as → PyData.hasDictAll ds = false → sysModules ∉ as
  | _, _, _, .nil, _ => List.not_mem_nil
  | _, _, _, .cons r1 r2, hd => fun m => by
    simp only [PyData.hasDictAll, Bool.or_eq_false_iff] at hd
    rcases List.mem_append.mp m with q | q
    · exact reads_noSys ho hc r1 hd.1 q
    · exact readsAll_noSys ho hc r2 hd.2 q
end
end
section
variable {X : Cx} {pins : List (Addr × Obj)} {σ : L2.St} {H : Hp} {s : Shared}
theorem sys_obj (S : SysK X.K) (I : L2.Inv X pins σ H s) : ∃ o, s.heap.get? sysModules = some o ∧ o.cls = .type "dict" := by
  obtain ⟨od, es, n, sl, e⟩ := S
  exact ⟨_, I.kIn _ _ e, rfl⟩
theorem Dx.reads (S : SysK X.K) (I : L2.Inv X pins σ H s) {x : V} {d : PyData} {u : Value} (h : Dx X.K H x d) (r : RelV x u) : ∃ as, PySem.Reads s.heap u d as ∧ sysModules ∉ as := by
  obtain ⟨o, ho, hc⟩ := sys_obj S I
  cases h with
  | of hp =>
    obtain ⟨as, rd⟩ := Dp.reads I d x u hp r
    exact ⟨as, rd, reads_noSys ho hc rd (dp_noDict d x hp)⟩
  | @dict a kvs ds ha f =>
    cases r
    obtain ⟨_, ne, vs, kv, o, es, ep, e1, e2, e3, _, p, _⟩ := I.hok a _ ha
    obtain ⟨z1, z2⟩ := readsAll_flat (h := s.heap) p kv f
    refine ⟨_, PySem.Reads.dict e1 e2.1 e3 z1 z2, fun m => ?_⟩
    have m2 : sysModules ∈ [a] := by simpa using m
    rw [List.mem_singleton] at m2
    subst m2
    simp at ne
theorem AllX.reads (S : SysK X.K) (I : L2.Inv X pins σ H s) : ∀ {xs : List V} {ds : List PyData} {us : List Value}, AllX X.K H xs ds → Vals xs us → ∃ as, ReadsAll s.heap us ds as ∧ sysModules ∉ as
  | _, _, _, .nil, .nil => ⟨[], .nil, List.not_mem_nil⟩
  | _, _, _, .cons h r, .cons r1 r2 => by
    obtain ⟨as, a1, a2⟩ := h.reads S I r1
    obtain ⟨bs, b1, b2⟩ := AllX.reads S I r r2
    exact ⟨_, .cons a1 b1, fun m => (List.mem_append.mp m).elim a2 b2⟩
theorem Dn.reads (S : SysK X.K) (I : L2.Inv X pins σ H s) {x : V} {d : PyData} {u : Value} (h : Dn X.K H x d) (r : RelV x u) : ∃ as, PySem.Reads s.heap u d as ∧ sysModules ∉ as := by
  obtain ⟨o, ho, hc⟩ := sys_obj S I
  cases h with
  | of h => exact h.reads S I r
  | @lst a vs ds h1 h2 =>
    cases r
    obtain ⟨its, rv, ⟨n, dd, e1, e2, e3, e4⟩, hz⟩ := I.list h1
    obtain ⟨as, a1, a2⟩ := h2.reads S I rv
    refine ⟨_, PySem.Reads.list e1 e2 e4 (by simpa using a1), fun m => ?_⟩
    rcases List.mem_cons.mp m with q | q
    · rw [← q, ho] at e1
      cases e1
      rw [hc] at e2
      exact absurd e2 (by decide)
    · exact a2 q
  | @tup a vs ds h1 h2 =>
    cases r
    obtain ⟨its, rv, ⟨o, e1, e2, n, e4⟩, hz⟩ := I.tuple h1
    obtain ⟨as, a1, a2⟩ := h2.reads S I rv
    exact ⟨_, PySem.Reads.tuple e1 e2 e4 (by simpa using a1), a2⟩
end
end My
set_option Elab.async false
set_option linter.all false
set_option maxRecDepth 100000
set_option maxHeartbeats 4000000
namespace My
open PySem PySem.Spec PyProof.Rows L2 LamX
section
variable {P : Program} {w : World} {K : PySem.W.Frag} {mg : Str → Option Value} {base : Heap}
theorem FunV.okX {x qual : Str} {st : Stmt} {f : Addr} {fd : FuncData} {dV : Value} {N ps : List Str} {k : Nat} {sp : Sp} (F : FunV K x qual st dV f fd) (S : FnScope N ps (defScope st))
    (len : ∀ vs H Q E, sp vs H Q E → vs.length = ps.length)
    (hbody : ∀ (cdv : Value) (A : Around) (outer : List Env) (s : Shared) (H : Hp) (vs : List V) (Q : VK) (E : XK), Room k (A.deeper (envOfC qual (defScope st) s.heap.objs.size f cdv)) → sp vs H Q E →
      ∃ t, PSs (cxOf (L2.CX P w) P w K mg base N qual (defScope st) f cdv A outer s H E) (defBody st) t ∧ t { nx := fun _ H' => Q .non H', rt := Q } (start N vs) H) : FnOk P w K mg base (L2.CX P w) (k + 1) f fd ps sp := by
  obtain ⟨oc, od, kV, doc, pm, an, cdv, ct, osl, rfl, lk, hcd⟩ := F.ex
  exact fn_of lk hcd S len fun A outer s H vs Q E hr hsp => hbody cdv A outer s H vs Q E hr hsp
end
end My
set_option Elab.async false
set_option linter.all false
set_option maxRecDepth 100000
set_option Elab.async false
set_option linter.all false
set_option maxRecDepth 100000
set_option Elab.async false
set_option linter.all false
set_option maxRecDepth 100000
namespace My
open PySem PySem.Spec PyProof.Rows L2
def LitX (K : PySem.W.Frag) (σ : L2.St) (t : TE) (d : PyData) : Prop := ∀ (H : Hp) (Q : VK), (∀ v H', Same H H' → Dx K H' v d → Q v H') → t σ H Q
def LitAX (K : PySem.W.Frag) (σ : L2.St) (t : TA) (ds : List PyData) : Prop := ∀ (H : Hp) (Q : List V → Hp → Prop), (∀ vs H', Same H H' → AllX K H' vs ds → Q vs H') → t σ H Q
def LsX (K : PySem.W.Frag) (H : Hp) (a : Addr) (ds : List PyData) : Prop := ∃ vs, H a = some (.lst vs) ∧ AllX K H vs ds
section
variable {K : PySem.W.Frag} {σ : L2.St}
theorem litx_of {t : TE} {d : PyData} (h : LitE K σ t d) : LitX K σ t d := fun H Q k => h H Q fun v H' s hv => k v H' s (.of hv)
theorem litx_all {t : TA} {ds : List PyData} (h : LitA K σ t ds) : LitAX K σ t ds := fun H Q k => h H Q fun vs H' s hv => k vs H' s (.of hv)
theorem litx_nil : LitAX K σ tNil [] := fun H Q k => k [] H (Same.refl H) .nil
theorem litx_cons {t : TE} {u : TA} {d : PyData} {ds : List PyData} (h : LitX K σ t d) (r : LitAX K σ u ds) : LitAX K σ (tCons t u) (d :: ds) := by
  intro H Q k
  refine h H _ fun v H1 s1 hv => r H1 _ fun vs H2 s2 hvs => ?_
  exact k _ _ (s1.trans s2) (.cons (hv.same s2) hvs)
theorem litx_new {u : TA} {ds : List PyData} (r : LitAX K σ u ds) (hl : ds.length ≤ 1000) {H : Hp} {Q : VK} (k : ∀ a H', Same H H' → H a = none → LsX K H' a ds → Q (.ref a) H') : tLst u σ H Q := by
  refine r H _ fun vs H1 s1 hvs => ⟨lit_len (by rw [hvs.len]; exact hl), fun p hp => ?_⟩
  have s2 : Same H1 (upd H1 p (.lst vs)) := same_new hp
  exact k _ _ (s1.trans s2) (s1.free hp) ⟨vs, upd_same, hvs.same s2⟩
theorem LsX.same {H H' : Hp} {a : Addr} {ds : List PyData} (h : LsX K H a ds) (s : Same H H') : LsX K H' a ds := by
  obtain ⟨vs, h1, h2⟩ := h
  exact ⟨vs, s _ _ h1, h2.same s⟩
theorem lsx_cat {H : Hp} {a b : Addr} {ds es : List PyData} {Q : VK} (h1 : LsX K H a ds) (h2 : LsX K H b es) (hl : ds.length + es.length ≤ 1000) (k : ∀ p H', Same H H' → H p = none → LsX K H' p (ds ++ es) → Q (.ref p) H') : rCat (.ref a) (.ref b) H Q := by
  obtain ⟨vs, e1, d1⟩ := h1
  obtain ⟨ws, e2, d2⟩ := h2
  refine ⟨a, b, vs, ws, rfl, rfl, e1, e2, lit_len (by rw [d1.len, d2.len]; exact hl), fun p hp => ?_⟩
  have s := same_new hp (o := .lst (vs ++ ws))
  exact k p _ s hp ⟨_, upd_same, (d1.app d2).same s⟩
theorem seq_litx {u : TA} {ds : List PyData} {i : Nat} {rest : TS} {D : L2.Ends} {H : Hp} (r : LitAX K σ u ds) (hl : ds.length ≤ 1000) (k : ∀ a H', Same H H' → H a = none → LsX K H' a ds → rest D (σ.set i (some (.ref a))) H') :
    tSeq (tAsg (tLst u) (gName i)) rest D σ H := by
  show tLst u σ H fun x H1 => rest D (σ.set i (some x)) H1
  exact litx_new r hl k
theorem seq_catx {u : TA} {a : Addr} {es ds : List PyData} {i j : Nat} {rest : TS} {D : L2.Ends} {H : Hp} (e : σ[i]? = some (some (.ref a))) (h : LsX K H a es) (r : LitAX K σ u ds) (hl : es.length + ds.length ≤ 1000)
    (k : ∀ p H', Same H H' → H p = none → LsX K H' p (es ++ ds) → rest D (σ.set j (some (.ref p))) H') : tSeq (tAsg (tOp rCat (tVar i) (tLst u)) (gName j)) rest D σ H := by
  refine ⟨_, e, litx_new r (by omega) fun b H1 s1 n1 h1 => ?_⟩
  exact lsx_cat (h.same s1) h1 hl fun p H2 s2 n2 h2 => k p H2 (s1.trans s2) (s1.free n2) h2
end
end My
set_option Elab.async false
set_option linter.all false
set_option maxRecDepth 100000
set_option maxHeartbeats 4000000
namespace My
open PySem PySem.Spec PyProof.Rows L2
theorem FnT.or {n : Nat} {P : Program} {w : World} {K : PySem.W.Frag} {mg : Str → Option Value} {base : Heap} {CX : CXT} {k : Nat} {f : Addr} {fd : FuncData} {ps : List Str} {sp sq : Sp} (h1 : FnT n P w K mg base CX k f fd ps sp) (h2 : FnT n P w K mg base CX k f fd ps sq) :
    FnT n P w K mg base CX k f fd ps (fun vs H Q E => sp vs H Q E ∨ sq vs H Q E) :=
  ⟨fun vs H Q E h => h.elim (h1.len vs H Q E) (h2.len vs H Q E), fun A outer s H args us vs Q E hn hr e0 hb r h => h.elim (h1.run A outer s H args us vs Q E hn hr e0 hb r) (h2.run A outer s H args us vs Q E hn hr e0 hb r)⟩
theorem str_odd {d : PyData} (h : isD "str" d = true) : ∃ x, d = .str x := by
  rw [isD_str] at h
  cases d <;> first | exact ⟨_, rfl⟩ | exact absurd h (by simp)
end My
set_option Elab.async false
set_option linter.all false
set_option maxRecDepth 100000
set_option maxHeartbeats 4000000
namespace My
open PySem PySem.Spec PyProof.Rows L2
def sps (n : Nat) : List Nat := List.replicate n 32
theorem tw_sps : ∀ (a : Nat) (M : List Nat), M.head? ≠ some 32 → ((sps a ++ M).takeWhile (· == 32)).length = a
  | 0, [], _ => rfl
  | 0, c :: r, h => by
    have : c ≠ 32 := fun e => h (by rw [e]; rfl)
    show ((c :: r).takeWhile (· == 32)).length = 0
    rw [List.takeWhile_cons, if_neg (by simpa using this)]
    rfl
  | a + 1, M, h => by
    show ((32 :: (sps a ++ M)).takeWhile (· == 32)).length = a + 1
    rw [List.takeWhile_cons, if_pos (by decide), List.length_cons, tw_sps a M h]
theorem strip_letters (x : Str) : letters (Txt.stripChars x " ") = ((letters x).drop ((letters x).takeWhile (· == 32)).length).take (((letters x).length - (((letters x).drop ((letters x).takeWhile (· == 32)).length).reverse.takeWhile (· == 32)).length) - ((letters x).takeWhile (· == 32)).length) := by
  have g : (" " : Str).cps.contains = fun c => c == 32 := by
    funext c
    show (#[32] : Array Nat).contains c = _
    simp
    by_cases h : c = 32 <;> simp [h]
  unfold Txt.stripChars
  rw [g, PyProof.Rows.stripBy_eq]
  have hl : (letters x).length = x.length := Array.length_toList
  have sub : ∀ lo hi : Nat, letters (PySem.Builtin.Str.strSub x lo hi) = ((letters x).drop lo).take (hi - lo) := fun lo hi => by
    show (x.cps.extract lo hi).toList = _
    rw [Array.toList_extract]
  rw [sub, hl]
  rfl
theorem strip_mid {a b : Nat} {M : List Nat} (hne : M ≠ []) (h1 : M.head? ≠ some 32) (h2 : M.getLast? ≠ some 32) : letters (Txt.stripChars (ofL (sps a ++ (M ++ sps b))) " ") = M := by
  rw [strip_letters]
  show ((sps a ++ (M ++ sps b)).drop ((sps a ++ (M ++ sps b)).takeWhile (· == 32)).length).take _ = M
  have la : (sps a).length = a := List.length_replicate
  have lb : (sps b).length = b := List.length_replicate
  have e1 : ((sps a ++ (M ++ sps b)).takeWhile (· == 32)).length = a := tw_sps a _ (by
    cases M with
    | nil => exact absurd rfl hne
    | cons c r => exact h1)
  have e2 : (sps a ++ (M ++ sps b)).drop a = M ++ sps b := by
    conv => lhs; arg 1; rw [← la]
    exact List.drop_left
  have e3 : ((M ++ sps b).reverse.takeWhile (· == 32)).length = b := by
    rw [List.reverse_append, show (sps b).reverse = sps b from List.reverse_replicate]
    refine tw_sps b _ ?_
    rw [List.head?_reverse]
    exact h2
  show ((sps a ++ (M ++ sps b)).drop ((sps a ++ (M ++ sps b)).takeWhile (· == 32)).length).take ((sps a ++ (M ++ sps b)).length - (((sps a ++ (M ++ sps b)).drop ((sps a ++ (M ++ sps b)).takeWhile (· == 32)).length).reverse.takeWhile (· == 32)).length - ((sps a ++ (M ++ sps b)).takeWhile (· == 32)).length) = M
  rw [e1, e2, e3]
  rw [List.length_append, List.length_append, la, lb, show a + (M.length + b) - b - a = M.length by omega]
  exact List.take_left
theorem strip_none (a : Nat) : letters (Txt.stripChars (ofL (sps a)) " ") = [] := by
  rw [strip_letters]
  have e1 : ((sps a).takeWhile (· == 32)).length = a := by
    have := tw_sps a [] (by simp)
    rwa [List.append_nil] at this
  have e3 : ((letters (ofL (sps a))).takeWhile (· == 32)).length = a := e1
  rw [e3]
  have la : (sps a).length = a := List.length_replicate
  have e2 : (letters (ofL (sps a))).drop a = [] := List.drop_of_length_le (by show (sps a).length ≤ a; omega)
  rw [e2, List.take_nil]
theorem first_not : ∀ (l : List Nat), (∃ q ∈ l, q ≠ 32) → ∃ (s : Nat) (q : Nat) (t : List Nat), l = sps s ++ q :: t ∧ q ≠ 32
  | [], ⟨_, h, _⟩ => nomatch h
  | y :: ys, ⟨q, hq, hn⟩ => by
    by_cases ey : y = 32
    · rcases List.mem_cons.mp hq with z | z
      · exact absurd (z.trans ey) hn
      · obtain ⟨s, q2, t, e1, e2⟩ := first_not ys ⟨q, z, hn⟩
        exact ⟨s + 1, q2, t, by rw [e1, ey]; rfl, e2⟩
    · exact ⟨0, y, ys, rfl, ey⟩
theorem cut_end : ∀ (R : List Nat) (c : Nat), c ≠ 32 → ∃ (R0 : List Nat) (b : Nat), c :: R = (c :: R0) ++ sps b ∧ (c :: R0).getLast? ≠ some 32
  | [], c, h => ⟨[], 0, rfl, by simpa using h⟩
  | d :: r, c, h => by
    by_cases hd : ∃ q ∈ d :: r, q ≠ 32
    · by_cases e : d = 32
      · -- look behind it
        obtain ⟨s, q2, t, e1, e2⟩ := first_not (d :: r) hd
        have hlt : t.length < (d :: r).length := by rw [e1, List.length_append, List.length_cons]; omega
        obtain ⟨R0, b, h1, h2⟩ := cut_end t q2 e2
        refine ⟨sps s ++ q2 :: R0, b, by rw [e1, h1]; simp, ?_⟩
        rw [List.getLast?_cons]
        rw [List.getLast?_append]
        intro z
        apply h2
        obtain ⟨y, hy⟩ : ∃ y, (q2 :: R0).getLast? = some y := ⟨_, List.getLast?_eq_some_getLast (List.cons_ne_nil _ _)⟩
        rw [hy] at z ⊢
        simpa using z
      · obtain ⟨R0, b, h1, h2⟩ := cut_end r d e
        refine ⟨d :: R0, b, by rw [h1]; rfl, ?_⟩
        rw [List.getLast?_cons_cons]
        exact h2
    · refine ⟨[], (d :: r).length, ?_, by simpa using h⟩
      have : d :: r = sps (d :: r).length := List.eq_replicate_iff.mpr ⟨rfl, fun q hq => by
        by_cases e : q = 32
        · exact e
        · exact absurd ⟨q, hq, e⟩ hd⟩
      rw [List.cons_append, List.nil_append, ← this]
termination_by R => R.length
end My
set_option Elab.async false
set_option linter.all false
set_option maxRecDepth 100000
set_option maxHeartbeats 4000000
namespace My
open PySem PySem.Spec PyProof.Rows L2
def azC (c : Nat) : Prop := 97 ≤ c ∧ c ≤ 122
def noOp (pv : Option Nat) : Prop := ¬ ∃ p, pv = some p ∧ p ∈ opC
theorem ltk_sp {r : List Nat} {pv : Option Nat} {f : List Str} {w : List Nat} : ltk (32 :: r) pv f w = ltk r (some 32) (f ++ cutW w) [] := by
  conv => lhs; unfold ltk
  rw [if_neg (by omega), if_neg (fun z => by cases z.1), if_neg (by decide), if_neg (by simp)]
theorem ltk_az {c : Nat} {r : List Nat} {pv : Option Nat} {f : List Str} {w : List Nat} (h : azC c) : ltk (c :: r) pv f w = ltk r (some c) f (w ++ [c]) := by
  conv => lhs; unfold ltk
  rw [if_pos (show 97 ≤ c ∧ c ≤ 122 from h)]
theorem ltk_eq {r : List Nat} {pv : Option Nat} {f : List Str} {w : List Nat} (h : noOp pv) : ltk (61 :: r) pv f w = ltk r (some 61) (f ++ cutW w ++ [ofL [61]]) [] := by
  conv => lhs; unfold ltk
  rw [if_neg (by omega), if_neg (fun z => h z.2), if_pos (by decide)]
theorem ltk_opeq {o : Nat} {r : List Nat} {f : List Str} {w : List Nat} (h : o ∈ opC) : ltk (61 :: r) (some o) f w = ltk r (some 61) ((f ++ cutW w).set ((f ++ cutW w).length - 1) (ofL [o, 61])) [] := by
  conv => lhs; unfold ltk
  rw [if_neg (by omega), if_pos ⟨rfl, o, rfl, h⟩]
  rfl
theorem ltk_sign {c : Nat} {r : List Nat} {pv : Option Nat} {f : List Str} {w : List Nat} (h : c ∈ [40, 41, 44, 124, 94, 38, 45, 64]) : ltk (c :: r) pv f w = ltk r (some c) (f ++ cutW w ++ [ofL [c]]) [] := by
  have h1 : ¬ (97 ≤ c ∧ c ≤ 122) ∧ c ≠ 61 ∧ c ∈ [40, 41, 61, 44, 124, 94, 38, 45, 64] := by
    have : ∀ c ∈ [40, 41, 44, 124, 94, 38, 45, 64], ¬ (97 ≤ c ∧ c ≤ 122) ∧ c ≠ 61 ∧ c ∈ [40, 41, 61, 44, 124, 94, 38, 45, 64] := by decide
    exact this c h
  conv => lhs; unfold ltk
  rw [if_neg h1.1, if_neg (fun z => h1.2.1 z.1), if_pos h1.2.2]
theorem ltk_bad {c : Nat} {r : List Nat} {pv : Option Nat} {f : List Str} {w : List Nat} (h1 : ¬ azC c) (h2 : c ∉ [40, 41, 61, 44, 124, 94, 38, 45, 64]) (h3 : c ≠ 32) : ltk (c :: r) pv f w = none := by
  have h4 : c ≠ 61 := fun e => h2 (by rw [e]; decide)
  conv => lhs; unfold ltk
  rw [if_neg (show ¬ (97 ≤ c ∧ c ≤ 122) from h1), if_neg (fun z => h4 z.1), if_neg h2, if_pos h3]
theorem cutW_nil : cutW [] = [] := rfl
theorem noOp_az {c : Nat} (h : azC c) : noOp (some c) := fun ⟨p, e, m⟩ => by cases e; exact absurd h (opC_no m)
theorem noOp_sp : noOp (some 32) := fun ⟨p, e, m⟩ => by cases e; exact absurd m (by decide)
theorem noOp_eq : noOp (some 61) := fun ⟨p, e, m⟩ => by cases e; exact absurd m (by decide)
theorem noOp_none : noOp none := fun ⟨p, e, m⟩ => by cases e
theorem ltk_pv : ∀ (L : List Nat) {pv pv' : Option Nat} {f : List Str} {w : List Nat}, noOp pv → noOp pv' → ltk L pv f w = ltk L pv' f w
  | [], pv, pv', f, w, _, _ => by unfold ltk; rfl
  | c :: r, pv, pv', f, w, h, h' => by
    have e : ∀ q, noOp q → ltk (c :: r) q f w = (if 97 ≤ c ∧ c ≤ 122 then ltk r (some c) f (w ++ [c]) else if c ∈ [40, 41, 61, 44, 124, 94, 38, 45, 64] then ltk r (some c) (f ++ cutW w ++ [ofL [c]]) [] else if c ≠ 32 then none else ltk r (some c) (f ++ cutW w) []) := fun q hq => by
      conv => lhs; unfold ltk
      rw [if_neg (c := c = 61 ∧ _) (fun z => hq z.2)]
    rw [e pv h, e pv' h']
theorem ltk_app : ∀ (L : List Nat) {pv : Option Nat} {f g : List Str} {w : List Nat}, ((∃ p, pv = some p ∧ p ∈ opC) → g ≠ [] ∧ w = []) → ltk L pv (f ++ g) w = (ltk L pv g w).map (f ++ ·)
  | [], pv, f, g, w, h => by unfold ltk; simp
  | c :: r, pv, f, g, w, h => by
    unfold ltk
    by_cases h1 : 97 ≤ c ∧ c ≤ 122
    · rw [if_pos h1, if_pos h1]
      exact ltk_app r fun z => absurd z (noOp_az h1)
    · rw [if_neg h1, if_neg h1]
      by_cases h2 : c = 61 ∧ (∃ p, pv = some p ∧ p ∈ opC)
      · rw [if_pos h2, if_pos h2]
        obtain ⟨hg, hw⟩ := h h2.2
        subst hw
        have e0 : ∀ l : List Str, l ++ cutW [] = l := fun l => by rw [cutW_nil, List.append_nil]
        have lg : 0 < g.length := by
          cases g with
          | nil => exact absurd rfl hg
          | cons _ _ => simp
        rw [e0, e0, h2.1, List.length_append, List.set_append_right _ _ (by omega), show f.length + g.length - 1 - f.length = g.length - 1 by omega]
        exact ltk_app r fun z => absurd z noOp_eq
      · rw [if_neg h2, if_neg h2]
        split
        · rw [List.append_assoc, List.append_assoc, ← List.append_assoc g]
          exact ltk_app r fun _ => ⟨by simp, rfl⟩
        · split
          · rfl
          · rename_i h4
            have e32 : c = 32 := by
              by_cases y : c = 32
              · exact y
              · exact absurd y h4
            rw [List.append_assoc, e32]
            exact ltk_app r fun z => absurd z noOp_sp
theorem ltk_sps : ∀ (a : Nat) (L : List Nat) {pv : Option Nat} {f : List Str} {w : List Nat}, noOp pv → ltk (sps a ++ L) pv f w = if a = 0 then ltk L pv f w else ltk L (some 32) (f ++ cutW w) []
  | 0, L, pv, f, w, h => rfl
  | a + 1, L, pv, f, w, h => by
    show ltk (32 :: (sps a ++ L)) pv f w = _
    rw [ltk_sp, ltk_sps a L noOp_sp, if_neg (Nat.succ_ne_zero a)]
    split
    · rfl
    · rw [cutW_nil, List.append_nil]
theorem ltk_azs : ∀ (M L : List Nat) {pv : Option Nat} {f : List Str} {w : List Nat}, (∀ c ∈ M, azC c) → noOp pv → ltk (M ++ L) pv f w = ltk L (some 32) f (w ++ M)
  | [], L, pv, f, w, h, hp => by rw [List.append_nil]; exact ltk_pv L hp noOp_sp
  | c :: r, L, pv, f, w, h, hp => by
    have hc := h c List.mem_cons_self
    show ltk (c :: (r ++ L)) pv f w = _
    rw [ltk_az hc, ltk_azs r L (fun x hx => h x (List.mem_cons_of_mem _ hx)) (noOp_az hc), List.append_assoc]
    rfl
theorem ltk_word : ∀ (L : List Nat) {pv : Option Nat} {f : List Str} {w : List Nat} {ts : List Str}, w ≠ [] → noOp pv → ltk L pv f w = some ts → ∃ (t : Str) (r : List Str), ts = f ++ t :: r ∧ (letters t).head? = w.head?
  | [], pv, f, w, ts, hw, hp, h => by
    unfold ltk at h
    cases h
    refine ⟨ofL w, [], ?_, rfl⟩
    unfold cutW
    rw [if_neg hw]
  | c :: r, pv, f, w, ts, hw, hp, h => by
    have hcw : cutW w = [ofL w] := by unfold cutW; rw [if_neg hw]
    have key : ∀ (g : List Str) (q : Option Nat), ((∃ p, q = some p ∧ p ∈ opC) → g ≠ []) → ltk r q (f ++ [ofL w] ++ g) [] = some ts → ∃ (t : Str) (r : List Str), ts = f ++ t :: r ∧ (letters t).head? = w.head? := fun g q hq e => by
      rw [ltk_app r fun z => ⟨hq z, rfl⟩] at e
      obtain ⟨us, _, rfl⟩ := Option.map_eq_some_iff.mp e
      exact ⟨ofL w, us, by rw [List.append_assoc]; rfl, rfl⟩
    unfold ltk at h
    by_cases h1 : 97 ≤ c ∧ c ≤ 122
    · rw [if_pos h1] at h
      obtain ⟨t, u, e1, e2⟩ := ltk_word r (w := w ++ [c]) (by simp) (noOp_az h1) h
      refine ⟨t, u, e1, e2.trans ?_⟩
      cases w with
      | nil => exact absurd rfl hw
      | cons _ _ => rfl
    · rw [if_neg h1, if_neg (fun z => hp z.2), hcw] at h
      split at h
      · exact key [ofL [c]] _ (fun _ => by simp) h
      · split at h
        · cases h
        · rename_i h4
          have e32 : c = 32 := by
            by_cases y : c = 32
            · exact y
            · exact absurd y h4
          rw [e32] at h
          exact key [] _ (fun z => absurd z noOp_sp) (by rw [List.append_nil]; exact h)
end My
set_option Elab.async false
set_option linter.all false
set_option maxRecDepth 100000
set_option maxHeartbeats 4000000
namespace My
open PySem PySem.Spec PyProof.Rows L2
def six : List Str := ["=", "|=", "^=", "&=", "-=", "@="]
def rowD (nm sg : Str) (d : PyData) : PyData := if sg = "=" then .tuple [.str nm, d] else .tuple [.str nm, .tuple [.str (ofL ((letters sg).take 1)), .str nm, d]]
def rowT (n : Nat) (ts : List Str) : Option PyData :=
  if ts.length < 3 ∨ nameL (ts.getD 0 "") = false then none else if ts.getD 1 "" ∉ six then none else (parM n (ts.drop 2)).map fun e => rowD (ts.getD 0 "") (ts.getD 1 "") e.d
def rowL (n : Nat) (x : Str) : Option PyData := (ltk (letters x) none [] []).bind (rowT n)
def rowIn (x : Str) : Option PyData := if nameOk (rowName x) then (pE (tokensOf (rowTail x))).map (rowOf x) else none
theorem readR_in (x : Str) : readR x = if (noSpace x).length ≤ 200 then rowIn x else none := rfl
theorem rowT_no0 {n : Nat} {t : Str} {us : List Str} (h : nameL t = false) : rowT n (t :: us) = none := by
  unfold rowT
  exact if_pos (.inr h)
theorem rowT_no1 {n : Nat} {t t1 : Str} {us : List Str} (h : t1 ∉ six) : rowT n (t :: t1 :: us) = none := by
  unfold rowT
  split
  · rfl
  · exact if_pos h
theorem parM_nil (n : Nat) : parM n [] = none := by
  cases n with
  | zero => rfl
  | succ n => rfl
theorem rowT_ok {n : Nat} {t t1 : Str} {us : List Str} (h : t1 ∈ six) : rowT n (t :: t1 :: us) = if nameL t = true then (parM n us).map fun e => rowD t t1 e.d else none := by
  unfold rowT
  show (if (t :: t1 :: us).length < 3 ∨ nameL t = false then none else if t1 ∉ six then none else (parM n us).map fun e => rowD t t1 e.d) = _
  rw [if_neg (c := t1 ∉ six) (fun z => z h)]
  cases hn : nameL t with
  | false => rw [if_pos (.inr rfl)]; rfl
  | true =>
    rw [if_pos rfl]
    cases us with
    | nil => rw [if_pos (.inl (by simp)), parM_nil]; rfl
    | cons u us => rw [if_neg (by simp)]
theorem six_no61 {t : Str} (h : t ∈ six) : 61 ∈ letters t := by
  have : ∀ t ∈ six, 61 ∈ letters t := by decide +kernel
  exact this t h
theorem six_head {t : Str} {c : Nat} (h : t ∈ six) (e : (letters t).head? = some c) : ¬ azC c := by
  have : ∀ t ∈ six, ∀ c, (letters t).head? = some c → c ∈ [61, 124, 94, 38, 45, 64] := by
    intro t ht
    have hh : ∀ t ∈ six, (letters t).head?.all (fun c => decide (c ∈ [61, 124, 94, 38, 45, 64])) = true := by decide +kernel
    intro c hc
    have := hh t ht
    rw [hc] at this
    exact of_decide_eq_true this
  have hm := this t h c e
  have : ∀ c ∈ [61, 124, 94, 38, 45, 64], ¬ (97 ≤ c ∧ c ≤ 122) := by decide
  exact this c hm
theorem nameL_head {t : Str} {c : Nat} (e : (letters t).head? = some c) (h : ¬ azC c) : nameL t = false := by
  obtain ⟨r, er⟩ : ∃ r, letters t = c :: r := by
    cases q : letters t with
    | nil => rw [q] at e; cases e
    | cons y r => rw [q] at e; cases e; exact ⟨r, rfl⟩
  unfold nameL
  have : azFirst (letters t) = false := by
    rw [er]
    exact decide_eq_false h
  rw [this, Bool.and_false]
theorem ltk_no61 : ∀ (L : List Nat) {pv : Option Nat} {f : List Str} {w : List Nat} {ts : List Str}, 61 ∉ L → (∀ t ∈ f, 61 ∉ letters t) → 61 ∉ w → ltk L pv f w = some ts → ∀ t ∈ ts, 61 ∉ letters t
  | [], pv, f, w, ts, hL, hf, hw, h => by
    unfold ltk at h
    cases h
    intro t ht
    rcases List.mem_append.mp ht with z | z
    · exact hf t z
    · unfold cutW at z
      split at z
      · cases z
      · rw [List.mem_singleton.mp z]; exact hw
  | c :: r, pv, f, w, ts, hL, hf, hw, h => by
    have hc : c ≠ 61 := fun e => hL (by rw [e]; exact List.mem_cons_self)
    have hr : 61 ∉ r := fun m => hL (List.mem_cons_of_mem _ m)
    have hfw : ∀ t ∈ f ++ cutW w, 61 ∉ letters t := by
      intro t ht
      rcases List.mem_append.mp ht with z | z
      · exact hf t z
      · unfold cutW at z
        split at z
        · cases z
        · rw [List.mem_singleton.mp z]; exact hw
    unfold ltk at h
    split at h
    · exact ltk_no61 r hr hf (by simp [hw]; exact fun e => hc e.symm) h
    · rw [if_neg (fun z => hc z.1)] at h
      split at h
      · refine ltk_no61 r hr (fun t ht => ?_) (by simp) h
        rcases List.mem_append.mp ht with z | z
        · exact hfw t z
        · rw [List.mem_singleton.mp z]
          show 61 ∉ [c]
          simp
          exact fun e => hc e.symm
      · split at h
        · cases h
        · exact ltk_no61 r hr hfw (by simp) h
theorem ltk_ne {L : List Nat} {pv : Option Nat} {f : List Str} {w : List Nat} (h : L.head? ≠ some 61) : ltk L pv f w = ltk L none f w := by
  cases L with
  | nil => unfold ltk; rfl
  | cons c r =>
    have hc : c ≠ 61 := fun e => h (by rw [e]; rfl)
    unfold ltk
    rw [if_neg (c := c = 61 ∧ (∃ p, pv = some p ∧ p ∈ opC)) (fun z => hc z.1), if_neg (c := c = 61 ∧ (∃ p, none = some p ∧ p ∈ opC)) (fun z => hc z.1)]
theorem ltk_stays {L : List Nat} {o : Nat} {f : List Str} (h : ¬ (L.head? = some 61 ∧ o ∈ opC)) : ltk L (some o) f [] = (ltk L none [] []).map (f ++ ·) := by
  have e : ltk L (some o) f [] = ltk L none f [] := by
    by_cases h1 : L.head? = some 61
    · exact ltk_pv L (fun ⟨p, e, m⟩ => by cases e; exact h ⟨h1, m⟩) noOp_none
    · exact ltk_ne h1
  rw [e]
  have := ltk_app L (pv := none) (f := f) (g := []) (w := []) fun z => absurd z noOp_none
  rwa [List.append_nil] at this
theorem ltk_stays_some {L : List Nat} {o : Nat} {f ts : List Str} (h : ¬ (L.head? = some 61 ∧ o ∈ opC)) (e : ltk L (some o) f [] = some ts) : ∃ us, ts = f ++ us := by
  rw [ltk_stays h] at e
  obtain ⟨us, _, rfl⟩ := Option.map_eq_some_iff.mp e
  exact ⟨us, rfl⟩
theorem ltk_first {L : List Nat} {o : Nat} {g ts : List Str} (h : ltk L (some o) (g ++ [ofL [o]]) [] = some ts) : ∃ (t : Str) (r : List Str), ts = g ++ t :: r ∧ (letters t).head? = some o := by
  by_cases q : L.head? = some 61 ∧ o ∈ opC
  · obtain ⟨hq, ho⟩ := q
    obtain ⟨r, rfl⟩ : ∃ r, L = 61 :: r := by
      cases L with
      | nil => cases hq
      | cons c r => cases hq; exact ⟨r, rfl⟩
    rw [ltk_opeq ho, cutW_nil, List.append_nil, List.length_append, List.set_append_right _ _ (by simp)] at h
    have e : ([ofL [o]] : List Str).set (g.length + ([ofL [o]] : List Str).length - 1 - g.length) (ofL [o, 61]) = [ofL [o, 61]] := by simp
    rw [e, ← List.append_nil (g ++ [ofL [o, 61]]), ltk_app r fun z => absurd z noOp_eq] at h
    obtain ⟨us, _, rfl⟩ := Option.map_eq_some_iff.mp h
    exact ⟨ofL [o, 61], us, by rw [List.append_assoc]; rfl, rfl⟩
  · obtain ⟨us, rfl⟩ := ltk_stays_some q h
    exact ⟨ofL [o], us, by rw [List.append_assoc]; rfl, rfl⟩
theorem cut_sps : ∀ H : List Nat, ∃ a H1, H = sps a ++ H1 ∧ H1.head? ≠ some 32
  | [] => ⟨0, [], rfl, by simp⟩
  | c :: r => by
    by_cases e : c = 32
    · obtain ⟨a, H1, h1, h2⟩ := cut_sps r
      exact ⟨a + 1, H1, by rw [e, h1]; rfl, h2⟩
    · exact ⟨0, c :: r, rfl, fun z => e (by cases z; rfl)⟩
theorem cut_azs : ∀ H : List Nat, ∃ nm H2, H = nm ++ H2 ∧ (∀ c ∈ nm, azC c) ∧ ∀ c, H2.head? = some c → ¬ azC c
  | [] => ⟨[], [], rfl, by simp, by simp⟩
  | c :: r => by
    by_cases e : azC c
    · obtain ⟨nm, H2, h1, h2, h3⟩ := cut_azs r
      exact ⟨c :: nm, H2, by rw [h1]; rfl, fun x hx => by rcases List.mem_cons.mp hx with rfl | z; exact e; exact h2 x z, h3⟩
    · exact ⟨[], c :: r, rfl, by simp, fun x hx => by cases hx; exact e⟩
theorem head_cut (H : List Nat) : ∃ a nm b R, H = sps a ++ (nm ++ (sps b ++ R)) ∧ (∀ c ∈ nm, azC c) ∧ R.head? ≠ some 32 ∧ (b = 0 → ∀ c, R.head? = some c → ¬ azC c) ∧ (nm = [] → b = 0) := by
  obtain ⟨a, H1, rfl, h1⟩ := cut_sps H
  obtain ⟨nm, H2, rfl, h2, h3⟩ := cut_azs H1
  obtain ⟨b, R, rfl, h4⟩ := cut_sps H2
  refine ⟨a, nm, b, R, rfl, h2, h4, fun hb c hc => h3 c (by subst hb; exact hc), fun hn => ?_⟩
  subst hn
  cases b with
  | zero => rfl
  | succ b => exact absurd rfl h1
theorem rowOp_last {H T : List Nat} (h : (61 : Nat) ∉ H) : rowOp (ofL (H ++ 61 :: T)) = befS H.getLast? := by
  unfold rowOp
  rw [(row_parts (T := T) h).1]
  refine TL.ext_tl ?_
  show (H.drop (HT.sIx (ofL H).length 0 (some (-1)))).take ((ofL H).length - HT.sIx (ofL H).length 0 (some (-1))) = _
  have e : HT.sIx (ofL H).length 0 (some (-1)) = (ofL H).length - 1 := by
    show ((-1 : Int) + ((ofL H).length : Int)).toNat = _
    omega
  have hl : (ofL H).length = H.length := by show H.toArray.size = _; simp
  rw [e, hl]
  cases q : H.getLast? with
  | none =>
    rw [List.getLast?_eq_none_iff] at q
    subst q
    rfl
  | some o =>
    obtain ⟨H0, rfl⟩ := List.getLast?_eq_some_iff.mp q
    rw [List.length_append, show H0.length + [o].length - 1 = H0.length from rfl, List.drop_left]
    show [o].take (H0.length + 1 - H0.length) = [o]
    rw [show H0.length + 1 - H0.length = 1 by omega]
    rfl
theorem rowAnew_no {H T : List Nat} (h : (61 : Nat) ∉ H) (hp : noOp H.getLast?) : rowAnew (ofL (H ++ 61 :: T)) = true := by
  unfold rowAnew
  rw [rowOp_last h]
  cases z : inV (V.str (befS H.getLast?)) (opsL.map V.str) with
  | false => rfl
  | true => exact absurd ((bef_in _).mp z) hp
theorem rowAnew_op {H T : List Nat} {o : Nat} (h : (61 : Nat) ∉ H) (e : H.getLast? = some o) (ho : o ∈ opC) : rowAnew (ofL (H ++ 61 :: T)) = false := by
  unfold rowAnew
  rw [rowOp_last h]
  have := (bef_in H.getLast?).mpr ⟨o, e, ho⟩
  show (!inV (V.str (befS H.getLast?)) _) = false
  rw [show inV (V.str (befS H.getLast?)) (opsL.map V.str) = true from this]
  rfl
theorem rowName_no {H T : List Nat} (h : (61 : Nat) ∉ H) (hp : noOp H.getLast?) : rowName (ofL (H ++ 61 :: T)) = Txt.stripChars (ofL H) " " := by
  unfold rowName
  rw [rowAnew_no h hp, if_pos rfl, (row_parts (T := T) h).1]
theorem rowName_op {H0 T : List Nat} {o : Nat} (h : (61 : Nat) ∉ H0 ++ [o]) (ho : o ∈ opC) : rowName (ofL ((H0 ++ [o]) ++ 61 :: T)) = Txt.stripChars (ofL H0) " " := by
  unfold rowName
  rw [rowAnew_op h (by simp) ho, if_neg (by simp), (row_parts (T := T) h).1]
  have : cutS (ofL (H0 ++ [o])) none (some (-1)) = ofL H0 := by
    refine TL.ext_tl ?_
    show ((H0 ++ [o]).drop 0).take (HT.sIx (ofL (H0 ++ [o])).length (ofL (H0 ++ [o])).length (some (-1)) - 0) = H0
    have hl : (ofL (H0 ++ [o])).length = H0.length + 1 := by show (H0 ++ [o]).toArray.size = _; simp
    have e : HT.sIx (ofL (H0 ++ [o])).length (ofL (H0 ++ [o])).length (some (-1)) = H0.length := by
      show ((-1 : Int) + ((ofL (H0 ++ [o])).length : Int)).toNat = _
      omega
    rw [e, List.drop_zero, Nat.sub_zero]
    exact List.take_left
  rw [this]
theorem name_bad {a b c : Nat} {nm R : List Nat} (hn : ∀ x ∈ nm, azC x) (hc : c ≠ 32) (hb : b = 0 → ¬ azC c) (h0 : nm = [] → b = 0) : nameOk (Txt.stripChars (ofL (sps a ++ (nm ++ (sps b ++ c :: R)))) " ") = false := by
  obtain ⟨R0, e, h1, h2⟩ := cut_end R c hc
  have h2' : (nm ++ (sps b ++ c :: R0)).getLast? ≠ some 32 := by
    rw [List.getLast?_append, List.getLast?_append]
    obtain ⟨y, hy⟩ : ∃ y, (c :: R0).getLast? = some y := ⟨_, List.getLast?_eq_some_getLast (List.cons_ne_nil _ _)⟩
    rw [hy] at h2 ⊢
    simpa using h2
  have h1' : (nm ++ (sps b ++ c :: R0)).head? ≠ some 32 := by
    cases nm with
    | nil =>
      rw [h0 rfl]
      exact fun z => hc (by cases z; rfl)
    | cons y ys =>
      intro z
      have : azC y := hn y List.mem_cons_self
      cases z
      exact absurd this (by unfold azC; omega)
  have e2 : sps a ++ (nm ++ (sps b ++ c :: R)) = sps a ++ ((nm ++ (sps b ++ c :: R0)) ++ sps e) := by rw [h1]; simp
  have st := strip_mid (a := a) (b := e) (M := nm ++ (sps b ++ c :: R0)) (by simp) h1' h2'
  rw [← e2] at st
  cases q : nameOk (Txt.stripChars (ofL (sps a ++ (nm ++ (sps b ++ c :: R)))) " ") with
  | false => rfl
  | true =>
    exfalso
    unfold nameOk at q
    rw [Bool.and_eq_true] at q
    have all : ∀ x ∈ nm ++ (sps b ++ c :: R0), azC x := fun x hx => abc_az x (of_decide_eq_true (List.all_eq_true.mp q.2 x (show x ∈ letters _ by rw [st]; exact hx)))
    by_cases hb0 : b = 0
    · exact hb hb0 (all c (by simp))
    · have : azC 32 := all 32 (by
        cases b with
        | zero => exact absurd rfl hb0
        | succ b => exact List.mem_append_right _ (List.mem_append_left _ List.mem_cons_self))
      exact absurd this (by unfold azC; omega)
theorem name_none {a : Nat} : nameOk (Txt.stripChars (ofL (sps a)) " ") = false := by
  have e : Txt.stripChars (ofL (sps a)) " " = "" := TL.ext_tl (strip_none a)
  rw [e]
  decide +kernel
theorem name_is {a b : Nat} {nm : List Nat} (hn : ∀ x ∈ nm, azC x) (hne : nm ≠ []) : Txt.stripChars (ofL (sps a ++ (nm ++ sps b))) " " = ofL nm := by
  refine TL.ext_tl (strip_mid hne (fun z => ?_) fun z => ?_)
  · have := hn 32 (List.mem_of_head? z)
    exact absurd this (by unfold azC; omega)
  · have := hn 32 (List.mem_of_getLast? z)
    exact absurd this (by unfold azC; omega)
end My
set_option Elab.async false
set_option linter.all false
set_option maxRecDepth 100000
set_option maxHeartbeats 4000000
namespace My
open PySem PySem.Spec PyProof.Rows L2
theorem at_eq : ∀ L : List Nat, 61 ∈ L → ∃ H T, L = H ++ 61 :: T ∧ 61 ∉ H
  | c :: r, h => by
    by_cases e : c = 61
    · exact ⟨[], r, by rw [e]; rfl, by simp⟩
    · rcases List.mem_cons.mp h with z | z
      · exact absurd z.symm e
      · obtain ⟨H, T, rfl, h2⟩ := at_eq r z
        exact ⟨c :: H, T, rfl, by simp [h2]; exact fun q => e q.symm⟩
theorem tail_says {n : Nat} {T : List Nat} (hn : (ofL T).length ≤ n) : ((ltk T (some 61) [] []).bind fun us => parM n us).map Ex.d = pE (tokensOf (ofL T)) := by
  rw [← ownE_says hn, ltk_pv T noOp_eq noOp_none]
  unfold ownE
  show _ = (match ltk T none [] [] with | none => none | some ts => parM n ts).map Ex.d
  cases ltk T none [] [] with
  | none => rfl
  | some us => rfl
theorem rowT_two {n : Nat} {t t1 : Str} {T : List Nat} (hs : t1 ∈ six) (hT : (ofL T).length ≤ n) : (ltk T (some 61) [t, t1] []).bind (rowT n) = if nameL t = true then (pE (tokensOf (ofL T))).map (rowD t t1) else none := by
  have e := ltk_app T (pv := some 61) (f := [t, t1]) (g := []) (w := []) fun z => absurd z noOp_eq
  rw [List.append_nil] at e
  rw [e, ← tail_says hT]
  cases q : ltk T (some 61) [] [] with
  | none => simp
  | some us =>
    show rowT n (t :: t1 :: us) = _
    rw [rowT_ok hs]
    split
    · show _ = ((parM n us).map Ex.d).map (rowD t t1)
      rw [Option.map_map]
      rfl
    · rfl
theorem bind_none {n : Nat} {o : Option (List Str)} (h : ∀ ts, o = some ts → rowT n ts = none) : o.bind (rowT n) = none := by
  cases o with
  | none => rfl
  | some ts => exact h ts rfl
theorem rowOf_new {H T : List Nat} {nm : Str} (h : (61 : Nat) ∉ H) (hp : noOp H.getLast?) (e : Txt.stripChars (ofL H) " " = nm) : rowOf (ofL (H ++ 61 :: T)) = rowD nm "=" := by
  funext d
  unfold rowOf rowD
  rw [rowAnew_no h hp, if_pos rfl, if_pos rfl, rowName_no h hp, e]
theorem rowOf_op {H0 T : List Nat} {o : Nat} {nm : Str} (h : (61 : Nat) ∉ H0 ++ [o]) (ho : o ∈ opC) (e : Txt.stripChars (ofL H0) " " = nm) : rowOf (ofL ((H0 ++ [o]) ++ 61 :: T)) = rowD nm (ofL [o, 61]) := by
  funext d
  have ne : ofL [o, 61] ≠ ("=" : Str) := fun z => by
    have := congrArg letters z
    have e2 : letters ("=" : Str) = [61] := by decide +kernel
    rw [e2] at this
    cases this
  unfold rowOf rowD
  rw [rowAnew_op h (by simp) ho, if_neg (by simp), if_neg ne, rowName_op h ho, e, rowOp_last h]
  have : befS (H0 ++ [o]).getLast? = ofL ((letters (ofL [o, 61])).take 1) := by
    rw [List.getLast?_concat]
    rfl
  rw [this]
theorem row_own {n : Nat} {x : Str} (hn : x.length ≤ n) : rowIn x = rowL n x := by
  have hl : (letters x).length = x.length := Array.length_toList
  by_cases h61 : 61 ∈ letters x
  rotate_left
  · -- no "=" at all
    have hp : Txt.partition x "=" = (x, Str.empty, Str.empty) := TL.partition_none (y := "=") (s := 61) (S := []) rfl h61
    have e1 : rowIn x = none := by
      have : pE (tokensOf (rowTail x)) = none := by
        unfold rowTail
        rw [hp]
        kernel_rfl
      unfold rowIn
      rw [this]
      split <;> rfl
    rw [e1]
    refine (bind_none fun ts hts => ?_).symm
    have no := ltk_no61 _ h61 (by simp) (by simp) hts
    match ts, no with
    | [], _ => unfold rowT; exact if_pos (.inl (by simp))
    | [t], _ => unfold rowT; exact if_pos (.inl (by simp))
    | t :: t1 :: us, no => exact rowT_no1 fun z => no t1 (by simp) (six_no61 z)
  obtain ⟨H, T, eL, hH⟩ := at_eq _ h61
  have ex : x = ofL (H ++ 61 :: T) := str_of_letters eL
  subst ex
  have hT : (ofL T).length ≤ n := by
    have h1 : (ofL T).length = T.length := by show T.toArray.size = _; simp
    have h2 : (ofL (H ++ 61 :: T)).length = H.length + (T.length + 1) := by show (H ++ 61 :: T).toArray.size = _; simp
    omega
  obtain ⟨a, nm, b, R, eH, hnm, hR, hb, h0⟩ := head_cut H
  have tl := (row_parts (T := T) hH).2
  show rowIn (ofL (H ++ 61 :: T)) = (ltk (H ++ 61 :: T) none [] []).bind (rowT n)
  have lhs : rowIn (ofL (H ++ 61 :: T)) = if nameOk (rowName (ofL (H ++ 61 :: T))) then (pE (tokensOf (ofL T))).map (rowOf (ofL (H ++ 61 :: T))) else none := by
    unfold rowIn
    rw [tl]
  rw [lhs]
  have nmOk : nm ≠ [] → nameL (ofL nm) = nameOk (ofL nm) := fun hne => tokL_name (.inl ⟨hne, hnm⟩)
  have cw : nm ≠ [] → cutW nm = [ofL nm] := fun hne => by unfold cutW; rw [if_neg hne]
  have run : ∀ L : List Nat, ltk (H ++ L) none [] [] = ltk (sps b ++ (R ++ L)) (some 32) [] nm := fun L => by
    rw [eH, List.append_assoc, List.append_assoc, List.append_assoc, ltk_sps a _ noOp_none]
    have : (if a = 0 then ltk (nm ++ (sps b ++ (R ++ L))) none [] [] else ltk (nm ++ (sps b ++ (R ++ L))) (some 32) ([] ++ cutW []) []) = ltk (nm ++ (sps b ++ (R ++ L))) (some 32) [] [] := by
      split
      · exact ltk_pv _ noOp_none noOp_sp
      · rfl
    rw [this, ltk_azs nm _ hnm noOp_sp]
    rfl
  rw [run]
  cases R with
  | nil =>
    rw [List.append_nil] at eH
    rw [List.nil_append, ltk_sps b _ noOp_sp]
    have e1 : (if b = 0 then ltk (61 :: T) (some 32) [] nm else ltk (61 :: T) (some 32) ([] ++ cutW nm) []) = ltk T (some 61) (cutW nm ++ [("=" : Str)]) [] := by
      split
      · rw [ltk_eq noOp_sp]; rfl
      · rw [ltk_eq noOp_sp, cutW_nil, List.append_nil]; rfl
    rw [e1]
    have np : noOp H.getLast? := by
      rintro ⟨p, e, m⟩
      have hm := List.mem_of_getLast? e
      rw [eH] at hm
      rcases List.mem_append.mp hm with z | z
      · have := List.eq_of_mem_replicate z
        rw [this] at m
        exact absurd m (by decide)
      · rcases List.mem_append.mp z with z | z
        · exact opC_no m (hnm p z)
        · have := List.eq_of_mem_replicate z
          rw [this] at m
          exact absurd m (by decide)
    by_cases hne : nm = []
    · subst hne
      obtain rfl := h0 rfl
      have eN : rowName (ofL (H ++ 61 :: T)) = Txt.stripChars (ofL (sps a)) " " := by
        rw [rowName_no hH np, eH]
        show Txt.stripChars (ofL (sps a ++ ([] ++ []))) " " = _
        rw [List.append_nil, List.append_nil]
      rw [eN, name_none, if_neg (by simp)]
      refine (bind_none fun ts hts => ?_).symm
      have e2 := ltk_app T (pv := some 61) (f := ["="]) (g := []) (w := []) fun z => absurd z noOp_eq
      rw [List.append_nil] at e2
      rw [cutW_nil, List.nil_append, e2] at hts
      obtain ⟨us, _, rfl⟩ := Option.map_eq_some_iff.mp hts
      exact rowT_no0 (by decide +kernel)
    · have st : Txt.stripChars (ofL H) " " = ofL nm := by rw [eH]; exact name_is hnm hne
      rw [cw hne, rowOf_new hH np st, rowName_no hH np, st]
      show _ = (ltk T (some 61) [ofL nm, "="] []).bind (rowT n)
      rw [rowT_two (by decide) hT, nmOk hne]
  | cons c R =>
    have hc : c ≠ 32 := fun e => hR (by rw [e]; rfl)
    have hc61 : c ≠ 61 := fun e => hH (by rw [eH, e]; simp)
    have haz : b = 0 → ¬ azC c := fun e => hb e c rfl
    by_cases hop : R = [] ∧ c ∈ opC
    · obtain ⟨rfl, ho⟩ := hop
      have c8 : c ∈ [40, 41, 44, 124, 94, 38, 45, 64] := by
        have : ∀ c ∈ opC, c ∈ [40, 41, 44, 124, 94, 38, 45, 64] := by decide
        exact this c ho
      have eH2 : H = (sps a ++ (nm ++ sps b)) ++ [c] := by rw [eH]; simp
      subst eH2
      have hs2 : (ofL [c, 61]) ∈ six := by
        have : ∀ c ∈ opC, ofL [c, 61] ∈ six := by decide +kernel
        exact this c ho
      have e1 : ltk (sps b ++ ([c] ++ 61 :: T)) (some 32) [] nm = ltk T (some 61) (cutW nm ++ [ofL [c, 61]]) [] := by
        rw [ltk_sps b _ noOp_sp]
        have e2 : ∀ pv f w, f ++ cutW w = cutW nm → ltk ([c] ++ 61 :: T) pv f w = ltk T (some 61) (cutW nm ++ [ofL [c, 61]]) [] := fun pv f w e => by
          show ltk (c :: 61 :: T) pv f w = _
          rw [ltk_sign c8, e, ltk_opeq ho, cutW_nil, List.append_nil, List.length_append, List.set_append_right _ _ (by simp)]
          have e3 : ([ofL [c]] : List Str).set ((cutW nm).length + ([ofL [c]] : List Str).length - 1 - (cutW nm).length) (ofL [c, 61]) = [ofL [c, 61]] := by simp
          rw [e3]
        split
        · exact e2 _ _ _ rfl
        · exact e2 _ _ _ (by rw [cutW_nil, List.append_nil]; rfl)
      rw [e1]
      by_cases hne : nm = []
      · subst hne
        obtain rfl := h0 rfl
        have eN : rowName (ofL ((sps a ++ ([] ++ sps 0)) ++ [c] ++ 61 :: T)) = Txt.stripChars (ofL (sps a)) " " := by
          rw [rowName_op hH ho]
          show Txt.stripChars (ofL (sps a ++ ([] ++ []))) " " = _
          rw [List.append_nil, List.append_nil]
        rw [eN, name_none, if_neg (by simp)]
        refine (bind_none fun ts hts => ?_).symm
        have e2 := ltk_app T (pv := some 61) (f := [ofL [c, 61]]) (g := []) (w := []) fun z => absurd z noOp_eq
        rw [List.append_nil] at e2
        rw [cutW_nil, List.nil_append, e2] at hts
        obtain ⟨us, _, rfl⟩ := Option.map_eq_some_iff.mp hts
        exact rowT_no0 (nameL_head (c := c) rfl fun z => opC_no ho z)
      · have st := name_is (a := a) (b := b) hnm hne
        rw [cw hne, rowOf_op hH ho st, rowName_op hH ho, st]
        show _ = (ltk T (some 61) [ofL nm, ofL [c, 61]] []).bind (rowT n)
        rw [rowT_two hs2 hT, nmOk hne]
    · -- the head is none
      have bad : nameOk (rowName (ofL (H ++ 61 :: T))) = false := by
        by_cases hp : noOp H.getLast?
        · rw [rowName_no hH hp, eH]
          exact name_bad hnm hc haz h0
        · obtain ⟨p, ep, mp⟩ : ∃ p, H.getLast? = some p ∧ p ∈ opC := Classical.not_not.mp hp
          have hR2 : R ≠ [] := fun e => by
            subst e
            have : H.getLast? = some c := by rw [eH, ← List.append_assoc, ← List.append_assoc, List.getLast?_concat]
            rw [this] at ep
            cases ep
            exact hop ⟨rfl, mp⟩
          obtain ⟨R1, q, rfl⟩ : ∃ R1 q, R = R1 ++ [q] := ⟨_, _, (List.dropLast_concat_getLast hR2).symm⟩
          have eH2 : H = (sps a ++ (nm ++ (sps b ++ c :: R1))) ++ [q] := by rw [eH]; simp
          have : q = p := by
            rw [eH2, List.getLast?_concat] at ep
            cases ep; rfl
          subst this
          subst eH2
          rw [rowName_op hH mp]
          exact name_bad hnm hc haz h0
      rw [bad, if_neg (by simp)]
      refine (bind_none fun ts hts => ?_).symm
      have eS : ∃ f w, f ++ cutW w = cutW nm ∧ (w ≠ [] → b = 0) ∧ (b ≠ 0 → f = cutW nm) ∧ ltk ((c :: R) ++ 61 :: T) (some 32) f w = some ts := by
        rw [ltk_sps b _ noOp_sp] at hts
        split at hts
        · rename_i hb0
          exact ⟨[], nm, rfl, fun _ => hb0, fun z => absurd hb0 z, hts⟩
        · exact ⟨[] ++ cutW nm, [], by rw [cutW_nil, List.append_nil]; rfl, fun z => absurd rfl z, fun _ => rfl, hts⟩
      obtain ⟨f, w, e1, hw0, hfb, hts⟩ := eS
      have hts : ltk (c :: (R ++ 61 :: T)) (some 32) f w = some ts := hts
      by_cases caz : azC c
      · -- a second word
        have hb1 : b ≠ 0 := fun e => haz e caz
        have hne : nm ≠ [] := fun e => hb1 (h0 e)
        have hw1 : w = [] := by
          by_cases z : w = []
          · exact z
          · exact absurd (hw0 z) hb1
        subst hw1
        rw [ltk_az caz, List.nil_append, hfb hb1, cw hne] at hts
        obtain ⟨t, r, rfl, et⟩ := ltk_word _ (by simp) (noOp_az caz) hts
        exact rowT_no1 fun z => six_head z et caz
      · by_cases c9 : c ∈ [40, 41, 61, 44, 124, 94, 38, 45, 64]
        rotate_left
        · rw [ltk_bad caz c9 hc] at hts
          cases hts
        · have c8 : c ∈ [40, 41, 44, 124, 94, 38, 45, 64] := by
            have : ∀ c ∈ [40, 41, 61, 44, 124, 94, 38, 45, 64], c = 61 ∨ c ∈ [40, 41, 44, 124, 94, 38, 45, 64] := by decide
            exact (this c c9).resolve_left hc61
          rw [ltk_sign c8, e1] at hts
          by_cases hne : nm = []
          · subst hne
            rw [cutW_nil] at hts
            obtain ⟨t, r, rfl, et⟩ := ltk_first hts
            exact rowT_no0 (nameL_head et caz)
          · rw [cw hne] at hts
            have st : ¬ ((R ++ 61 :: T).head? = some 61 ∧ c ∈ opC) := by
              rintro ⟨z, m⟩
              cases R with
              | nil => exact hop ⟨rfl, m⟩
              | cons d R =>
                have : d = 61 := by cases z; rfl
                exact hH (by rw [eH, this]; simp)
            obtain ⟨us, rfl⟩ := ltk_stays_some st hts
            refine rowT_no1 fun z => ?_
            have := six_no61 z
            have : (61 : Nat) ∈ [c] := this
            exact hc61 (List.mem_singleton.mp this).symm
end My
set_option Elab.async false
set_option linter.all false
set_option maxRecDepth 100000
set_option maxHeartbeats 4000000
namespace My
open PySem PySem.Spec PyProof.Rows L2
def saidR (x : Str) : PyData := (readR x).getD .none
def spRowL (K : PySem.W.Frag) : Sp := fun vs H Q _ => ∃ x : Str, vs = [.str x] ∧ x.length ≤ 150 ∧ legal x ∧ ∀ v H', Same H H' → Dp K H' v (saidR x) → Q v H'
theorem saidR_big {x : Str} (h : 200 < (noSpace x).length) : saidR x = .none := by
  unfold saidR
  rw [readR_in, if_neg (by omega)]
  rfl
theorem saidR_own {x : Str} (h : (noSpace x).length ≤ 200) (hl : x.length ≤ 152) : saidR x = (rowL 152 x).getD .none := by
  unfold saidR
  rw [readR_in, if_pos h, row_own hl]
def spRowA (K : PySem.W.Frag) (CB : Addr) : Sp := fun vs H Q E => spReadR K CB vs H Q E ∨ spOddT K CB vs H Q E
def toldR : PyData → PyData
  | .str x => saidR x
  | _ => .none
def spToldR (K : PySem.W.Frag) : Sp := fun vs H Q _ => ∃ (v : V) (d : PyData), vs = [v] ∧ Dx K H v d ∧ (∀ x, d = .str x → x.length ≤ 1900 ∧ legal x) ∧ ∀ v' H', Same H H' → Dp K H' v' (toldR d) → Q v' H'
theorem toldR_odd {d : PyData} (h : isD "str" d = false) : toldR d = .none := by
  rw [isD_str] at h
  cases d <;> first | rfl | exact absurd h (by simp)
def noToldR : PyData → Bool
  | .str x => (readR x).isNone && decide (x.length ≤ 1900) && x.cps.all (· < 128)
  | _ => true
theorem noToldR_str {x : Str} (h : noToldR (.str x) = true) : saidR x = .none ∧ x.length ≤ 1900 ∧ legal x := by
  unfold noToldR at h
  simp only [Bool.and_eq_true, decide_eq_true_eq] at h
  obtain ⟨⟨h1, h2⟩, h3⟩ := h
  refine ⟨?_, h2, fun c hc => ?_⟩
  · unfold saidR
    cases e : readR x with
    | none => rfl
    | some d => rw [e] at h1; cases h1
  · have h3 := Array.all_eq_true_iff_forall_mem.mp h3 c (by simpa using hc)
    have : c < 128 := by simpa using h3
    omega
theorem noToldR_none {d : PyData} (h : noToldR d = true) : toldR d = .none ∧ ∀ x, d = .str x → x.length ≤ 1900 ∧ legal x := by
  cases d with
  | str x => exact ⟨(noToldR_str h).1, fun y e => by cases e; exact (noToldR_str h).2⟩
  | _ => exact ⟨rfl, fun y e => nomatch e⟩
def oddR1 : List PyData := [.none, .int 7, .bool true, .tuple [.str "a", .str "b"], .list [], .str "", .str "a", .str "a =", .str "= a", .str "a | = b", .str "a == b"]
def oddR2 : List PyData := [.str "a = b = c", .str "a =| b", .str "a b = c"]
def oddR3 : List PyData := [.str "keys = a", .str "look |= a", .str "self = a", .str "a() = b", .str "a = b |= c", .str "a, b = c", .str "a +=b", .str "a = b\n"]
theorem oddR_all : (oddR1 ++ oddR2 ++ oddR3).all noToldR = true := by decide +kernel
def due12D : PyData := .tuple [.str "c", .tuple [.str "-", .str "c", .tuple [.str "|", .str "a", .str "b"]]]
theorem due12 : readR "c-=a|b" = some due12D := by kernel_rfl
theorem due12_lay : SeqAt.shaped due12D = true ∧ PyData.eqv due12D due12D = true := by decide +kernel
theorem inV_strs (t : Str) : ∀ l : List Str, inV (V.str t) (l.map V.str) = decide (t ∈ l)
  | [] => by rw [decide_eq_false (by simp)]; rfl
  | a :: r => by
    have e : inV (V.str t) ((a :: r).map V.str) = ((a == t) || inV (V.str t) (r.map V.str)) := rfl
    rw [e, inV_strs t r, Bool.eq_iff_iff, Bool.or_eq_true, beq_iff_eq, decide_eq_true_eq, decide_eq_true_eq, List.mem_cons]
    exact or_congr eq_comm Iff.rfl
theorem in_six (t : Str) : inV (V.str t) [V.str "=", .str "|=", .str "^=", .str "&=", .str "-=", .str "@="] = decide (t ∈ six) := inV_strs t six
structure Fine (d : PyData) (n m : Nat) : Prop where
  sh : d.showable = true
  lv : d.leavesShort 100 = true
  wt : d.weight ≤ n
  dp : d.depth ≤ m
theorem fine_str {x : Str} (h : ∀ c ∈ letters x, c < 128) {n : Nat} (hn : x.length ≤ n) : Fine (.str x) n 0 :=
  ⟨by simp only [PyData.showable], short_str h, by simp only [PyData.weight]; exact hn, by simp only [PyData.depth]; exact Nat.le_refl _⟩
theorem fine_row {a d : PyData} {m : Nat} (ha : Fine a 200 0) (hd : Fine d 9000 m) : Fine (.tuple [a, d]) 9210 (m + 1) := by
  obtain ⟨a1, a2, a3, a4⟩ := ha
  obtain ⟨b1, b2, b3, b4⟩ := hd
  refine ⟨by simp only [PyData.showable, PyData.showableAll, a1, b1]; rfl, ?_, ?_, ?_⟩
  · rw [PyData.leavesShort, PyData.leavesShortAll, PyData.leavesShortAll, PyData.leavesShortAll, a2, b2]; rfl
  · rw [PyData.weight, PyData.weightAll, PyData.weightAll, PyData.weightAll]; omega
  · simp only [PyData.depth, PyData.depthAll]; omega
theorem fine_op {o a d : PyData} {m : Nat} (ho : Fine o 200 0) (ha : Fine a 200 0) (hd : Fine d 8000 m) : Fine (.tuple [o, a, d]) 9000 (m + 1) := by
  obtain ⟨o1, o2, o3, o4⟩ := ho
  obtain ⟨a1, a2, a3, a4⟩ := ha
  obtain ⟨b1, b2, b3, b4⟩ := hd
  refine ⟨by simp only [PyData.showable, PyData.showableAll, o1, a1, b1]; rfl, ?_, ?_, ?_⟩
  · rw [PyData.leavesShort, PyData.leavesShortAll, PyData.leavesShortAll, PyData.leavesShortAll, PyData.leavesShortAll, o2, a2, b2]; rfl
  · rw [PyData.weight, PyData.weightAll, PyData.weightAll, PyData.weightAll, PyData.weightAll]; omega
  · simp only [PyData.depth, PyData.depthAll]; omega
theorem Fine.le {d : PyData} {n n' m m' : Nat} (h : Fine d n m) (hn : n ≤ n') (hm : m ≤ m') : Fine d n' m' := ⟨h.sh, h.lv, Nat.le_trans h.wt hn, Nat.le_trans h.dp hm⟩
theorem Fine.shows {d : PyData} (h : Fine d 10000 60) : d.showable = true ∧ d.depth ≤ 60 ∧ d.shown.length ≤ sizeLine := by
  refine ⟨h.sh, h.dp, ?_⟩
  have a := PyData.shown_le 100 (by decide) d h.lv
  have b : (100 + 2) * d.weight + 100 ≤ 102 * 10000 + 100 := by have := h.wt; omega
  exact Nat.le_trans a (Nat.le_trans b (by decide))
theorem row_shows {x : Str} (ha : ∀ c ∈ letters x, c < 128) (hx : x.length ≤ 150) (hb : cB (letters x) ≤ 28) : (saidR x).showable = true ∧ (saidR x).depth ≤ 60 ∧ (saidR x).shown.length ≤ sizeLine := by
  have hl : (letters x).length = x.length := Array.length_toList
  refine Fine.shows ?_
  unfold saidR
  cases h : readR x with
  | none => exact ⟨by decide +kernel, by decide +kernel, by decide +kernel, by decide +kernel⟩
  | some r =>
    unfold readR at h
    split at h
    rotate_left
    · cases h
    rename_i le
    split at h
    rotate_left
    · cases h
    rename_i hn
    obtain ⟨d, hd, rfl⟩ := Option.map_eq_some_iff.mp h
    obtain ⟨k, e, rfl, D⟩ := pE_ex hd
    obtain ⟨p1, p2⟩ := part_sub x
    have hg : legal x := ascii_legal ha
    obtain ⟨_, _, _, ft⟩ := tail_fits x (by omega) hg le
    obtain ⟨s1, s2, s3⟩ := e.shows D.ok
    have sz := D.size_le
    have fl := ft.1
    have rd : readE (rowTail x) = some e.d := by
      unfold readE
      rw [if_pos (Nat.le_trans (sub_space p2) le), hd]
    have dp := said_depth (rowTail x)
    unfold saidE at dp
    rw [rd] at dp
    have dp : e.d.depth ≤ 1 + cB (letters (rowTail x)) := dp
    have cb : cB (letters (rowTail x)) ≤ cB (letters x) := p2.countP_le
    have fd : Fine e.d 8000 40 := ⟨s1, s2, by omega, by omega⟩
    have sub : (letters (rowName x)).Sublist (letters x) := by
      unfold rowName
      refine (strip_sub _ _).trans ?_
      split
      · exact p1
      · exact (cut_sub _ _ _).trans p1
    have so : (letters (rowOp x)).Sublist (letters x) := (cut_sub _ _ _).trans p1
    have fn : Fine (.str (rowName x)) 200 0 := fine_str (fun c hc => ha c (sub.subset hc)) (by have := sub_len sub; omega)
    have fo : Fine (.str (rowOp x)) 200 0 := fine_str (fun c hc => ha c (so.subset hc)) (by have := sub_len so; omega)
    show Fine (rowOf x e.d) 10000 60
    unfold rowOf
    split
    · exact (fine_row fn (fd.le (by decide) (Nat.le_refl _))).le (by decide) (by decide)
    · exact (fine_row fn (fine_op fo fn fd)).le (by decide) (by decide)
structure Pc (z : Str) (n b : Nat) : Prop where
  len : z.length ≤ n
  asc : ∀ c ∈ letters z, c < 128
  few : cB (letters z) ≤ b
theorem Pc.app {y z : Str} {n m b c : Nat} (h : Pc y n b) (g : Pc z m c) : Pc (y ++ z) (n + m) (b + c) := by
  refine ⟨by rw [app_len]; exact Nat.add_le_add h.len g.len, fun x hx => ?_, by rw [let_app, cB_app]; exact Nat.add_le_add h.few g.few⟩
  rw [let_app] at hx
  rcases List.mem_append.mp hx with q | q
  · exact h.asc x q
  · exact g.asc x q
theorem sign8 {t : Int} (h0 : 0 ≤ t) (h1 : t < 8) : ∃ sg : Str, atI [V.str "=", .str "|=", .str "^=", .str "&=", .str "-=", .str "@=", .str "=", .str "="] t = some (.str sg) ∧ Pc sg 2 1 := by
  have h : t = 0 ∨ t = 1 ∨ t = 2 ∨ t = 3 ∨ t = 4 ∨ t = 5 ∨ t = 6 ∨ t = 7 := by omega
  rcases h with rfl | rfl | rfl | rfl | rfl | rfl | rfl | rfl <;> exact ⟨_, rfl, by decide +kernel, by decide +kernel, by decide +kernel⟩
theorem name3 {t : Int} (h0 : 0 ≤ t) (h1 : t < 3) : ∃ nm : Str, atI [V.str "a", .str "key", .str "out"] t = some (.str nm) ∧ Pc nm 3 0 := by
  have h : t = 0 ∨ t = 1 ∨ t = 2 := by omega
  rcases h with rfl | rfl | rfl <;> exact ⟨_, rfl, by decide +kernel, by decide +kernel, by decide +kernel⟩
theorem blank3 {t : Int} (h0 : 0 ≤ t) (h1 : t < 3) : Pc (repS " " t.toNat) 2 0 := by
  have h : t = 0 ∨ t = 1 ∨ t = 2 := by omega
  rcases h with rfl | rfl | rfl <;> exact ⟨by decide +kernel, by decide +kernel, by decide +kernel⟩
end My
set_option Elab.async false
set_option linter.all false
set_option maxRecDepth 100000
set_option maxHeartbeats 4000000
namespace My
open PySem PySem.Spec PyProof.Rows L2
def top (i : Nat) : Stmt := PySem.Challenge.pw_equalunlike_k12_rows_read.main.body.getD i (.Pass ⟨0, 0, 0, 0⟩)
abbrev s_is_name : Stmt := top 4
abbrev s_BadRow_init : Stmt := inClass (top 6) 0
abbrev s_Reader_init : Stmt := inClass (top 16) 0
abbrev s_Reader_took : Stmt := inClass (top 16) 5
abbrev s_Reader_need : Stmt := inClass (top 16) 6
abbrev s_Reader_parts : Stmt := inClass (top 16) 4
abbrev s_Reader_single : Stmt := inClass (top 16) 3
abbrev s_Reader_level : Stmt := inClass (top 16) 2
abbrev s_Reader_whole : Stmt := inClass (top 16) 1
abbrev s_p_split : Stmt := top 15
abbrev s_p_check_size : Stmt := top 14
abbrev s_read_row : Stmt := top 13
abbrev s_l_bag : Stmt := top 18
abbrev s_l_take : Stmt := top 19
abbrev s_l_drawn : Stmt := top 20
abbrev s_l_written : Stmt := top 21
abbrev s_l_bent : Stmt := top 22
abbrev s_l_tokens : Stmt := top 23
abbrev s_l_is_name : Stmt := top 24
abbrev s_l_last : Stmt := top 25
abbrev s_l_called : Stmt := top 27
abbrev s_l_parsed : Stmt := top 26
abbrev s_l_row : Stmt := top 29
abbrev s_l_told : Stmt := top 30
abbrev s_law : Stmt := top 31
structure Txt (K : PySem.W.Frag) (mg : Str → Option Value) (C_Reader : Addr) (C_BadRow : Addr) : Prop where
  n_ValueError : mg "ValueError" = none
  n_abs : mg "abs" = none
  n_all : mg "all" = none
  n_any : mg "any" = none
  n_int : mg "int" = none
  n_isinstance : mg "isinstance" = none
  n_len : mg "len" = none
  n_max : mg "max" = none
  n_min : mg "min" = none
  n_range : mg "range" = none
  n_repr : mg "repr" = none
  n_str : mg "str" = none
  g_LETTERS : ∃ t, mg "LETTERS" = some (.str "abcdefghijklmnopqrstuvwxyz" t)
  g_MOST_LETTERS : ∃ t, mg "MOST_LETTERS" = some (.int 4 t)
  g_RESERVED : ∃ r, mg "RESERVED" = some (.ref r) ∧ ∀ H, SqT K H r [.str "keys", .str "look", .str "self"]
  g_OPERATORS : ∃ r, mg "OPERATORS" = some (.ref r) ∧ ∀ H, SqT K H r [.str "|", .str "^", .str "&", .str "-", .str "@"]
  g_SIGNS : ∃ r, mg "SIGNS" = some (.ref r) ∧ ∀ H, SqT K H r [.str "|", .str "^", .str "&", .str "-", .str "@", .str "(", .str ")", .str ","]
  g_MOST_CHARACTERS : ∃ t, mg "MOST_CHARACTERS" = some (.int 200 t)
  g_MOST_OPEN : ∃ t, mg "MOST_OPEN" = some (.int 8 t)
  g_END : ∃ t, mg "END" = some (.str "" t)
  g_BadRow : mg "BadRow" = some (.ref C_BadRow)
  g_Reader : mg "Reader" = some (.ref C_Reader)
  ox_BadRow : OwnX K C_BadRow
  nv_BadRow : PySem.W.findIn K (.ref C_BadRow) "place" = some none
  cl_Reader : Cls K C_Reader
  nw_Reader : NoAttr K C_Reader "words"
  na_Reader : NoAttr K C_Reader "at"
  nd_Reader : NoAttr K C_Reader "depth"
  xm_BadRow : PySem.W.exmOne K (.ref C_BadRow) (.ref C_BadRow) = some true
  ec_BadRow : ExcC K C_BadRow
  xf_BadRow : XfC K C_BadRow
  k2_BadRow : PySem.W.kitOne K (.ref C_BadRow) (.type "ValueError") = some true
section
variable {P : Program} {w : World} {K : PySem.W.Frag} {mg : Str → Option Value} {base : Heap} {C_Reader : Addr} {C_BadRow : Addr}
theorem sc_is_name : FnScope ["thing", "letter"] ["thing"] (defScope s_is_name) := ⟨rfl, rfl, rfl, by decide +kernel, rfl, by decide +kernel, by decide +kernel⟩
theorem ok_is_name {f : Addr} {fd : FuncData} (F : Fun K "is_name" "is_name" s_is_name f fd) (T : Txt K mg C_Reader C_BadRow)
    : FnOk P w K mg base CX0 (1) f fd ["thing"] (spIs K mName) := by
  obtain ⟨t_LETTERS, g_LETTERS⟩ := T.g_LETTERS
  obtain ⟨t_MOST_LETTERS, g_MOST_LETTERS⟩ := T.g_MOST_LETTERS
  obtain ⟨t_RESERVED, g_RESERVED, s_RESERVED⟩ := T.g_RESERVED
  refine F.ok sc_is_name (fun vs H Q E h => ?_) (fun cdv A outer s H vs Q E hr h => ?_)
  · obtain ⟨v, d, rfl, _⟩ := h; rfl
  · obtain ⟨v, d, rfl, hx, hs, k⟩ := h
    have hu := hu_of hr
    have hu64 := hr.units
    refine ⟨_, (pss_cons (ps_if (PW.pt (pw_or (pt_not (pt_val (pe_callB call_isi (by rfl) T.n_isinstance (by decide +kernel) (pa_cons (pv 0) (pa_cons (pe_bltn (v := .ty "str") (u := .type "str") (by rfl) T.n_str (by decide +kernel) rfl) pa_nil))))) (pw_or1 (pt_not (pt_chain op_le op_le pe_int (pe_callB call_len_str (by rfl) T.n_len PySem.boot_len (pa_cons (pv 0) pa_nil)) (pe_glob (v := .int 4) rfl g_MOST_LETTERS ⟨_, rfl⟩))))))
    (pss_one (ps_ret pe_bl))
    pss_nil)
  (pss_cons (ps_if (pt_cmpR op_in_seq (pv 0) (pe_glob (v := .ref t_RESERVED) rfl g_RESERVED rfl) (by rfl))
    (pss_one (ps_ret pe_bl))
    pss_nil)
  (pss_one (ps_ret (pe_callB (cr_all rfl) (by rfl) T.n_all (by decide +kernel) (pa_cons (pe_lc (own := [("letter", 1)]) (g := gName 1) (tt := tYes) rfl sc_is_name.nd (pi_str (pv 0)) (blkOk_by (own := [("letter", 1)]) (N := ["thing", "letter"]) (sc := defScope s_is_name) (by decide +kernel)) (fun _ _ _ _ _ => (pg_name (i := 1) sc_is_name.nd rfl (Or.inl rfl))) (fun _ _ _ _ _ => pts_nil) (fun _ _ _ _ _ => (pe_cmpR op_in_sign (pv 1) (pe_glob (v := .str "abcdefghijklmnopqrstuvwxyz") rfl g_LETTERS ⟨_, rfl⟩) (by rfl)))) pa_nil)))))), ?_⟩
    refine rd_isi rfl hx (by simp) ⟨_, rfl, ?_⟩
    rw [isD_str]
    cases d with
    | int i => exact iteT (iteT (k H (Same.refl H)))
    | bool b => exact iteT (iteT (k H (Same.refl H)))
    | none => exact iteT (iteT (k H (Same.refl H)))
    | list xs => exact iteT (iteT (k H (Same.refl H)))
    | tuple xs => exact iteT (iteT (k H (Same.refl H)))
    | dict kvs => exact iteT (iteT (k H (Same.refl H)))
    | str x =>
      obtain rfl := dx_str hx
      have hl := len_le hs
      have k : ∀ H', Same H H' → Q (.bl (nameOk x)) H' := k
      refine iteF ⟨_, rfl, _, rfl, size_ok (by omega), _, _, rfl, rfl, _, rfl, ?_⟩
      by_cases h1 : (1 : Int) ≤ x.length
      · rw [decide_eq_true h1]
        refine iteT ⟨_, _, rfl, rfl, _, rfl, ?_⟩
        by_cases h4 : (x.length : Int) ≤ 4
        · rw [decide_eq_true h4]
          refine iteF ⟨_, rfl, _, _, rfl, Or.inr (s_RESERVED _), rfl, rfl, inV (.str x) [.str "keys", .str "look", .str "self"], rfl, ?_⟩
          cases e : inV (.str x) [.str "keys", .str "look", .str "self"] with
          | true =>
            refine iteT ?_
            have := k H (Same.refl H)
            have e2 : nameOk x = false := by unfold nameOk; rw [e]; simp
            rw [e2] at this
            exact this
          | false =>
            refine iteF ⟨_, rfl, _, rfl, fun D hD => lc_text (fun i H' => H' = upd H D (.lst ((x.cps.toList.take i).map fun c => V.bl (inAbc c)))) rfl ?_ ?_⟩
            · rintro i c H' hc rfl
              refine ⟨rfl, _, rfl, _, _, rfl, rfl, _, upd_same, ?_, ?_⟩
              · refine size_lt ?_
                rw [List.length_map, List.length_take]
                have : x.cps.toList.length = x.length := rfl
                omega
              · show upd (upd _ _ _) _ _ = _
                rw [upd_upd, take_snoc hc, List.map_append]
                rfl
            · rintro H' rfl
              refine ⟨D, x.cps.toList.map inAbc, rfl, SqL.of (upd_same.trans ?_), ?_⟩
              · rw [List.map_map]
                congr 2
                have : x.cps.toList.take x.cps.size = x.cps.toList := List.take_of_length_le (Nat.le_of_eq Array.length_toList)
                rw [this]
                rfl
              · rw [all_ids]
                have := k _ (same_new hD (o := .lst ((x.cps.toList.take x.cps.size).map fun c => V.bl (inAbc c))))
                unfold nameOk at this
                rw [e, decide_eq_true (show 1 ≤ x.length ∧ x.length ≤ 4 by omega)] at this
                exact this
        · rw [decide_eq_false h4]
          have := k H (Same.refl H)
          unfold nameOk at this
          rw [decide_eq_false (show ¬ (1 ≤ x.length ∧ x.length ≤ 4) by omega)] at this
          exact this
      · rw [decide_eq_false h1]
        have := k H (Same.refl H)
        unfold nameOk at this
        rw [decide_eq_false (show ¬ (1 ≤ x.length ∧ x.length ≤ 4) by omega)] at this
        exact ⟨_, rfl, this⟩
theorem sc_BadRow_init : FnScope ["self", "place"] ["self", "place"] (defScope s_BadRow_init) := ⟨rfl, rfl, rfl, by decide +kernel, rfl, by decide +kernel, by decide +kernel⟩
theorem ok_BadRow_init {f : Addr} {fd : FuncData} (F : Fun K "__init__" "BadRow.__init__" s_BadRow_init f fd) (T : Txt K mg C_Reader C_BadRow)
    : FnOk P w K mg base CX0 (1) f fd ["self", "place"] (spInit1 K "place") := by
  refine F.ok sc_BadRow_init (fun vs H Q E h => ?_) (fun cdv A outer s H vs Q E hr h => ?_)
  · obtain ⟨a, C, y, rfl, _⟩ := h; rfl
  · obtain ⟨a, C, y, rfl, hT, hno, ha, k⟩ := h
    have hu := hu_of hr
    have hu64 := hr.units
    refine ⟨_, (pss_one (ps_putX (pv 0) (pv 1))), ?_⟩
    exact ⟨_, rfl, _, rfl, a, C, rfl, hT, hno, .inl ⟨ha, fun dx n ne => k dx n ne⟩⟩
theorem sc_Reader_init : FnScope ["self", "words"] ["self", "words"] (defScope s_Reader_init) := ⟨rfl, rfl, rfl, by decide +kernel, rfl, by decide +kernel, by decide +kernel⟩
theorem ok_Reader_init {f : Addr} {fd : FuncData} (F : Fun K "__init__" "Reader.__init__" s_Reader_init f fd) (T : Txt K mg C_Reader C_BadRow)
    : FnOk P w K mg base CX0 (1) f fd ["self", "words"] (spInitRd C_Reader) := by
  obtain ⟨t_END, g_END⟩ := T.g_END
  refine F.ok sc_Reader_init (fun vs H Q E h => ?_) (fun cdv A outer s H vs Q E hr h => ?_)
  · obtain ⟨x, dx, a, toks, rfl, _⟩ := h; rfl
  · obtain ⟨x, dx, a, toks, rfl, hx, ha, hl, hne, hsm, k⟩ := h
    have hu := hu_of hr
    have hu64 := hr.units
    refine ⟨_, (pss_cons (ps_fld (pv 0) (pe_lst (StX.pa_star (pv 1) (pa_cons (pe_glob (v := .str "") rfl g_END ⟨_, rfl⟩) pa_nil))) rfl)
  (pss_cons (ps_fld (pv 0) pe_int rfl)
  (pss_one (ps_fld (pv 0) pe_int rfl)))), ?_⟩
    refine ⟨_, rfl, a, toks.map V.str, rfl, .inr (SqL.of ha), size_ok (by simp; omega), fun p hp => ?_⟩
    generalize e_p : upd H p _ = H1
    have s_p := new_same e_p hp
    have h_p := new_at e_p
    have npx : p ≠ x := fun z => by rw [z, hx] at hp; cases hp
    refine ⟨_, rfl, x, C_Reader, dx, [], rfl, s_p _ _ hx, T.cl_Reader, T.nw_Reader, (show (0 : Nat) < 1000 by decide), ?_⟩
    refine ⟨_, rfl, x, C_Reader, dx, _, rfl, upd_same, T.cl_Reader, T.na_Reader, (show (1 : Nat) < 1000 by decide), ?_⟩
    refine ⟨_, rfl, x, C_Reader, dx, _, rfl, upd_same, T.cl_Reader, T.nd_Reader, (show (2 : Nat) < 1000 by decide), ?_⟩
    refine k p _ (Ext.tr (Ext.of s_p) (Ext.tr ext_upd (Ext.tr ext_upd ext_upd))) ⟨⟨?_, ?_, ?_⟩, ?_, Nat.le_refl _, hne, hsm⟩
    · rw [Nat.sub_self]; exact upd_same
    · rw [List.map_append]; exact (upd_ne npx).trans ((upd_ne npx).trans ((upd_ne npx).trans h_p))
    · rw [List.length_append]; exact hl
    · rw [Nat.sub_self]; rfl
theorem sc_Reader_took : FnScope ["self", "word"] ["self", "word"] (defScope s_Reader_took) := ⟨rfl, rfl, rfl, by decide +kernel, rfl, by decide +kernel, by decide +kernel⟩
theorem ok_Reader_took {f : Addr} {fd : FuncData} (F : Fun K "took" "Reader.took" s_Reader_took f fd) (T : Txt K mg C_Reader C_BadRow)
    : FnOk P w K mg base CX0 (1) f fd ["self", "word"] (spTook C_Reader) := by
  refine F.ok sc_Reader_took (fun vs H Q E h => ?_) (fun cdv A outer s H vs Q E hr h => ?_)
  · obtain ⟨r, dx, w, ws, i, dep, x, y, rfl, _⟩ := h; rfl
  · obtain ⟨r, dx, w, ws, i, dep, x, y, rfl, hR, hy, k1, k2⟩ := h
    have hu := hu_of hr
    have hu64 := hr.units
    refine ⟨_, (pss_cons (ps_if (pt_cmpR op_ne (pe_ix ix_list (pe_fld (pv 0) rfl) (pe_fld (pv 0) rfl) (fun _ _ => rfl)) (pv 1) (nomark _))
    (pss_one (ps_ret pe_bl))
    pss_nil)
  (pss_cons (ps_fldaug (pv 0) pe_int in_add)
  (pss_one (ps_ret pe_bl)))), ?_⟩
    refine ⟨_, rfl, r, _, _, _, _, rfl, hR.ins, T.cl_Reader, T.nw_Reader, rfl, _, rfl, r, _, _, _, _, rfl, hR.ins, T.cl_Reader, T.na_Reader, rfl, w, ws.map V.str, (i : Int), .str y, rfl, rfl, SqL.of hR.lst, hR.at hy, ?_⟩
    refine ⟨_, rfl, rfl, _, rfl, ?_⟩
    by_cases e : y = x
    · subst e
      refine iteNS rfl ?_
      refine ⟨_, rfl, r, _, _, _, _, rfl, hR.ins, T.cl_Reader, T.na_Reader, rfl, i, 1, rfl, rfl, dx, _, hR.ins, (show (3 : Nat) < 1000 by decide), k1 rfl⟩
    · show (if (!decide (V.str y = V.str x)) = true then _ else _)
      rw [decide_eq_false (fun z => e (by injection z))]
      exact iteT (k2 e)
theorem sc_Reader_need : FnScope ["self", "word"] ["self", "word"] (defScope s_Reader_need) := ⟨rfl, rfl, rfl, by decide +kernel, rfl, by decide +kernel, by decide +kernel⟩
theorem ok_Reader_need {f : Addr} {fd : FuncData} (F : Fun K "need" "Reader.need" s_Reader_need f fd) (T : Txt K mg C_Reader C_BadRow)
    (D_BadRow_init : Xc P w K mg base C_BadRow 1 ["self", "place"] (spInit1 K "place"))
    (D_Reader_took : Mt P w K mg base C_Reader "took" 1 ["self", "word"] (spTook C_Reader))
    : FnOk P w K mg base (L2.CX P w) (3) f fd ["self", "word"] (spNeed C_Reader C_BadRow) := by
  refine F.okX sc_Reader_need (fun vs H Q E h => ?_) (fun cdv A outer s H vs Q E hr h => ?_)
  · obtain ⟨r, dx, w, ws, i, dep, x, y, rfl, _⟩ := h; rfl
  · obtain ⟨r, dx, w, ws, i, dep, x, y, rfl, hR, hy, k1, k2⟩ := h
    have hu := hu_of hr
    have hu64 := hr.units
    refine ⟨_, (pss_one (ps_if (pt_not (pt_val (pe_mt D_Reader_took (hr.mono (by decide)) T.cl_Reader (pv 0) (pa_cons (pv 1) pa_nil))))
    (pss_one (ps_raise rfl (takes_of rfl rfl rfl rfl) (mk_xc D_BadRow_init (hr.mono (by decide)) (by rfl) T.g_BadRow (pa_cons pe_int pa_nil))))
    pss_nil)), ?_⟩
    refine ⟨_, rfl, r, _, _, rfl, hR.ins, rfl, _, rfl, r, dx, w, ws, i, dep, x, y, rfl, hR, hy, (fun e => ⟨_, rfl, iteF ?_⟩), fun e => ⟨_, rfl, iteT ?_⟩⟩
    · exact k1 e
    · exact mkO_one T.ox_BadRow T.nv_BadRow fun d G s2 hd2 hG => k2 e d G s2 hd2 hG
theorem sc_Reader_parts : FnScope ["self", "many", "found"] ["self", "many"] (defScope s_Reader_parts) := ⟨rfl, rfl, rfl, by decide +kernel, rfl, by decide +kernel, by decide +kernel⟩
theorem ok_Reader_parts {f : Addr} {fd : FuncData} (F : Fun K "parts" "Reader.parts" s_Reader_parts f fd) (T : Txt K mg C_Reader C_BadRow)
    (D_BadRow_init : Xc P w K mg base C_BadRow 1 ["self", "place"] (spInit1 K "place"))
    (D_Reader_need : MtX P w K mg base C_Reader "need" 3 ["self", "word"] (spNeed C_Reader C_BadRow))
    {k0 n : Nat} {spI : Sp} (hI : ∀ m, n = m + 1 → spI = spLevelR K C_Reader C_BadRow m 5) (D_Reader_level : MtX P w K mg base C_Reader "level" (k0 + 4) ["self", "at_least"] spI)
    : FnOk P w K mg base (L2.CX P w) (k0 + 5) f fd ["self", "many"] (spPartsR K C_Reader C_BadRow n) := by
  obtain ⟨t_MOST_OPEN, g_MOST_OPEN⟩ := T.g_MOST_OPEN
  refine F.okX sc_Reader_parts (fun vs H Q E h => ?_) (fun cdv A outer s H vs Q E hr h => ?_)
  · obtain ⟨r, dx, w, toks, ts, dep, many, rfl, _⟩ := h; rfl
  · obtain ⟨r, dx, w, toks, ts, dep, many, rfl, hR, hn, hq⟩ := h
    have hu := hu_of hr
    have hu64 := hr.units
    refine ⟨_, (pss_cons (ps_expr (pe_mtX D_Reader_need (hr.mono (by omega)) T.cl_Reader (L2.passes_call (takes_of rfl rfl rfl rfl) (fun _ _ _ _ z => z)) (pv 0) (pa_cons pe_str pa_nil)))
  (pss_cons (ps_fldaug (pv 0) pe_int in_add)
  (pss_cons (ps_if (pt_cmpR op_gt (pe_fld (pv 0) rfl) (pe_glob (v := .int 8) rfl g_MOST_OPEN ⟨_, rfl⟩) (nomark _))
    (pss_one (ps_raise rfl (takes_of rfl rfl rfl rfl) (mk_xc D_BadRow_init (hr.mono (by omega)) (by rfl) T.g_BadRow (pa_cons pe_int pa_nil))))
    pss_nil)
  (pss_cons (ps_set (i := 2) sc_Reader_parts.nd rfl (Or.inl rfl) (pe_lst (pa_cons (pe_mtX D_Reader_level (hr.mono (by omega)) T.cl_Reader (L2.passes_call (takes_of rfl rfl rfl rfl) (fun _ _ _ _ z => z)) (pv 0) (pa_cons pe_int pa_nil)) pa_nil)))
  (pss_cons (ps_while (passes_of rfl) (pt_cmpR op_lt (pe_callB call_len_seq (by rfl) T.n_len PySem.boot_len (pa_cons (pv 2) pa_nil)) (pv 1) (nomark _)) (pss_cons (ps_expr (pe_mtX D_Reader_need (hr.mono (by omega)) T.cl_Reader (L2.passes_call (takes_of rfl rfl rfl rfl) (fun _ _ _ _ z => z)) (pv 0) (pa_cons pe_str pa_nil)))
      (pss_one (ps_expr (pe_bm PySem.F.plainAttrs_list PySem.F.slot_list_append PySem.F.type_list_append mt_append (pv 2) (pa_cons (pe_mtX D_Reader_level (hr.mono (by omega)) T.cl_Reader (L2.passes_call (takes_of rfl rfl rfl rfl) (fun _ _ _ _ z => z)) (pv 0) (pa_cons pe_int pa_nil)) pa_nil))))))
  (pss_cons (ps_expr (pe_mtX D_Reader_need (hr.mono (by omega)) T.cl_Reader (L2.passes_call (takes_of rfl rfl rfl rfl) (fun _ _ _ _ z => z)) (pv 0) (pa_cons pe_str pa_nil)))
  (pss_cons (ps_fldaug (pv 0) pe_int in_sub)
  (pss_one (ps_ret (pv 2)))))))))), ?_⟩
    refine ⟨_, rfl, r, _, _, rfl, hR.rd.ins, rfl, r, dx, w, _, _, dep, "(", _, rfl, hR.rd, hR.at, (fun e => ?_), fun e e0 H' s h0 h1 => ?_⟩
    rotate_left
    · have no := RdT.no (ts := ts) (x := "(") (by decide) e
      rcases hq with ⟨_, _, k2⟩ | ⟨_, _, k2⟩
      · exact k2 (p1_a no) e0 H' (Ext.of s) h0 h1
      · exact k2 (p2_a no) e0 H' (Ext.of s) h0 h1
    obtain ⟨tl, rfl, ho, hR1⟩ := hR.step (by decide) e
    have x1 : Ext r H (upd H r _) := ext_upd (o := .ins C_Reader dx (rdF w ((toks.length - (("(" : Str) :: tl).length + 1 : Nat) : Int) dep))
    generalize upd H r _ = H1 at hR1 x1 ⊢
    refine ⟨_, rfl, r, _, _, _, _, rfl, hR1.rd.ins, T.cl_Reader, T.nd_Reader, rfl, dep, 1, rfl, rfl, dx, _, hR1.rd.ins, (show (3 : Nat) < 1000 by decide), ?_⟩
    generalize eH2 : upd H1 r _ = H2
    have hR2 : RdT C_Reader H2 r dx w toks tl (dep + 1) := by rw [← eH2]; exact hR1.deep (dep + 1)
    have x12 : Ext r H1 H2 := by rw [← eH2]; exact ext_upd
    have x02 := Ext.tr x1 x12
    clear eH2
    have nH : ∀ e0, H2 e0 = none → H e0 = none := fun e0 z => ext_none x02 hR2.some z
    refine ⟨_, rfl, r, _, _, _, _, rfl, hR2.rd.ins, T.cl_Reader, T.nd_Reader, rfl, ((dep + 1 : Nat) : Int), 8, rfl, rfl, _, rfl, ?_⟩
    cases n with
    | zero =>
      have d8 : dep = 8 := by omega
      subst d8
      refine iteT ?_
      refine mkO_one T.ox_BadRow T.nv_BadRow fun d G s2 hd2 hG => ?_
      rcases hq with ⟨_, _, k2⟩ | ⟨_, _, k2⟩
      · exact k2 (p1_b ho rfl) d G (Ext.tr x02 (Ext.of s2)) (nH d hd2) hG
      · exact k2 (p2_b ho rfl) d G (Ext.tr x02 (Ext.of s2)) (nH d hd2) hG
    | succ m =>
    obtain rfl := hI m rfl
    have d8 : ¬ ((8 : Int) < ((dep + 1 : Nat) : Int)) := by omega
    rw [decide_eq_false d8]
    refine iteF ?_
    refine ⟨_, rfl, r, _, _, rfl, hR2.rd.ins, rfl, r, dx, w, toks, tl, dep + 1, 0, rfl, by decide, by decide, hR2, by omega, ?_, ?_⟩
    rotate_left
    · intro no e0 H' x0 h0 h1
      rcases hq with ⟨_, _, k2⟩ | ⟨_, _, k2⟩
      · exact k2 (p1_b ho no) e0 H' (Ext.tr x02 x0) (nH e0 h0) h1
      · exact k2 (p2_b ho no) e0 H' (Ext.tr x02 x0) (nH e0 h0) h1
    intro d ts3 v H3 hp3 x3 hR3 hd3 ht3
    have hp3 : pIn (m + 1) tl = some (d, ts3) := hp3
    refine ⟨size_ok (by simp), fun p hp => ?_⟩
    generalize e_p : upd H3 p _ = H4
    have s_p := new_same e_p hp
    have h_p := new_at e_p
    have hR4 := hR3.same s_p
    have hd4 := dp_same s_p _ _ hd3
    have x04 := Ext.tr x02 (Ext.tr x3 (Ext.of s_p))
    have npr : p ≠ r := fun z => hR3.some (z ▸ hp)
    have npw : p ≠ w := fun z => by rw [z, hR3.rd.lst] at hp; cases hp
    have nH4 : ∀ e0, H4 e0 = none → H e0 = none := fun e0 z => ext_none x04 hR4.some z
    rcases hq with ⟨rfl, k1, k2⟩ | ⟨rfl, k1, k2⟩
    · refine ⟨fun q σ' G => q = 0 ∧ σ' = [some (.ref r), some (.int 1), some (.ref p)] ∧ G = H4, ⟨0, rfl, rfl, rfl⟩, ?_⟩
      rintro q σ' G ⟨rfl, rfl, rfl⟩
      refine ⟨_, rfl, p, [v], rfl, .inl (SqL.of h_p), _, rfl, 1, 1, rfl, rfl, ?_⟩
      refine ⟨_, rfl, iteF ?_⟩
      refine ⟨_, rfl, r, _, _, rfl, hR4.rd.ins, rfl, r, dx, w, _, _, _, ")", _, rfl, hR4.rd, hR4.at, (fun e => ?_), fun e e0 H' s h0 h1 => ?_⟩
      rotate_left
      · exact k2 (p1_c ho hp3 (RdT.no (by decide) e)) e0 H' (Ext.tr x04 (Ext.of s)) (nH4 e0 h0) h1
      obtain ⟨tlz, rfl, hoz, hRz⟩ := hR4.step (by decide) e
      generalize eHz : upd G r _ = Hz at hRz ⊢
      have xz : Ext r G Hz := by rw [← eHz]; exact ext_upd
      refine ⟨_, rfl, r, _, _, _, _, rfl, hRz.rd.ins, T.cl_Reader, T.nd_Reader, rfl, ((dep + 1 : Nat) : Int), 1, rfl, rfl, dx, _, hRz.rd.ins, (show (3 : Nat) < 1000 by decide), ?_⟩
      generalize eHy : upd Hz r _ = Hy
      have hRy : RdT C_Reader Hy r dx w toks tlz dep := by
        rw [← eHy]
        have z := hRz.deep dep
        have ed : ((dep + 1 : Nat) : Int) - 1 = (dep : Int) := by omega
        show RdT C_Reader (upd Hz r (.ins C_Reader dx (rdF w _ (((dep + 1 : Nat) : Int) - 1)))) r dx w toks tlz dep
        rw [ed]
        exact z
      have xy : Ext r G Hy := by rw [← eHy]; exact Ext.tr xz ext_upd
      exact ⟨_, rfl, k1 d tlz v p Hy (p1_d ho hp3 hoz) (Ext.tr x04 xy) hRy (extT_dp (.ext hR4.rd.ins xy) _ _ ht3 hd4) ht3 (xy _ _ npr h_p)⟩
    · refine ⟨fun q σ' G => (q = 1 ∧ σ' = [some (.ref r), some (.int 2), some (.ref p)] ∧ G = H4) ∨ (q = 0 ∧ σ' = [some (.ref r), some (.int 2), some (.ref p)] ∧ ∃ t4 ts5 d2 v2, pTok "," ts3 = some t4 ∧ pIn (m + 1) t4 = some (d2, ts5) ∧ Ext r H G ∧ RdT C_Reader G r dx w toks ts5 (dep + 1) ∧ Dp K G v d ∧ Dp K G v2 d2 ∧ tre d2 = true ∧ G p = some (.lst [v, v2])), ⟨1, .inl ⟨rfl, rfl, rfl⟩⟩, ?_⟩
      rintro q σ' G (⟨rfl, rfl, rfl⟩ | ⟨rfl, rfl, t4, ts5, d2, v2, h4, hp5, x05, hR5, hv5, hv25, ht5, h_p5⟩)
      · refine ⟨_, rfl, p, [v], rfl, .inl (SqL.of h_p), _, rfl, 1, 2, rfl, rfl, ?_⟩
        refine ⟨_, rfl, iteT ?_⟩
        refine ⟨fun σ' G => σ' = [some (.ref r), some (.int 2), some (.ref p)] ∧ ∃ t4 ts5 d2 v2, pTok "," ts3 = some t4 ∧ pIn (m + 1) t4 = some (d2, ts5) ∧ Ext r H G ∧ RdT C_Reader G r dx w toks ts5 (dep + 1) ∧ Dp K G v d ∧ Dp K G v2 d2 ∧ tre d2 = true ∧ G p = some (.lst [v, v2]), fun σ' G z => ⟨0, by decide, .inr ⟨rfl, z⟩⟩, ?_⟩
        refine ⟨_, rfl, r, _, _, rfl, hR4.rd.ins, rfl, r, dx, w, _, _, _, ",", _, rfl, hR4.rd, hR4.at, (fun e => ?_), fun e e0 H' s h0 h1 => ?_⟩
        rotate_left
        · exact k2 (p2_c ho hp3 (RdT.no (by decide) e)) e0 H' (Ext.tr x04 (Ext.of s)) (nH4 e0 h0) h1
        obtain ⟨t4, rfl, h4, hR5⟩ := hR4.step (by decide) e
        generalize eH5 : upd G r _ = H5 at hR5 ⊢
        have x45 : Ext r G H5 := by rw [← eH5]; exact ext_upd
        have x05 := Ext.tr x04 x45
        have h_p5 := x45 _ _ npr h_p
        refine ⟨_, rfl, .inl ⟨rfl, [v], SqL.of h_p5⟩, _, rfl, r, _, _, rfl, hR5.rd.ins, rfl, r, dx, w, toks, t4, dep + 1, 0, rfl, by decide, by decide, hR5, by omega, ?_, ?_⟩
        rotate_left
        · intro no e0 H' x0 h0 h1
          exact k2 (p2_d ho hp3 h4 no) e0 H' (Ext.tr x05 x0) (ext_none x05 hR5.some h0) h1
        intro d2 ts5 v2 H6 hp6 x6 hR6 hd6 ht6
        have hp6 : pIn (m + 1) t4 = some (d2, ts5) := hp6
        have h_p6 := x6 _ _ npr h_p5
        have hv6 := extT_dp (.ext hR5.rd.ins x6) _ _ ht3 (extT_dp (.ext hR4.rd.ins x45) _ _ ht3 hd4)
        refine ⟨p, [v], v2, rfl, rfl, h_p6, (show (1 : Nat) < sizeLine by decide), rfl, t4, ts5, d2, v2, h4, hp6, ?_, hR6.put npr npw, extT_dp (.lst h_p6) _ _ ht3 hv6, extT_dp (.lst h_p6) _ _ ht6 hd6, ht6, upd_same⟩
        intro b o nb e
        have nbp : b ≠ p := fun z => by
          have := nH4 b
          rw [z] at e
          have q := Ext.tr x02 x3 p o npr e
          rw [hp] at q
          cases q
        exact (upd_ne nbp).trans (x6 _ _ nb (x05 _ _ nb e))
      · refine ⟨_, rfl, p, [v, v2], rfl, .inl (SqL.of h_p5), _, rfl, 2, 2, rfl, rfl, ?_⟩
        refine ⟨_, rfl, iteF ?_⟩
        have nH5 : ∀ e0, G e0 = none → H e0 = none := fun e0 z => ext_none x05 hR5.some z
        refine ⟨_, rfl, r, _, _, rfl, hR5.rd.ins, rfl, r, dx, w, _, _, _, ")", _, rfl, hR5.rd, hR5.at, (fun e => ?_), fun e e0 H' s h0 h1 => ?_⟩
        rotate_left
        · exact k2 (p2_e ho hp3 h4 hp5 (RdT.no (by decide) e)) e0 H' (Ext.tr x05 (Ext.of s)) (nH5 e0 h0) h1
        obtain ⟨tlz, rfl, hoz, hRz⟩ := hR5.step (by decide) e
        generalize eHz : upd G r _ = Hz at hRz ⊢
        have xz : Ext r G Hz := by rw [← eHz]; exact ext_upd
        refine ⟨_, rfl, r, _, _, _, _, rfl, hRz.rd.ins, T.cl_Reader, T.nd_Reader, rfl, ((dep + 1 : Nat) : Int), 1, rfl, rfl, dx, _, hRz.rd.ins, (show (3 : Nat) < 1000 by decide), ?_⟩
        generalize eHy : upd Hz r _ = Hy
        have hRy : RdT C_Reader Hy r dx w toks tlz dep := by
          rw [← eHy]
          have z := hRz.deep dep
          have ed : ((dep + 1 : Nat) : Int) - 1 = (dep : Int) := by omega
          show RdT C_Reader (upd Hz r (.ins C_Reader dx (rdF w _ (((dep + 1 : Nat) : Int) - 1)))) r dx w toks tlz dep
          rw [ed]
          exact z
        have xy : Ext r G Hy := by rw [← eHy]; exact Ext.tr xz ext_upd
        exact ⟨_, rfl, k1 d d2 tlz v v2 p Hy (p2_f ho hp3 h4 hp5 hoz) (Ext.tr x05 xy) hRy (extT_dp (.ext hR5.rd.ins xy) _ _ ht3 hv5) ht3 (extT_dp (.ext hR5.rd.ins xy) _ _ ht5 hv25) ht5 (xy _ _ npr h_p5)⟩
theorem sc_Reader_single : FnScope ["self", "word", "first", "second"] ["self"] (defScope s_Reader_single) := ⟨rfl, rfl, rfl, by decide +kernel, rfl, by decide +kernel, by decide +kernel⟩
theorem ok_Reader_single {f : Addr} {fd : FuncData} (F : Fun K "single" "Reader.single" s_Reader_single f fd) (T : Txt K mg C_Reader C_BadRow)
    (D_is_name : Fn P w K mg base 1 "is_name" ["thing"] (spIs K mName))
    (D_Reader_took : Mt P w K mg base C_Reader "took" 1 ["self", "word"] (spTook C_Reader))
    {k0 n : Nat} (D_Reader_parts : MtX P w K mg base C_Reader "parts" (k0 + 4) ["self", "many"] (spPartsR K C_Reader C_BadRow n))
    : FnOk P w K mg base (L2.CX P w) (k0 + 5) f fd ["self"] (spSingleR K C_Reader C_BadRow n) := by
  refine F.okX sc_Reader_single (fun vs H Q E h => ?_) (fun cdv A outer s H vs Q E hr h => ?_)
  · obtain ⟨r, dx, w, toks, ts, dep, rfl, _⟩ := h; rfl
  · obtain ⟨r, dx, w, toks, ts, dep, rfl, hR, hn, k1, k2⟩ := h
    have hu := hu_of hr
    have hu64 := hr.units
    refine ⟨_, (pss_cons (ps_set (i := 1) sc_Reader_single.nd rfl (Or.inl rfl) (pe_ix ix_list (pe_fld (pv 0) rfl) (pe_fld (pv 0) rfl) (fun _ _ => rfl)))
  (pss_cons (ps_if (pt_val (pe_fn D_is_name (hr.mono (by omega)) rfl (pa_cons (pv 1) pa_nil)))
    (pss_cons (ps_fldaug (pv 0) pe_int in_add)
      (pss_one (ps_ret (pv 1))))
    pss_nil)
  (pss_cons (ps_if (pt_val (pe_mt D_Reader_took (hr.mono (by omega)) T.cl_Reader (pv 0) (pa_cons pe_str pa_nil)))
    (pss_one (ps_ret (pe_tup (pa_cons pe_str (pa_cons (pe_ix ix_list (pe_mtX D_Reader_parts (hr.mono (by omega)) T.cl_Reader (L2.passes_call (takes_of rfl rfl rfl rfl) (fun _ _ _ _ z => z)) (pv 0) (pa_cons pe_int pa_nil)) pe_int (fun _ _ => rfl)) pa_nil)))))
    pss_nil)
  (pss_cons (ps_if (pt_val (pe_mt D_Reader_took (hr.mono (by omega)) T.cl_Reader (pv 0) (pa_cons pe_str pa_nil)))
    (pss_cons (ps_asg (pe_mtX D_Reader_parts (hr.mono (by omega)) T.cl_Reader (L2.passes_call (takes_of rfl rfl rfl rfl) (fun _ _ _ _ z => z)) (pv 0) (pa_cons pe_int pa_nil)) (pg_lst rfl (pgs_cons (pg_name (i := 2) sc_Reader_single.nd rfl (Or.inl rfl)) (pgs_cons (pg_name (i := 3) sc_Reader_single.nd rfl (Or.inl rfl)) pgs_nil))))
      (pss_one (ps_ret (pe_tup (pa_cons pe_str (pa_cons (pv 2) (pa_cons (pv 3) pa_nil)))))))
    pss_nil)
  (pss_one (ps_ret (pe_ix ix_list (pe_mtX D_Reader_parts (hr.mono (by omega)) T.cl_Reader (L2.passes_call (takes_of rfl rfl rfl rfl) (fun _ _ _ _ z => z)) (pv 0) (pa_cons pe_int pa_nil)) pe_int (fun _ _ => rfl)))))))), ?_⟩
    refine ⟨_, rfl, r, _, _, _, _, rfl, hR.rd.ins, T.cl_Reader, T.nw_Reader, rfl, _, rfl, r, _, _, _, _, rfl, hR.rd.ins, T.cl_Reader, T.na_Reader, rfl, w, _, ((toks.length - ts.length : Nat) : Int), .str (ts.headD ""), rfl, rfl, SqL.of hR.rd.lst, hR.rd.at hR.at, ?_⟩
    refine ⟨_, rfl, .str (ts.headD ""), .str (ts.headD ""), rfl, .of (.str _), hR.smh, fun H1 s1 => ⟨_, rfl, ?_⟩⟩
    have hR1 := hR.same s1
    show (if nameOk (ts.headD "") = true then _ else _)
    cases q : nameOk (ts.headD "") with
    | true =>
      refine iteT ?_
      cases ts with
      | nil => rw [show (([] : List Str).headD "") = "" from rfl, no_end] at q; cases q
      | cons t tl =>
      have q : nameOk t = true := q
      have ht := hR.ne t (hR.mem t List.mem_cons_self)
      obtain ⟨tl2, e, _, hR2⟩ := hR1.step ht rfl
      cases e
      refine ⟨_, rfl, r, _, _, _, _, rfl, hR1.rd.ins, T.cl_Reader, T.na_Reader, rfl, ((toks.length - (t :: tl).length : Nat) : Int), 1, rfl, rfl, dx, _, hR1.rd.ins, (show (3 : Nat) < 1000 by decide), ?_⟩
      exact ⟨_, rfl, k1 (.str t) tl (.str t) _ (sg_name q) (Ext.tr (Ext.of s1) ext_upd) hR2 (.str t) rfl⟩
    | false =>
    refine iteF ?_
    have x1 : Ext r H H1 := Ext.of s1
    refine ⟨_, rfl, r, _, _, rfl, hR1.rd.ins, rfl, r, dx, w, _, _, dep, "keys", _, rfl, hR1.rd, hR1.at, (fun e => ⟨_, rfl, iteT ?_⟩), fun e => ⟨_, rfl, iteF ?_⟩⟩
    · obtain ⟨tl, rfl, _, hR2⟩ := hR1.step (by decide) e
      generalize eH2 : upd H1 r _ = H2 at hR2 ⊢
      have x2 : Ext r H H2 := Ext.tr x1 (by rw [← eH2]; exact ext_upd)
      refine ⟨_, rfl, r, _, _, rfl, hR2.rd.ins, rfl, r, dx, w, toks, tl, dep, 1, rfl, hR2, hn, .inl ⟨rfl, fun d rest v l H3 hpk x3 hR3 hd ht hl => ?_, fun hpk e0 H3 x3 h0 h1 => k2 (sg_keys0 hpk) e0 H3 (Ext.tr x2 x3) (ext_none x2 hR2.some h0) h1⟩⟩
      refine ⟨l, [v], 0, v, rfl, rfl, SqL.of hl, rfl, size_ok (by simp), fun p hp => ?_⟩
      generalize e_p : upd H3 p _ = H4
      have s_p := new_same e_p hp
      have h_p := new_at e_p
      exact k1 (.tuple [.str "keys", d]) rest (.ref p) H4 (sg_keys1 hpk) (Ext.tr x2 (Ext.tr x3 (Ext.of s_p))) (hR3.same s_p) (.tup (.of h_p) (.cons (.str _) (.cons (dp_same s_p _ _ hd) .nil))) (by unfold tre treAll treAll treAll; rw [ht]; rfl)
    refine ⟨_, rfl, r, _, _, rfl, hR1.rd.ins, rfl, r, dx, w, _, _, dep, "look", _, rfl, hR1.rd, hR1.at, (fun e2 => ⟨_, rfl, iteT ?_⟩), fun e2 => ⟨_, rfl, iteF ?_⟩⟩
    · obtain ⟨tl, rfl, _, hR2⟩ := hR1.step (by decide) e2
      generalize eH2 : upd H1 r _ = H2 at hR2 ⊢
      have x2 : Ext r H H2 := Ext.tr x1 (by rw [← eH2]; exact ext_upd)
      refine ⟨_, rfl, r, _, _, rfl, hR2.rd.ins, rfl, r, dx, w, toks, tl, dep, 2, rfl, hR2, hn, .inr ⟨rfl, fun d d2 rest v v2 l H3 hpk x3 hR3 hd ht hd2 ht2 hl => ?_, fun hpk e0 H3 x3 h0 h1 => k2 (sg_look0 hpk) e0 H3 (Ext.tr x2 x3) (ext_none x2 hR2.some h0) h1⟩⟩
      refine ⟨l, [v, v2], rfl, SqL.of hl, rfl, _, _, rfl, _, _, rfl, rfl, _, rfl, _, rfl, size_ok (by simp), fun p hp => ?_⟩
      generalize e_p : upd H3 p _ = H4
      have s_p := new_same e_p hp
      have h_p := new_at e_p
      exact k1 (.tuple [.str "look", d, d2]) rest (.ref p) H4 (sg_look1 hpk) (Ext.tr x2 (Ext.tr x3 (Ext.of s_p))) (hR3.same s_p) (.tup (.of h_p) (.cons (.str _) (.cons (dp_same s_p _ _ hd) (.cons (dp_same s_p _ _ hd2) .nil)))) (by unfold tre treAll treAll treAll treAll; rw [ht, ht2]; rfl)
    · have par := sg_par (inner := pIn n) q e e2
      refine ⟨_, rfl, r, _, _, rfl, hR1.rd.ins, rfl, r, dx, w, toks, ts, dep, 1, rfl, hR1, hn, .inl ⟨rfl, fun d rest v l H3 hpk x3 hR3 hd ht hl => ?_, fun hpk e0 H3 x3 h0 h1 => k2 (par.trans hpk) e0 H3 (Ext.tr x1 x3) (ext_none x1 hR1.some h0) h1⟩⟩
      exact ⟨l, [v], 0, v, rfl, rfl, SqL.of hl, rfl, k1 d rest v H3 (par.trans hpk) (Ext.tr x1 x3) hR3 hd ht⟩
theorem sc_Reader_level : FnScope ["self", "at_least", "operator", "left", "right"] ["self", "at_least"] (defScope s_Reader_level) := ⟨rfl, rfl, rfl, by decide +kernel, rfl, by decide +kernel, by decide +kernel⟩
theorem ok_Reader_level {f : Addr} {fd : FuncData} (F : Fun K "level" "Reader.level" s_Reader_level f fd) (T : Txt K mg C_Reader C_BadRow)
    (D_Reader_took : Mt P w K mg base C_Reader "took" 1 ["self", "word"] (spTook C_Reader))
    {k0 n m : Nat} {spS spL : Sp} (hS : m = 0 → spS = spSingleR K C_Reader C_BadRow n) (hL : ∀ q, m = q + 1 → spL = spLevelR K C_Reader C_BadRow n q) (D_Reader_single : MtX P w K mg base C_Reader "single" (k0 + 4) ["self"] spS) (D_Reader_level : MtX P w K mg base C_Reader "level" (k0 + 4) ["self", "at_least"] spL)
    : FnOk P w K mg base (L2.CX P w) (k0 + 5) f fd ["self", "at_least"] (spLevelR K C_Reader C_BadRow n m) := by
  obtain ⟨t_OPERATORS, g_OPERATORS, s_OPERATORS⟩ := T.g_OPERATORS
  refine F.okX sc_Reader_level (fun vs H Q E h => ?_) (fun cdv A outer s H vs Q E hr h => ?_)
  · obtain ⟨r, dx, w, toks, ts, dep, j, rfl, _⟩ := h; rfl
  · obtain ⟨r, dx, w, toks, ts, dep, j, rfl, hj, hm, hR, hn, k1, k2⟩ := h
    have hu := hu_of hr
    have hu64 := hr.units
    refine ⟨_, (pss_cons (ps_if (pt_cmpR op_eq (pv 1) (pe_callB call_len_seq (by rfl) T.n_len PySem.boot_len (pa_cons (pe_glob (v := .ref t_OPERATORS) rfl g_OPERATORS rfl) pa_nil)) (nomark _))
    (pss_one (ps_ret (pe_mtX0 D_Reader_single (hr.mono (by omega)) T.cl_Reader (L2.passes_call (takes_of rfl rfl rfl rfl) (fun _ _ _ _ z => z)) (pv 0))))
    pss_nil)
  (pss_cons (ps_set (i := 2) sc_Reader_level.nd rfl (Or.inl rfl) (pe_ix ix_tup (pe_glob (v := .ref t_OPERATORS) rfl g_OPERATORS rfl) (pv 1) (fun _ _ => rfl)))
  (pss_cons (ps_set (i := 3) sc_Reader_level.nd rfl (Or.inl rfl) (pe_mtX D_Reader_level (hr.mono (by omega)) T.cl_Reader (L2.passes_call (takes_of rfl rfl rfl rfl) (fun _ _ _ _ z => z)) (pv 0) (pa_cons (pe_op op_add (pv 1) pe_int) pa_nil)))
  (pss_cons (ps_while (passes_of rfl) (pt_val (pe_mt D_Reader_took (hr.mono (by omega)) T.cl_Reader (pv 0) (pa_cons (pv 2) pa_nil))) (pss_cons (ps_set (i := 4) sc_Reader_level.nd rfl (Or.inl rfl) (pe_mtX D_Reader_level (hr.mono (by omega)) T.cl_Reader (L2.passes_call (takes_of rfl rfl rfl rfl) (fun _ _ _ _ z => z)) (pv 0) (pa_cons (pe_op op_add (pv 1) pe_int) pa_nil)))
      (pss_one (ps_set (i := 3) sc_Reader_level.nd rfl (Or.inl rfl) (pe_tup (pa_cons (pv 2) (pa_cons (pv 3) (pa_cons (pv 4) pa_nil))))))))
  (pss_one (ps_ret (pv 3))))))), ?_⟩
    refine ⟨_, rfl, t_OPERATORS, _, rfl, .inr (s_OPERATORS _), rfl, _, rfl, ?_⟩
    cases m with
    | zero =>
      subst hj
      obtain rfl := hS rfl
      refine iteT ?_
      exact ⟨_, rfl, r, _, _, rfl, hR.rd.ins, rfl, r, dx, w, toks, ts, dep, rfl, hR, hn, k1, k2⟩
    | succ q =>
    obtain rfl := hL q rfl
    show (if decide (V.int j = V.int 5) = true then _ else _)
    rw [decide_eq_false (fun z => by injection z with z; omega)]
    refine iteF ?_
    have hop : atI [V.str "|", .str "^", .str "&", .str "-", .str "@"] j = some (.str (opAt q)) := by
      have : q = 0 ∨ q = 1 ∨ q = 2 ∨ q = 3 ∨ q = 4 := by omega
      rcases this with rfl | rfl | rfl | rfl | rfl <;> subst hj <;> rfl
    have hne : opAt q ≠ "" := by
      have : q = 0 ∨ q = 1 ∨ q = 2 ∨ q = 3 ∨ q = 4 := by omega
      rcases this with rfl | rfl | rfl | rfl | rfl <;> decide
    refine ⟨_, rfl, t_OPERATORS, _, j, .str (opAt q), rfl, rfl, s_OPERATORS _, hop, ?_⟩
    generalize eop : opAt q = op at hop hne ⊢
    refine ⟨_, rfl, r, _, _, rfl, hR.rd.ins, rfl, _, rfl, j, 1, rfl, rfl, r, dx, w, toks, ts, dep, j + 1, rfl, by omega, by omega, hR, hn, ?_, ?_⟩
    rotate_left
    · intro no e0 H' x0 h0 h1
      exact k2 (lev_none no) e0 H' x0 h0 h1
    intro d0 ts0 v0 H0 hp0 x0 hR0 hd0 ht0
    have hlev := lev_go hp0
    rw [eop] at hlev
    have hless := less_lev (less_single (less_in n)) q
    generalize esub : pLev (pSingle (pIn n)) q = sub at hp0 hlev hless
    refine ⟨fun k σ' G => ∃ tsl vl v4 dl, tsl.length ≤ k ∧ σ' = [some (.ref r), some (.int j), some (.str op), some vl, v4] ∧ Ext r H G ∧ RdT C_Reader G r dx w toks tsl dep ∧ Dp K G vl dl ∧ tre dl = true ∧ pLoop op sub k dl tsl = pLev (pSingle (pIn n)) (q + 1) ts, ⟨ts0.length, ts0, v0, none, d0, Nat.le_refl _, rfl, x0, hR0, hd0, ht0, hlev.symm⟩, ?_⟩
    rintro k σ' G ⟨tsl, vl, v4, dl, hk, rfl, xl, hRl, hdl, htl, hpl⟩
    refine ⟨_, rfl, r, _, _, rfl, hRl.rd.ins, rfl, _, rfl, r, dx, w, _, _, dep, op, _, rfl, hRl.rd, hRl.at, (fun e => ⟨_, rfl, iteT ?_⟩), fun e => ⟨_, rfl, iteF ?_⟩⟩
    rotate_left
    · have no := RdT.no (ts := tsl) (x := op) hne e
      rw [loop_no no] at hpl
      exact ⟨_, rfl, k1 dl tsl vl G hpl.symm xl hRl hdl htl⟩
    obtain ⟨tl, rfl, ho, hR1⟩ := hRl.step hne e
    generalize eH1 : upd G r _ = H1 at hR1 ⊢
    have xg1 : Ext r G H1 := by rw [← eH1]; exact ext_upd
    clear eH1
    have x1 := Ext.tr xl xg1
    refine ⟨fun σ' G' => ∃ ts2 v2 d2, sub tl = some (d2, ts2) ∧ ∃ p, σ' = [some (.ref r), some (.int j), some (.str op), some (.ref p), some v2] ∧ Ext r H G' ∧ RdT C_Reader G' r dx w toks ts2 dep ∧ Dp K G' (.ref p) (.tuple [.str op, dl, d2]) ∧ tre d2 = true, ?_, ?_⟩
    · rintro σ' G' ⟨ts2, v2, d2, e2, p, rfl, xx, hRR, hdp, ht2⟩
      cases k with
      | zero => exact absurd hk (by simp)
      | succ k =>
      refine ⟨k, Nat.lt_succ_self k, ts2, .ref p, some v2, .tuple [.str op, dl, d2], ?_, rfl, xx, hRR, hdp, ?_, ?_⟩
      · have a := hless _ _ _ e2
        simp only [List.length_cons] at hk
        omega
      · unfold tre treAll treAll treAll treAll; rw [htl, ht2]; rfl
      · rw [← hpl, loop_go ho e2]
    refine ⟨_, rfl, r, _, _, rfl, hR1.rd.ins, rfl, _, rfl, j, 1, rfl, rfl, r, dx, w, toks, tl, dep, j + 1, rfl, by omega, by omega, hR1, hn, ?_, ?_⟩
    rotate_left
    · intro no e0 H' x0 h0 h1
      rw [esub] at no
      refine k2 ?_ e0 H' (Ext.tr x1 x0) (ext_none x1 hR1.some h0) h1
      cases k with
      | zero => exact absurd hk (by simp)
      | succ k => rw [← hpl, loop_none ho no]
    intro d2 ts2 v2 H2 hp2 x2 hR2 hd2 ht2
    rw [esub] at hp2
    refine ⟨_, rfl, _, rfl, _, rfl, size_ok (by simp), fun p hp => ?_⟩
    generalize e_p : upd H2 p _ = H3
    have s_p := new_same e_p hp
    have h_p := new_at e_p
    have hdl3 := dp_same s_p _ _ (extT_dp (.ext hR1.rd.ins x2) _ _ htl (extT_dp (.ext hRl.rd.ins xg1) _ _ htl hdl))
    exact ⟨ts2, v2, d2, hp2, p, rfl, Ext.tr x1 (Ext.tr x2 (Ext.of s_p)), hR2.same s_p, .tup (.of h_p) (.cons (.str _) (.cons hdl3 (.cons (dp_same s_p _ _ hd2) .nil))), ht2⟩
theorem sc_Reader_whole : FnScope ["self", "expression"] ["self"] (defScope s_Reader_whole) := ⟨rfl, rfl, rfl, by decide +kernel, rfl, by decide +kernel, by decide +kernel⟩
theorem ok_Reader_whole {f : Addr} {fd : FuncData} (F : Fun K "whole" "Reader.whole" s_Reader_whole f fd) (T : Txt K mg C_Reader C_BadRow)
    (D_Reader_need : MtX P w K mg base C_Reader "need" 3 ["self", "word"] (spNeed C_Reader C_BadRow))
    {k0 : Nat} (D_Reader_level : MtX P w K mg base C_Reader "level" (k0 + 4) ["self", "at_least"] (spLevelR K C_Reader C_BadRow 8 5))
    : FnOk P w K mg base (L2.CX P w) (k0 + 5) f fd ["self"] (spWholeR K C_Reader C_BadRow) := by
  obtain ⟨t_END, g_END⟩ := T.g_END
  refine F.okX sc_Reader_whole (fun vs H Q E h => ?_) (fun cdv A outer s H vs Q E hr h => ?_)
  · obtain ⟨r, dx, w, toks, rfl, _⟩ := h; rfl
  · obtain ⟨r, dx, w, toks, rfl, hR, k1, k2⟩ := h
    have hu := hu_of hr
    have hu64 := hr.units
    refine ⟨_, (pss_cons (ps_set (i := 1) sc_Reader_whole.nd rfl (Or.inl rfl) (pe_mtX D_Reader_level (hr.mono (by omega)) T.cl_Reader (L2.passes_call (takes_of rfl rfl rfl rfl) (fun _ _ _ _ z => z)) (pv 0) (pa_cons pe_int pa_nil)))
  (pss_cons (ps_expr (pe_mtX D_Reader_need (hr.mono (by omega)) T.cl_Reader (L2.passes_call (takes_of rfl rfl rfl rfl) (fun _ _ _ _ z => z)) (pv 0) (pa_cons (pe_glob (v := .str "") rfl g_END ⟨_, rfl⟩) pa_nil)))
  (pss_one (ps_ret (pv 1))))), ?_⟩
    refine ⟨_, rfl, r, _, _, rfl, hR.rd.ins, rfl, r, dx, w, toks, toks, 0, 0, rfl, by decide, by decide, hR, rfl, ?_, ?_⟩
    rotate_left
    · intro no e0 H' x0 h0 h1
      exact k2 (pE_none no) e0 H' x0 h0 h1
    intro d ts v H1 hp x1 hR1 hd ht
    refine ⟨_, rfl, r, _, _, rfl, hR1.rd.ins, rfl, r, dx, w, _, _, 0, "", _, rfl, hR1.rd, hR1.at, (fun e => ?_), fun e e0 H' s h0 h1 => ?_⟩
    · cases ts with
      | nil =>
        have xn : Ext r H1 (upd H1 r _) := ext_upd (o := .ins C_Reader dx (rdF w ((toks.length - ([] : List Str).length + 1 : Nat) : Int) ((0 : Nat) : Int)))
        exact ⟨_, rfl, k1 d v _ (pE_some hp) (Ext.tr x1 xn) (extT_dp (.ext hR1.rd.ins xn) _ _ ht hd) ht⟩
      | cons t tl => exact absurd e (hR1.ne t (hR1.mem t List.mem_cons_self))
    · cases ts with
      | nil => exact absurd rfl e
      | cons t tl => exact k2 (pE_more hp) e0 H' (Ext.tr x1 (Ext.of s)) (ext_none x1 hR1.some h0) h1
theorem sc_p_split : FnScope ["text", "spaced", "sign", "word"] ["text"] (defScope s_p_split) := ⟨rfl, rfl, rfl, by decide +kernel, rfl, by decide +kernel, by decide +kernel⟩
theorem okT_p_split {n m : Nat} {f r : Addr} {fd : FuncData} {d : Option Addr} {its : Array Value} {sl : Array (Option Value)} (F : Fun K "_split" "_split" s_p_split f fd) (T : Txt K mg C_Reader C_BadRow)
    (hS : K.lookup r = some ⟨.type "tuple", d, .seq its m, sl⟩) (g_S : mg "SIGNS" = some (.ref r)) (hv : Vals (signsOf.map V.str) its.toList) (ht : ∀ (j : Nat) (u : Value), its[j]? = some u → ∃ (y : Str) (t : Tok), u = .str y t ∧ t ≠ 0 ∧ t + 1 < n) :
    FnT n P w K mg base CX0 1 f fd ["text"] spSplit := by
  refine fnT_of F sc_p_split (fun vs H Q E h => ?_) (fun cdv A outer s H vs Q E hr h => ?_)
  · obtain ⟨_, rfl, _⟩ := h; rfl
  · obtain ⟨x, rfl, hx, k⟩ := h
    have hu := hu_of hr
    refine ⟨_, PSsn.nox (pssn_cons (.of (ps_set (i := 1) sc_p_split.nd rfl (Or.inl rfl) (pv 0))) (pssn_cons
      (psn_forK (i := 2) (tb := fun v D σ H => ∃ y, v = .str y ∧ tRepS 1 y [tC (.str " "), tFmt (tVar 2), tC (.str " ")] σ H fun z H1 => D.nx (σ.set 1 (some z)) H1) PassesOwn.never rfl sc_p_split.nd rfl rfl (pe_glob (v := .ref r) rfl g_S rfl) hS hv
        (fun j v u ev eu pins s2 σ H2 D hn I ra hq => ?_))
      (PSsn.of (pss_one (ps_ret (pe_lc (own := [("word", 3)]) (g := gName 3) (tt := tWord 3) rfl sc_p_split.nd (pi_list (pe_split (pv 1) pe_str)) (blkOk_by (own := [("word", 3)]) (N := ["text", "spaced", "sign", "word"]) (sc := defScope s_p_split) (by decide +kernel)) (fun _ _ _ _ _ => (pg_name (i := 3) sc_p_split.nd rfl (Or.inl rfl))) (fun _ _ _ _ _ => pts_word (i := 3) rfl (Or.inl rfl)) (fun _ _ _ _ _ => (pv 3)))))))), ?_⟩
    · obtain ⟨y, rfl, hq⟩ := hq
      obtain ⟨y', t, rfl, h0, hn'⟩ := ht j u eu
      obtain ⟨u', eu', ru⟩ := hv.get ev
      have e : Value.str y' t = u' := Option.some.inj (eu.symm.trans (by simpa using eu'))
      obtain ⟨t2, e2⟩ := ru
      rw [← e] at e2
      cases e2
      exact replS_asg (i := 1) sc_p_split.nd rfl (Or.inl rfl) rfl (.cons pe_str (.cons (pe_fmt (pv 2)) (.cons pe_str .nil))) hn I ra h0 hn' hq
    · refine ⟨_, rfl, fun j σ' H' => ∃ v2, σ' = [some (.str x), some (.str (spacedBy (signsOf.take j) x)), v2, none] ∧ H' = H, ⟨none, rfl, rfl⟩, ?_, ?_⟩
      · rintro j v σ' H' ev ⟨v2, rfl, rfl⟩
        rw [List.getElem?_map] at ev
        obtain ⟨y, ey, rfl⟩ := Option.map_eq_some_iff.mp ev
        have hj : j < 8 := (List.getElem?_eq_some_iff.mp ey).1
        have hy : y.length = 1 := by
          have : ∀ y ∈ signsOf, y.length = 1 := by decide
          exact this y (List.mem_of_getElem? ey)
        have lz : (Str.empty ++ " " ++ y ++ " " : Str).length = 3 := by rw [Str.length_append, Str.length_append, Str.length_append, hy]; rfl
        have lx := spaced_fit hx j (by omega)
        have l3 := pow3 (show j ≤ 7 by omega)
        have sz : sizeLine = 16777216 := sizeLine_eq
        refine ⟨y, rfl, _, rfl, " ", rfl, (by rw [sz]; decide), ?_⟩
        refine ⟨.str y, rfl, ?_⟩
        refine .inl ⟨y, rfl, (by rw [sz, hy]; decide), y, rfl, (by rw [Str.length_append, Str.length_append, hy, sz]; decide), " ", rfl, (by rw [lz, sz]; decide), ?_, ?_, some (.str y), ?_, rfl⟩
        · cases q : (y == (Str.empty ++ " " ++ y ++ " " : Str)) with
          | false => rfl
          | true =>
            have e := congrArg Str.length (eq_of_beq q)
            rw [lz, hy] at e
            cases e
        · have lx2 := Nat.le_trans lx (Nat.mul_le_mul_right 1900 l3)
          rw [lz]
          omega
        · rw [spaced_step ey]; rfl
      · rintro σ' H' ⟨v2, rfl, rfl⟩
        have lx := spaced_fit hx 8 (Nat.le_refl _)
        have lx : (spacedBy signsOf x).length ≤ 3 ^ 8 * 1900 := lx
        have sz : sizeLine = 16777216 := sizeLine_eq
        have l8 : (3 : Nat) ^ 8 * 1900 = 12465900 := by decide
        refine ⟨_, rfl, ⟨_, rfl⟩, spacedBy signsOf x, " ", rfl, rfl, rfl, (by omega), fun p hp => ?_⟩
        have s1 : Same H' (upd H' p (.lst ((Txt.split (spacedBy signsOf x) " ").map V.str))) := same_new hp
        have h1 : upd H' p (.lst ((Txt.split (spacedBy signsOf x) " ").map V.str)) p = _ := upd_same
        generalize upd H' p _ = H1 at s1 h1 ⊢
        refine ⟨p, rfl, ⟨_, SqL.of h1⟩, fun D hD => ?_⟩
        have sl := PyProof.Rows.split_le (spacedBy signsOf x) " "
        refine lc_big (walk_list (K := K) (xs := (Txt.split (spacedBy signsOf x) " ").map V.str)) (Txt.split (spacedBy signsOf x) " ") (fun t => if ((t.length : Int) != 0) = true then some (V.str t) else none) (by rw [List.length_map]) (by rw [List.length_map]; omega) hD (fun H7 s7 => SqL.of (s7 _ _ h1)) ?_ ?_
        · rintro i t v H7 H8 R hi s7 ⟨rfl, hv⟩ hR
          rw [List.getElem?_map, hi] at hv
          cases hv
          have ps := PyProof.Rows.part_short (List.mem_of_getElem? hi)
          refine ⟨rfl, t, rfl, (by omega), ?_⟩
          have hR2 := hR _ (Same.refl _)
          by_cases e : ((t.length : Int) != 0) = true
          · rw [e] at hR2 ⊢
            exact iteT ⟨_, rfl, hR2⟩
          · rw [Bool.not_eq_true] at e
            rw [e] at hR2 ⊢
            exact iteF hR2
        · intro H2 s2 h2
          rw [tokens_fm] at h2
          exact k D H2 (s1.trans s2) (by cases q : H' D with | none => rfl | some o => rw [s1 _ _ q] at hD; cases hD) h2
theorem sc_p_check_size : FnScope ["text"] ["text"] (defScope s_p_check_size) := ⟨rfl, rfl, rfl, by decide +kernel, rfl, by decide +kernel, by decide +kernel⟩
theorem okT_p_check_size {f : Addr} {fd : FuncData} (F : Fun K "_check_size" "_check_size" s_p_check_size f fd) (T : Txt K mg C_Reader C_BadRow)
    (D_BadRow_init : Xc P w K mg base C_BadRow 1 ["self", "place"] (spInit1 K "place")) : FnT 1 P w K mg base (L2.CX P w) 3 f fd ["text"] (spCheck C_BadRow) := by
  obtain ⟨t_MOST_CHARACTERS, g_MOST_CHARACTERS⟩ := T.g_MOST_CHARACTERS
  refine fnT_of F sc_p_check_size (fun vs H Q E h => ?_) (fun cdv A outer s H vs Q E hr h => ?_)
  · obtain ⟨_, rfl, _⟩ := h; rfl
  · obtain ⟨x, rfl, hx, k1, k2⟩ := h
    refine ⟨_, pssn_one (psn_if (PWn.pt (pwn_or (PTn.of (pt_not (pt_val (pe_callB call_isi (by rfl) T.n_isinstance (by decide +kernel) (pa_cons (pv 0) (pa_cons (pe_bltn (v := .ty "str") (u := .type "str") (by rfl) T.n_str (by decide +kernel) rfl) pa_nil))))))
        (pwn_or1 (ptn_cmp op_gt (pen_callB call_len_str (by rfl) T.n_len PySem.boot_len (pan_cons (pen_replL (pv 0)) pan_nil)) (PEn.of (pe_glob (v := .int 200) rfl g_MOST_CHARACTERS ⟨_, rfl⟩)) (nomark _)))))
      (PSsn.of (pss_one (ps_raise rfl (takes_of rfl rfl rfl rfl) (mk_xc D_BadRow_init (hr.mono (by decide)) (by rfl) T.g_BadRow (pa_cons pe_int pa_nil)))))
      (PSsn.of pss_nil)), ?_⟩
    refine rd_isi rfl (.of (.str x)) (by simp) ⟨_, rfl, ?_⟩
    rw [isD_str]
    refine iteF ?_
    have sz : sizeLine = 16777216 := sizeLine_eq
    have z0 : ("" : Str).length = 0 := rfl
    have zl : (Txt.replace x " " "").length ≤ sizeLine := by
      have := TK.replace_len x " " ""
      rw [z0] at this
      omega
    refine ⟨_, rfl, x, rfl, (by rw [z0]; omega), _, rfl, zl, _, _, rfl, rfl, ?_⟩
    refine ⟨_, rfl, ?_⟩
    by_cases e : 200 < (noSpace x).length
    · rw [decide_eq_true (show (200 : Int) < ((Txt.replace x " " "").length : Int) by exact Int.ofNat_lt.mpr e)]
      refine iteT ?_
      exact mkO_one T.ox_BadRow T.nv_BadRow fun d G s2 hd2 hG => k2 e d G s2 hd2 hG
    · rw [decide_eq_false (show ¬ (200 : Int) < ((Txt.replace x " " "").length : Int) from fun z => e (Int.ofNat_lt.mp z))]
      exact iteF (k1 (Nat.le_of_not_lt e) H (Same.refl H))
theorem okO_p_check_size {f : Addr} {fd : FuncData} (F : Fun K "_check_size" "_check_size" s_p_check_size f fd) (T : Txt K mg C_Reader C_BadRow)
    (D_BadRow_init : Xc P w K mg base C_BadRow 1 ["self", "place"] (spInit1 K "place")) : FnT 1 P w K mg base (L2.CX P w) 3 f fd ["text"] (spOddT K C_BadRow) := by
  obtain ⟨t_MOST_CHARACTERS, g_MOST_CHARACTERS⟩ := T.g_MOST_CHARACTERS
  refine fnT_of F sc_p_check_size (fun vs H Q E h => ?_) (fun cdv A outer s H vs Q E hr h => ?_)
  · obtain ⟨_, _, rfl, _⟩ := h; rfl
  · obtain ⟨v, d, rfl, hd, hno, k2⟩ := h
    refine ⟨_, pssn_one (psn_if (PWn.pt (pwn_or (PTn.of (pt_not (pt_val (pe_callB call_isi (by rfl) T.n_isinstance (by decide +kernel) (pa_cons (pv 0) (pa_cons (pe_bltn (v := .ty "str") (u := .type "str") (by rfl) T.n_str (by decide +kernel) rfl) pa_nil))))))
        (pwn_or1 (ptn_cmp op_gt (pen_callB call_len_str (by rfl) T.n_len PySem.boot_len (pan_cons (pen_replL (pv 0)) pan_nil)) (PEn.of (pe_glob (v := .int 200) rfl g_MOST_CHARACTERS ⟨_, rfl⟩)) (nomark _)))))
      (PSsn.of (pss_one (ps_raise rfl (takes_of rfl rfl rfl rfl) (mk_xc D_BadRow_init (hr.mono (by decide)) (by rfl) T.g_BadRow (pa_cons pe_int pa_nil)))))
      (PSsn.of pss_nil)), ?_⟩
    refine rd_isi rfl hd (by simp) ⟨_, rfl, ?_⟩
    rw [hno]
    refine iteT (iteT ?_)
    exact mkO_one T.ox_BadRow T.nv_BadRow fun d G s2 hd2 hG => k2 d G s2 hd2 hG
theorem sc_read_row : FnScope ["text", "head", "_", "tail", "operator", "assigns_anew", "name", "expression"] ["text"] (defScope s_read_row) := ⟨rfl, rfl, rfl, by decide +kernel, rfl, by decide +kernel, by decide +kernel⟩
theorem okT_read_row {n : Nat} (h1n : 1 ≤ n) (hfit : ∀ x : Str, x.length ≤ 1900 → legal x → (noSpace x).length ≤ 200 → TailFits x) {f : Addr} {fd : FuncData} (F : Fun K "read_row" "read_row" s_read_row f fd) (T : Txt K mg C_Reader C_BadRow)
    (D_is_name : Fn P w K mg base 1 "is_name" ["thing"] (spIs K mName)) (D_BadRow_init : Xc P w K mg base C_BadRow 1 ["self", "place"] (spInit1 K "place"))
    (D_check : FnTb 1 P w K mg base (L2.CX P w) 3 "_check_size" ["text"] (spCheck C_BadRow)) (D_split : FnTb n P w K mg base CX0 1 "_split" ["text"] spSplit)
    (D_init : Mk1 P w K mg base C_Reader 1 ["self", "words"] (spInitRd C_Reader)) (D_whole : MtX P w K mg base C_Reader "whole" 77 ["self"] (spWholeR K C_Reader C_BadRow)) : FnT n P w K mg base (L2.CX P w) 78 f fd ["text"] (spReadR K C_BadRow) := by
  obtain ⟨t_OPERATORS, g_OPERATORS, s_OPERATORS⟩ := T.g_OPERATORS
  refine fnT_of F sc_read_row (fun vs H Q E h => ?_) (fun cdv A outer s H vs Q E hr h => ?_)
  · obtain ⟨_, rfl, _⟩ := h; rfl
  · obtain ⟨x, rfl, hx, hg, k1, k2⟩ := h
    refine ⟨_, pssn_cons (psn_expr (PEn.le (pen_fn (E := E) D_check (hr.mono (by decide)) rfl (L2.passes_call (takes_of rfl rfl rfl rfl) (fun _ _ _ _ z => z)) (pan_cons (PEn.of (pv 0)) pan_nil)) h1n))
      (pssn_cons (PSn.of (ps_asg (pe_partition (pv 0) pe_str) (pg_tup rfl (pgs_cons (pg_name (i := 1) sc_read_row.nd rfl (Or.inl rfl)) (pgs_cons (pg_name (i := 2) sc_read_row.nd rfl (Or.inl rfl)) (pgs_cons (pg_name (i := 3) sc_read_row.nd rfl (Or.inl rfl)) pgs_nil))))))
      (pssn_cons (PSn.of (ps_set (i := 4) sc_read_row.nd rfl (Or.inl rfl) (pe_slice sl_str (pv 1) (po_some (pe_un un_neg pe_int)) po_none)))
      (pssn_cons (PSn.of (ps_set (i := 5) sc_read_row.nd rfl (Or.inl rfl) (pe_cmpR op_notIn_seq (pv 4) (pe_glob (v := .ref t_OPERATORS) rfl g_OPERATORS rfl) (by rfl))))
      (pssn_cons (PSn.of (ps_if (pt_not (pt_val (pv 5))) (pss_one (ps_set (i := 1) sc_read_row.nd rfl (Or.inl rfl) (pe_slice sl_str (pv 1) po_none (po_some (pe_un un_neg pe_int))))) pss_nil))
      (pssn_cons (PSn.of (ps_set (i := 6) sc_read_row.nd rfl (Or.inl rfl) (pe_m1 PySem.F.slot_str_strip PySem.F.type_str_strip mt_stripChars (pv 1) pe_str)))
      (pssn_cons (PSn.of (ps_if (pt_not (pt_val (pe_fn D_is_name (hr.mono (by decide)) rfl (pa_cons (pv 6) pa_nil)))) (pss_one (ps_raise rfl (takes_of rfl rfl rfl rfl) (mk_xc D_BadRow_init (hr.mono (by decide)) (by rfl) T.g_BadRow (pa_cons pe_int pa_nil)))) pss_nil))
      (pssn_cons (psn_set (i := 7) sc_read_row.nd rfl (Or.inl rfl) (pen_mtX0 (E := E) D_whole (hr.mono (by decide)) T.cl_Reader (L2.passes_call (takes_of rfl rfl rfl rfl) (fun _ _ _ _ z => z)) (pen_mk1 D_init (hr.mono (by decide)) rfl T.g_Reader (pan_cons (pen_fn (E := E0) D_split (hr.mono (by decide)) rfl pass0 (pan_cons (PEn.of (pv 3)) pan_nil)) pan_nil))))
      (pssn_cons (PSn.of (ps_if (pt_val (pv 5)) (pss_one (ps_ret (pe_tup (pa_cons (pv 6) (pa_cons (pv 7) pa_nil))))) pss_nil))
      (PSsn.of (pss_one (ps_ret (pe_tup (pa_cons (pv 6) (pa_cons (pe_tup (pa_cons (pv 4) (pa_cons (pv 6) (pa_cons (pv 7) pa_nil)))) pa_nil)))))))))))))), ?_⟩
    refine ⟨_, rfl, x, rfl, hx, fun le H1 s1 => ?_, fun gt e0 H1 s1 h0 h1 => k2 (by unfold readR; rw [if_neg (by omega)]) e0 H1 s1 h0 h1⟩
    obtain ⟨hh, ht, hnm, hlt, hsm⟩ := hfit x hx hg le
    have sz : sizeLine = 16777216 := sizeLine_eq
    refine ⟨_, rfl, ⟨x, rfl⟩, x, "=", rfl, rfl, rfl, (by omega), fun p hp => ?_⟩
    have s2 : Same H1 (upd H1 p (.tup [.str (rowHead x), .str (Txt.partition x "=").2.1, .str (rowTail x)])) := same_new hp
    have h2 : upd H1 p (.tup [.str (rowHead x), .str (Txt.partition x "=").2.1, .str (rowTail x)]) p = _ := upd_same
    show gTup K 3 _ _ _ (upd H1 p (.tup [.str (rowHead x), .str (Txt.partition x "=").2.1, .str (rowTail x)])) _
    generalize upd H1 p _ = H2 at s2 h2 ⊢
    have s02 := s1.trans s2
    refine ⟨p, _, rfl, SqT.of h2, rfl, _, _, rfl, _, _, rfl, _, _, rfl, rfl, ?_⟩
    refine ⟨_, rfl, 1, rfl, -1, rfl, rowHead x, rfl, (by omega), ?_⟩
    refine ⟨_, rfl, t_OPERATORS, _, rfl, .inr (s_OPERATORS _), rfl, rfl, ?_⟩
    have ea : (if true = true then !inV (V.str (cutS (rowHead x) (some (-1)) none)) [V.str "|", .str "^", .str "&", .str "-", .str "@"] else inV (V.str (cutS (rowHead x) (some (-1)) none)) [V.str "|", .str "^", .str "&", .str "-", .str "@"]) = rowAnew x := rfl
    rw [ea]
    have nnone : ∀ {G1 G2 : Hp} {e : Addr}, Same G1 G2 → G2 e = none → G1 e = none := fun {G1 G2 e} s z => by
      cases q : G1 e with
      | none => rfl
      | some o => rw [s _ _ q] at z; cases z
    refine ⟨_, rfl, rowAnew x, rfl, ?_⟩
    show (if (!rowAnew x) = true then _ else _)
    generalize hA : rowAnew x = an
    cases an
    · refine iteT ?_
      refine ⟨_, rfl, 1, rfl, -1, rfl, rowHead x, rfl, (by omega), ?_⟩
      refine ⟨_, rfl, ⟨_, rfl⟩, cutS (rowHead x) none (some (-1)), " ", rfl, rfl, (Nat.le_trans (cutS_length _ _ _) (by omega)), ?_⟩
      have en : rowName x = Txt.stripChars (cutS (rowHead x) none (some (-1))) " " := by unfold rowName; rw [hA]; rfl
      rw [← en]
      refine ⟨_, rfl, .str (rowName x), .str (rowName x), rfl, .of (.str _), hnm, fun H3 s3 => ⟨_, rfl, ?_⟩⟩
      have s03 := s02.trans s3
      show (if (!nameOk (rowName x)) = true then _ else _)
      cases hN : nameOk (rowName x) with
      | false =>
        refine iteT ?_
        exact mkO_one T.ox_BadRow T.nv_BadRow fun d G s4 hd2 hG => k2 (by unfold readR; rw [if_pos le, hN]; rfl) d G (s03.trans s4) (nnone s03 hd2) hG
      | true =>
      refine iteF ?_
      have eR : readR x = (pE (tokensOf (rowTail x))).map (rowOf x) := by unfold readR; rw [if_pos le, hN]; rfl
      refine ⟨_, rfl, rowTail x, rfl, ht, fun q H4 s4 hq h4 => ?_⟩
      intro r dx hr hdx hne
      have n2 : ∀ {b : Addr} {o : HO}, H4 b = some o → b ≠ r := fun e z => by rw [z, hr] at e; cases e
      have m2 : ∀ {b : Addr} {o : HO}, H4 b = some o → b ≠ dx := fun e z => by rw [z, hdx] at e; cases e
      have x2 : ∀ b o, H4 b = some o → upd (upd H4 dx (.own r)) r (.ins C_Reader dx []) b = some o := fun b o e => (upd_ne (n2 e)).trans ((upd_ne (m2 e)).trans e)
      refine ⟨r, dx, q, tokensOf (rowTail x), rfl, upd_same, x2 _ _ h4, hlt, fun t ht => tokens_ne ht, hsm, fun w H5 x5 hR => ⟨rfl, ?_⟩⟩
      have s04 := s03.trans s4
      have s05 : Same H H5 := fun b o e => x5 b o (n2 (s04 _ _ e)) (x2 _ _ (s04 _ _ e))
      have s06 : ∀ {H6 : Hp}, Ext r H5 H6 → Same H H6 := fun x6 b o e => x6 b o (n2 (s04 _ _ e)) (s05 b o e)
      refine ⟨r, dx, _, rfl, hR.rd.ins, rfl, r, dx, w, tokensOf (rowTail x), rfl, hR, fun d v H6 hpE x6 hd ht => ?_, fun no e0 H6 x6 h0 h1 => k2 (by rw [eR, no]; rfl) e0 H6 (s06 x6) (nnone s05 h0) h1⟩
      have eD : readR x = some (rowOf x d) := by rw [eR, hpE]; rfl
      refine ⟨_, rfl, false, rfl, iteF ?_⟩
      refine ⟨_, rfl, _, rfl, _, rfl, _, rfl, size_ok (by simp), fun a1 ha1 => ?_⟩
      generalize e_a1 : upd H6 a1 _ = H7
      have s_a1 := new_same e_a1 ha1
      have h_a1 := new_at e_a1
      refine ⟨size_ok (by simp), fun a2 ha2 => ?_⟩
      generalize e_a2 : upd H7 a2 _ = H8
      have s_a2 := new_same e_a2 ha2
      have h_a2 := new_at e_a2
      have eO : rowOf x d = .tuple [.str (rowName x), .tuple [.str (rowOp x), .str (rowName x), d]] := by unfold rowOf; rw [hA]; rfl
      rw [eO] at eD
      exact k1 _ (.ref a2) H8 eD (((s06 x6).trans s_a1).trans s_a2) (.tup (.of h_a2) (.cons (.str _) (.cons (.tup (.of (s_a2 _ _ h_a1)) (.cons (.str _) (.cons (.str _) (.cons (dp_same (s_a1.trans s_a2) _ _ hd) .nil)))) .nil))) (by unfold tre treAll treAll treAll tre treAll treAll treAll treAll; rw [ht]; rfl)
    · refine iteF ?_
      refine ⟨_, rfl, ⟨_, rfl⟩, rowHead x, " ", rfl, rfl, (by omega), ?_⟩
      have en : rowName x = Txt.stripChars (rowHead x) " " := by unfold rowName; rw [hA]; rfl
      rw [← en]
      refine ⟨_, rfl, .str (rowName x), .str (rowName x), rfl, .of (.str _), hnm, fun H3 s3 => ⟨_, rfl, ?_⟩⟩
      have s03 := s02.trans s3
      show (if (!nameOk (rowName x)) = true then _ else _)
      cases hN : nameOk (rowName x) with
      | false =>
        refine iteT ?_
        exact mkO_one T.ox_BadRow T.nv_BadRow fun d G s4 hd2 hG => k2 (by unfold readR; rw [if_pos le, hN]; rfl) d G (s03.trans s4) (nnone s03 hd2) hG
      | true =>
      refine iteF ?_
      have eR : readR x = (pE (tokensOf (rowTail x))).map (rowOf x) := by unfold readR; rw [if_pos le, hN]; rfl
      refine ⟨_, rfl, rowTail x, rfl, ht, fun q H4 s4 hq h4 => ?_⟩
      intro r dx hr hdx hne
      have n2 : ∀ {b : Addr} {o : HO}, H4 b = some o → b ≠ r := fun e z => by rw [z, hr] at e; cases e
      have m2 : ∀ {b : Addr} {o : HO}, H4 b = some o → b ≠ dx := fun e z => by rw [z, hdx] at e; cases e
      have x2 : ∀ b o, H4 b = some o → upd (upd H4 dx (.own r)) r (.ins C_Reader dx []) b = some o := fun b o e => (upd_ne (n2 e)).trans ((upd_ne (m2 e)).trans e)
      refine ⟨r, dx, q, tokensOf (rowTail x), rfl, upd_same, x2 _ _ h4, hlt, fun t ht => tokens_ne ht, hsm, fun w H5 x5 hR => ⟨rfl, ?_⟩⟩
      have s04 := s03.trans s4
      have s05 : Same H H5 := fun b o e => x5 b o (n2 (s04 _ _ e)) (x2 _ _ (s04 _ _ e))
      have s06 : ∀ {H6 : Hp}, Ext r H5 H6 → Same H H6 := fun x6 b o e => x6 b o (n2 (s04 _ _ e)) (s05 b o e)
      refine ⟨r, dx, _, rfl, hR.rd.ins, rfl, r, dx, w, tokensOf (rowTail x), rfl, hR, fun d v H6 hpE x6 hd ht => ?_, fun no e0 H6 x6 h0 h1 => k2 (by rw [eR, no]; rfl) e0 H6 (s06 x6) (nnone s05 h0) h1⟩
      have eD : readR x = some (rowOf x d) := by rw [eR, hpE]; rfl
      refine ⟨_, rfl, true, rfl, iteT ?_⟩
      refine ⟨_, rfl, _, rfl, size_ok (by simp), fun a1 ha1 => ?_⟩
      generalize e_a1 : upd H6 a1 _ = H7
      have s_a1 := new_same e_a1 ha1
      have h_a1 := new_at e_a1
      have eO : rowOf x d = .tuple [.str (rowName x), d] := by unfold rowOf; rw [hA]; rfl
      rw [eO] at eD
      exact k1 _ (.ref a1) H7 eD ((s06 x6).trans s_a1) (.tup (.of h_a1) (.cons (.str _) (.cons (dp_same s_a1 _ _ hd) .nil))) (by unfold tre treAll treAll treAll; rw [ht]; rfl)
theorem okO_read_row {n : Nat} (h1n : 1 ≤ n) {f : Addr} {fd : FuncData} (F : Fun K "read_row" "read_row" s_read_row f fd) (T : Txt K mg C_Reader C_BadRow)
    (D_is_name : Fn P w K mg base 1 "is_name" ["thing"] (spIs K mName)) (D_BadRow_init : Xc P w K mg base C_BadRow 1 ["self", "place"] (spInit1 K "place"))
    (D_check : FnTb 1 P w K mg base (L2.CX P w) 3 "_check_size" ["text"] (spOddT K C_BadRow)) (D_split : FnTb n P w K mg base CX0 1 "_split" ["text"] spSplit)
    (D_init : Mk1 P w K mg base C_Reader 1 ["self", "words"] (spInitRd C_Reader)) (D_whole : MtX P w K mg base C_Reader "whole" 77 ["self"] (spWholeR K C_Reader C_BadRow)) : FnT n P w K mg base (L2.CX P w) 78 f fd ["text"] (spOddT K C_BadRow) := by
  obtain ⟨t_OPERATORS, g_OPERATORS, s_OPERATORS⟩ := T.g_OPERATORS
  refine fnT_of F sc_read_row (fun vs H Q E h => ?_) (fun cdv A outer s H vs Q E hr h => ?_)
  · obtain ⟨_, _, rfl, _⟩ := h; rfl
  · obtain ⟨v, d, rfl, hd, hno, k2⟩ := h
    refine ⟨_, pssn_cons (psn_expr (PEn.le (pen_fn (E := E) D_check (hr.mono (by decide)) rfl (L2.passes_call (takes_of rfl rfl rfl rfl) (fun _ _ _ _ z => z)) (pan_cons (PEn.of (pv 0)) pan_nil)) h1n))
      (pssn_cons (PSn.of (ps_asg (pe_partition (pv 0) pe_str) (pg_tup rfl (pgs_cons (pg_name (i := 1) sc_read_row.nd rfl (Or.inl rfl)) (pgs_cons (pg_name (i := 2) sc_read_row.nd rfl (Or.inl rfl)) (pgs_cons (pg_name (i := 3) sc_read_row.nd rfl (Or.inl rfl)) pgs_nil))))))
      (pssn_cons (PSn.of (ps_set (i := 4) sc_read_row.nd rfl (Or.inl rfl) (pe_slice sl_str (pv 1) (po_some (pe_un un_neg pe_int)) po_none)))
      (pssn_cons (PSn.of (ps_set (i := 5) sc_read_row.nd rfl (Or.inl rfl) (pe_cmpR op_notIn_seq (pv 4) (pe_glob (v := .ref t_OPERATORS) rfl g_OPERATORS rfl) (by rfl))))
      (pssn_cons (PSn.of (ps_if (pt_not (pt_val (pv 5))) (pss_one (ps_set (i := 1) sc_read_row.nd rfl (Or.inl rfl) (pe_slice sl_str (pv 1) po_none (po_some (pe_un un_neg pe_int))))) pss_nil))
      (pssn_cons (PSn.of (ps_set (i := 6) sc_read_row.nd rfl (Or.inl rfl) (pe_m1 PySem.F.slot_str_strip PySem.F.type_str_strip mt_stripChars (pv 1) pe_str)))
      (pssn_cons (PSn.of (ps_if (pt_not (pt_val (pe_fn D_is_name (hr.mono (by decide)) rfl (pa_cons (pv 6) pa_nil)))) (pss_one (ps_raise rfl (takes_of rfl rfl rfl rfl) (mk_xc D_BadRow_init (hr.mono (by decide)) (by rfl) T.g_BadRow (pa_cons pe_int pa_nil)))) pss_nil))
      (pssn_cons (psn_set (i := 7) sc_read_row.nd rfl (Or.inl rfl) (pen_mtX0 (E := E) D_whole (hr.mono (by decide)) T.cl_Reader (L2.passes_call (takes_of rfl rfl rfl rfl) (fun _ _ _ _ z => z)) (pen_mk1 D_init (hr.mono (by decide)) rfl T.g_Reader (pan_cons (pen_fn (E := E0) D_split (hr.mono (by decide)) rfl pass0 (pan_cons (PEn.of (pv 3)) pan_nil)) pan_nil))))
      (pssn_cons (PSn.of (ps_if (pt_val (pv 5)) (pss_one (ps_ret (pe_tup (pa_cons (pv 6) (pa_cons (pv 7) pa_nil))))) pss_nil))
      (PSsn.of (pss_one (ps_ret (pe_tup (pa_cons (pv 6) (pa_cons (pe_tup (pa_cons (pv 4) (pa_cons (pv 6) (pa_cons (pv 7) pa_nil)))) pa_nil)))))))))))))), ?_⟩
    exact ⟨_, rfl, v, d, rfl, hd, hno, k2⟩
theorem sc_l_bag : FnScope ["_law_script", "_law_at", "_law_cell", "_law_far"] ["_law_script", "_law_at"] (defScope s_l_bag) := ⟨rfl, rfl, rfl, by decide +kernel, rfl, by decide +kernel, by decide +kernel⟩
theorem ok_l_bag {f : Addr} {fd : FuncData} (F : Fun K "_law_bag" "_law_bag" s_l_bag f fd) (T : Txt K mg C_Reader C_BadRow)
    : FnOk P w K mg base CX0 (1) f fd ["_law_script", "_law_at"] (spBag K) := by
  refine F.ok sc_l_bag (fun vs H Q E h => ?_) (fun cdv A outer s H vs Q E hr h => ?_)
  · obtain ⟨p, ns, i, rfl, _⟩ := h; rfl
  · obtain ⟨p, ns, i, rfl, hS, hi, k⟩ := h
    have hu := hu_of hr
    have hu64 := hr.units
    refine ⟨_, (pss_cons (ps_set (i := 2) sc_l_bag.nd rfl (Or.inl rfl) (pe_ifExp (pt_cmpR op_lt (pv 1) (pe_callB call_len_seq (by rfl) T.n_len PySem.boot_len (pa_cons (pv 0) pa_nil)) (nomark _)) (pe_ix ix_list (pv 0) (pv 1) (fun _ _ => rfl)) pe_int))
  (pss_cons (ps_set (i := 3) sc_l_bag.nd rfl (Or.inl rfl) (pe_ifExp (pt_cmpR op_ge (pe_callB call_abs (by rfl) T.n_abs (by decide +kernel) (pa_cons (pv 2) pa_nil)) (pe_op op_pow pe_int pe_int) (nomark _)) (pe_callB call_abs (by rfl) T.n_abs (by decide +kernel) (pa_cons (pv 2) pa_nil)) pe_int))
  (pss_one (ps_ret (pe_lst (pa_cons (pv 3) (pa_cons (pe_op op_modN (pe_op op_mul (pe_op op_add (pe_op op_add (pe_op op_modN (pv 2) pe_int) (pe_op op_mul pe_int (pv 1))) pe_int) pe_int) pe_int) (pa_cons pe_int pa_nil)))))))), ?_⟩
    have go : ∀ (c far : Int), ∀ a, H a = none → Q (.ref a) (upd H a (.lst [.int far, .int ((((c.fmod 2305843009213693951) + 7919 * (i : Int) + 31) * 48271).fmod 2305843009213693951), .int 0])) := by
      intro c far a ha
      refine k a _ ha ⟨_, _, _, upd_same, ?_, ?_, Int.le_refl _, Int.le_refl _⟩
      · rw [Int.fmod_eq_emod_of_nonneg _ (by decide)]; exact Int.emod_nonneg _ (by decide)
      · rw [Int.fmod_eq_emod_of_nonneg _ (by decide)]; exact Int.emod_lt_of_pos _ (by decide)
    refine ⟨_, rfl, _, rfl, _, _, rfl, Or.inl hS, _, _, rfl, rfl, _, rfl, ?_⟩
    rw [List.length_map]
    refine ite2 (fun c => ?_) (fun c => ?_)
    · have hlt : i < ns.length := by simpa using c
      refine ⟨_, rfl, _, rfl, _, _, _, .int (ns[i]), rfl, rfl, hS, at_of rfl (by simp [hlt]), ?_⟩
      refine ⟨_, rfl, _, rfl, _, _, rfl, rfl, ⟨by decide, by decide, by decide⟩, _, _, rfl, rfl, _, rfl, ?_⟩
      refine ite2 (fun c => ?_) (fun c => ?_)
      · refine ⟨_, rfl, _, rfl, ?_⟩
        refine ⟨_, rfl, _, rfl, _, _, rfl, rfl, (by omega), _, rfl, _, _, rfl, rfl, Or.inl ⟨by decide, by decide⟩, _, _, rfl, rfl, _, _, rfl, rfl, _, _, rfl, rfl, Or.inr ⟨by decide, by decide⟩, _, _, rfl, rfl, (by omega), size_ok (by simp), fun a ha => go _ _ a ha⟩
      · refine ⟨_, rfl, _, rfl, _, _, rfl, rfl, (by omega), _, rfl, _, _, rfl, rfl, Or.inl ⟨by decide, by decide⟩, _, _, rfl, rfl, _, _, rfl, rfl, _, _, rfl, rfl, Or.inr ⟨by decide, by decide⟩, _, _, rfl, rfl, (by omega), size_ok (by simp), fun a ha => go _ _ a ha⟩
    · refine ⟨_, rfl, _, rfl, _, _, rfl, rfl, ⟨by decide, by decide, by decide⟩, _, _, rfl, rfl, _, rfl, ?_⟩
      refine ite2 (fun c => ?_) (fun c => ?_)
      · refine ⟨_, rfl, _, rfl, ?_⟩
        refine ⟨_, rfl, _, rfl, _, _, rfl, rfl, (by omega), _, rfl, _, _, rfl, rfl, Or.inl ⟨by decide, by decide⟩, _, _, rfl, rfl, _, _, rfl, rfl, _, _, rfl, rfl, Or.inr ⟨by decide, by decide⟩, _, _, rfl, rfl, (by omega), size_ok (by simp), fun a ha => go _ _ a ha⟩
      · refine ⟨_, rfl, _, rfl, _, _, rfl, rfl, (by omega), _, rfl, _, _, rfl, rfl, Or.inl ⟨by decide, by decide⟩, _, _, rfl, rfl, _, _, rfl, rfl, _, _, rfl, rfl, Or.inr ⟨by decide, by decide⟩, _, _, rfl, rfl, (by omega), size_ok (by simp), fun a ha => go _ _ a ha⟩
theorem sc_l_take : FnScope ["_law_bag_here", "_law_many", "_law_digit", "_law_mixed"] ["_law_bag_here", "_law_many"] (defScope s_l_take) := ⟨rfl, rfl, rfl, by decide +kernel, rfl, by decide +kernel, by decide +kernel⟩
theorem ok_l_take {f : Addr} {fd : FuncData} (F : Fun K "_law_take" "_law_take" s_l_take f fd) (T : Txt K mg C_Reader C_BadRow)
    : FnOk P w K mg base CX0 (1) f fd ["_law_bag_here", "_law_many"] spTake := by
  refine F.ok sc_l_take (fun vs H Q E h => ?_) (fun cdv A outer s H vs Q E hr h => ?_)
  · obtain ⟨a, m, n, rfl, _⟩ := h; rfl
  · obtain ⟨a, m, n, rfl, ⟨x, y, z, hb, y0, y1, z0, z1⟩, hn, m0, m1, k⟩ := h
    have hu := hu_of hr
    have hu64 := hr.units
    refine ⟨_, (pss_cons (ps_if (pt_cmpR op_gt (pe_ix ix_list (pv 0) pe_int (fun _ _ => rfl)) pe_int (nomark _))
    (pss_cons (ps_set (i := 2) sc_l_take.nd rfl (Or.inl rfl) (pe_op op_modN (pe_ix ix_list (pv 0) pe_int (fun _ _ => rfl)) (pv 1)))
      (pss_cons (ps_asg (pe_op op_fdivN (pe_ix ix_list (pv 0) pe_int (fun _ _ => rfl)) (pv 1)) (pg_sub (pv 0) pe_int set_list))
      (pss_one (ps_ret (pv 2)))))
    pss_nil)
  (pss_cons (ps_asg (pe_op op_add (pe_ix ix_list (pv 0) pe_int (fun _ _ => rfl)) pe_int) (pg_sub (pv 0) pe_int set_list))
  (pss_cons (ps_set (i := 3) sc_l_take.nd rfl (Or.inl rfl) (pe_op op_modN (pe_op op_pow (pe_op op_add (pe_ix ix_list (pv 0) pe_int (fun _ _ => rfl)) (pe_op op_mul pe_int (pe_ix ix_list (pv 0) pe_int (fun _ _ => rfl)))) pe_int) pe_int))
  (pss_cons (ps_set (i := 3) sc_l_take.nd rfl (Or.inl rfl) (pe_op op_modN (pe_op op_pow (pe_op op_add (pv 3) (pe_op op_mul pe_int (pe_ix ix_list (pv 0) pe_int (fun _ _ => rfl)))) pe_int) pe_int))
  (pss_one (ps_ret (pe_op op_modN (pe_op op_fdivN (pv 3) pe_int) (pv 1)))))))), ?_⟩
    refine ⟨_, rfl, _, _, _, _, rfl, rfl, SqL.of hb, rfl, _, _, rfl, rfl, _, rfl, ite2 (fun c => ?_) (fun c => ?_)⟩
    · refine ⟨_, rfl, _, _, _, _, rfl, rfl, SqL.of hb, rfl, _, rfl, _, _, rfl, rfl, (by omega), ?_⟩
      refine ⟨_, rfl, _, _, _, _, rfl, rfl, SqL.of hb, rfl, _, rfl, _, _, rfl, rfl, ⟨by omega, by omega⟩, _, rfl, _, _, _, _, rfl, rfl, hb, rfl, ?_⟩
      refine ⟨_, rfl, ?_⟩
      refine k _ _ ?_ ?_ But.upd ⟨_, y, z, upd_same, y0, y1, z0, by omega⟩
      · rw [Int.fmod_eq_emod_of_nonneg _ (by omega)]; exact Int.emod_nonneg _ (by omega)
      · rw [Int.fmod_eq_emod_of_nonneg _ (by omega)]; exact Int.emod_lt_of_pos _ (by omega)
    · refine ⟨_, rfl, _, _, _, _, rfl, rfl, SqL.of hb, rfl, _, _, rfl, rfl, _, rfl, _, _, _, _, rfl, rfl, hb, rfl, ?_⟩
      have hb2 := upd_same (H := H) (a := a) (o := .lst [.int x, .int y, .int (z + 1)])
      refine ⟨_, rfl, _, _, _, _, rfl, rfl, SqL.of hb2, rfl, _, rfl, _, _, _, _, rfl, rfl, SqL.of hb2, rfl, _, _, rfl, rfl, Or.inl ⟨by omega, by omega⟩, _, _, rfl, rfl, _, _, rfl, rfl, ⟨by decide, by decide, by omega⟩, _, _, rfl, rfl, (by omega), ?_⟩
      dsimp only
      generalize hg : Int.fmod _ 2305843009213693921 = mx
      have b1 : 0 ≤ mx ∧ mx < 2305843009213693921 := by
        rw [← hg, Int.fmod_eq_emod_of_nonneg _ (by decide)]
        exact ⟨Int.emod_nonneg _ (by decide), Int.emod_lt_of_pos _ (by decide)⟩
      refine ⟨_, rfl, _, rfl, _, _, _, _, rfl, rfl, SqL.of hb2, rfl, _, _, rfl, rfl, Or.inl ⟨by omega, by omega⟩, _, _, rfl, rfl, _, _, rfl, rfl, ⟨by decide, by decide, by omega⟩, _, _, rfl, rfl, (by omega), ?_⟩
      dsimp only
      generalize hg2 : Int.fmod _ 2305843009213693951 = my
      refine ⟨_, rfl, _, _, rfl, rfl, ⟨by decide, by decide⟩, _, rfl, _, _, rfl, rfl, (by omega), ?_⟩
      refine k _ _ ?_ ?_ But.upd ⟨x, y, z + 1, upd_same, y0, y1, by omega, by omega⟩
      · rw [Int.fmod_eq_emod_of_nonneg _ (by omega)]; exact Int.emod_nonneg _ (by omega)
      · rw [Int.fmod_eq_emod_of_nonneg _ (by omega)]; exact Int.emod_lt_of_pos _ (by omega)
theorem sc_l_drawn : FnScope ["_law_bag_here", "_law_deep", "_law_word"] ["_law_bag_here", "_law_deep"] (defScope s_l_drawn) := ⟨rfl, rfl, rfl, by decide +kernel, rfl, by decide +kernel, by decide +kernel⟩
theorem ok_l_drawn {f : Addr} {fd : FuncData} (F : Fun K "_law_drawn" "_law_drawn" s_l_drawn f fd) (T : Txt K mg C_Reader C_BadRow)
    (D_l_take : Fn P w K mg base 1 "_law_take" ["_law_bag_here", "_law_many"] spTake)
    {k0 j : Nat} {spS : Sp} (hS : ∀ m, j = m + 1 → spS = spDrawn K m) (D_l_drawn : Fn P w K mg base (k0 + 1) "_law_drawn" ["_law_bag_here", "_law_deep"] spS)
    : FnOk P w K mg base CX0 (k0 + 2) f fd ["_law_bag_here", "_law_deep"] (spDrawn K j) := by
  refine F.ok sc_l_drawn (fun vs H Q E h => ?_) (fun cdv A outer s H vs Q E hr h => ?_)
  · obtain ⟨_, _, rfl, _⟩ := h; rfl
  · obtain ⟨a, n, rfl, hb, hn, k⟩ := h
    have hu := hu_of hr
    have hu64 := hr.units
    refine ⟨_, (pss_cons (ps_if (PW.pt (pw_or (pt_cmpR op_eq (pv 1) pe_int (nomark _)) (pw_or1 (pt_cmpR op_eq (pe_fn D_l_take (hr.mono (by omega)) rfl (pa_cons (pv 0) (pa_cons pe_int pa_nil))) pe_int (nomark _)))))
    (pss_one (ps_ret (pe_ix ix_list (pe_lst (pa_cons pe_str (pa_cons pe_str (pa_cons pe_str (pa_cons pe_str (pa_cons pe_str pa_nil)))))) (pe_fn D_l_take (hr.mono (by omega)) rfl (pa_cons (pv 0) (pa_cons pe_int pa_nil))) (fun _ _ => rfl))))
    pss_nil)
  (pss_cons (ps_set (i := 2) sc_l_drawn.nd rfl (Or.inl rfl) (pe_ix ix_list (pe_lst (pa_cons pe_str (pa_cons pe_str (pa_cons pe_str (pa_cons pe_str (pa_cons pe_str (pa_cons pe_str (pa_cons pe_str (pa_cons pe_str (pa_cons pe_str (pa_cons pe_str pa_nil))))))))))) (pe_fn D_l_take (hr.mono (by omega)) rfl (pa_cons (pv 0) (pa_cons pe_int pa_nil))) (fun _ _ => rfl)))
  (pss_cons (ps_if (pt_cmpR op_eq (pv 2) pe_str (nomark _))
    (pss_one (ps_ret (pe_tup (pa_cons (pv 2) (pa_cons (pe_fn D_l_drawn (hr.mono (by omega)) rfl (pa_cons (pv 0) (pa_cons (pe_op op_sub (pv 1) pe_int) pa_nil))) pa_nil)))))
    pss_nil)
  (pss_one (ps_ret (pe_tup (pa_cons (pv 2) (pa_cons (pe_fn D_l_drawn (hr.mono (by omega)) rfl (pa_cons (pv 0) (pa_cons (pe_op op_sub (pv 1) pe_int) pa_nil))) (pa_cons (pe_fn D_l_drawn (hr.mono (by omega)) rfl (pa_cons (pv 0) (pa_cons (pe_op op_sub (pv 1) pe_int) pa_nil))) pa_nil))))))))), ?_⟩
    have leaf : ∀ (G : Hp) (m : Nat), Bag G a m → m ≤ n + 1 → Ext a H G → (tOp (rIxL K) (tLst (tCons (tC (V.str "a")) (tCons (tC (V.str "b")) (tCons (tC (V.str "key")) (tCons (tC (V.str "zzzz")) (tCons (tC (V.str "lo")) tNil)))))) (tCall spTake [] E0 (tCons (tVar 0) (tCons (tC (V.int 5)) tNil)))) [some (.ref a), some (.int (j : Int)), none] G Q := by
      intro G m bg hm ex
      have d2 : 2 ≤ drawsE j := by cases j with | zero => exact Nat.le_refl _ | succ j => show 2 ≤ 3 + 2 * drawsE j; omega
      refine ⟨size_ok (by simp), fun p hp => ?_⟩
      generalize e_p : upd G p _ = G1
      have s_p := new_same e_p hp
      have h_p := new_at e_p
      have npa := bg.ne hp
      refine ⟨_, rfl, a, 5, m, rfl, bg.same s_p, by omega, by decide, by decide, fun u G2 u0 u1 bt bag2 => ?_⟩
      obtain ⟨x, hx1, hx2⟩ := at_map (xs := (["a", "b", "key", "zzzz", "lo"] : List Str)) (f := V.str) u0 (by simpa using u1)
      refine ⟨p, _, u, _, rfl, rfl, SqL.of ((bt p npa).trans h_p), hx1, k (.str x) (.nm x) G2 (m + 1) (.str x) ?_ (by omega) bag2 fun b o nb eb => (bt b nb).trans (s_p _ _ (ex b o nb eb))⟩
      cases j <;> exact hx2
    refine ⟨_, rfl, rfl, _, rfl, ?_⟩
    cases j with
    | zero => exact iteT (iteT (leaf H n hb (by omega) fun _ _ _ e => e))
    | succ j =>
    rw [decide_eq_false (show ¬ V.int ((j + 1 : Nat) : Int) = V.int 0 from fun q => by injection q with q; omega)]
    have dE : drawsE (j + 1) = 3 + 2 * drawsE j := rfl
    have ej : ((j + 1 : Nat) : Int) - 1 = (j : Int) := by omega
    obtain rfl := hS j rfl
    refine iteF ⟨_, rfl, a, 6, n, rfl, hb, by omega, by decide, by decide, fun q H1 q0 q1 bt1 bag1 => ⟨rfl, _, rfl, ?_⟩⟩
    by_cases e0 : q = 0
    · rw [decide_eq_true (show V.int q = V.int 0 from congrArg V.int e0)]
      exact iteT (leaf H1 (n + 1) bag1 (Nat.le_refl _) bt1.ext)
    rw [decide_eq_false (show ¬ V.int q = V.int 0 from fun z => e0 (by injection z))]
    refine iteF ?_
    refine ⟨size_ok (by simp), fun p hp => ?_⟩
    generalize e_p : upd H1 p _ = H2
    have s_p := new_same e_p hp
    have h_p := new_at e_p
    have npa := bag1.ne hp
    refine ⟨_, rfl, a, 10, n + 1, rfl, bag1.same s_p, by omega, by decide, by decide, fun u H3 u0 u1 bt3 bag3 => ?_⟩
    obtain ⟨x, hx1, hx2⟩ := at_map (xs := (["|", "^", "&", "-", "@", "|", "-", "@", "keys", "look"] : List Str)) (f := V.str) u0 (by simpa using u1)
    have ex3 : Ext a H H3 := fun b o nb eb => (bt3 b nb).trans (s_p _ _ ((bt1 b nb).trans eb))
    refine ⟨p, _, u, _, rfl, rfl, SqL.of ((bt3 p npa).trans h_p), hx1, ?_⟩
    refine ⟨_, rfl, rfl, _, rfl, ?_⟩
    by_cases ek : x = "keys"
    · subst ek
      refine iteT ⟨_, rfl, _, rfl, _, rfl, (j + 1 : Nat), 1, rfl, rfl, a, n + 1 + 1, ?_, bag3, by omega, fun v e H4 n4 hv hin hn4 bag4 ex4 => ?_⟩
      · show [V.ref a, V.int (((j + 1 : Nat) : Int) - 1)] ++ [] = [V.ref a, V.int (j : Int)]
        rw [ej]; rfl
      refine ⟨size_ok (by simp), fun u hu => ?_⟩
      generalize e_u : upd H4 u _ = H5
      have s_u := new_same e_u hu
      have h_u := new_at e_u
      exact k (.ref u) (.keys e) H5 n4 (.tup (.of h_u) (.cons (.str _) (.cons (dp_same s_u _ _ hv) .nil))) hin (by omega) (bag4.same s_u) fun b o nb eb => s_u _ _ (ex4 b o nb (ex3 b o nb eb))
    · rw [decide_eq_false (show ¬ V.str x = V.str "keys" from fun z => ek (by injection z))]
      refine iteF ⟨_, rfl, _, rfl, _, rfl, (j + 1 : Nat), 1, rfl, rfl, a, n + 1 + 1, ?_, bag3, by omega, fun v e H4 n4 hv hin hn4 bag4 ex4 => ?_⟩
      · show [V.ref a, V.int (((j + 1 : Nat) : Int) - 1)] ++ [] = [V.ref a, V.int (j : Int)]
        rw [ej]; rfl
      refine ⟨_, rfl, _, rfl, (j + 1 : Nat), 1, rfl, rfl, a, n4, ?_, bag4, by omega, fun v2 e2 H5 n5 hv2 hin2 hn5 bag5 ex5 => ?_⟩
      · show [V.ref a, V.int (((j + 1 : Nat) : Int) - 1)] ++ [] = [V.ref a, V.int (j : Int)]
        rw [ej]; rfl
      refine ⟨size_ok (by simp), fun u hu => ?_⟩
      generalize e_u : upd H5 u _ = H6
      have s_u := new_same e_u hu
      have h_u := new_at e_u
      have hv5 := extT_de (bag4.extT ex5) hv
      have hw : x ∈ ops5 ∨ x = "look" := by
        simp only [List.mem_cons, List.not_mem_nil, or_false] at hx2
        rcases hx2 with rfl | rfl | rfl | rfl | rfl | rfl | rfl | rfl | rfl | rfl
        all_goals first | exact .inl (by decide) | exact absurd rfl ek | exact .inr rfl
      exact k (.ref u) (.bin x e e2) H6 n5 (.tup (.of h_u) (.cons (.str _) (.cons (dp_same s_u _ _ hv5) (.cons (dp_same s_u _ _ hv2) .nil)))) ⟨hw, hin, hin2⟩ (by omega) (bag5.same s_u) fun b o nb eb => s_u _ _ (ex5 b o nb (ex4 b o nb (ex3 b o nb eb)))
theorem sc_l_written : FnScope ["_law_expression", "_law_parts", "_law_part", "_law_k"] ["_law_expression"] (defScope s_l_written) := ⟨rfl, rfl, rfl, by decide +kernel, rfl, by decide +kernel, by decide +kernel⟩
theorem ok_l_written {f : Addr} {fd : FuncData} (F : Fun K "_law_written" "_law_written" s_l_written f fd) (T : Txt K mg C_Reader C_BadRow)
    {k0 j : Nat} {spS : Sp} (hS : ∀ m, j = m + 1 → spS = spWrit K m) (D_l_written : Fn P w K mg base (k0 + 1) "_law_written" ["_law_expression"] spS)
    : FnOk P w K mg base CX0 (k0 + 2) f fd ["_law_expression"] (spWrit K j) := by
  refine F.ok sc_l_written (fun vs H Q E h => ?_) (fun cdv A outer s H vs Q E hr h => ?_)
  · obtain ⟨_, _, rfl, _⟩ := h; rfl
  · obtain ⟨v, e, rfl, hd, hin, hj, k⟩ := h
    have hu := hu_of hr
    have hu64 := hr.units
    refine ⟨_, (pss_cons (ps_if (pt_val (pe_callB call_isi (by rfl) T.n_isinstance (by decide +kernel) (pa_cons (pv 0) (pa_cons (pe_bltn (v := .ty "str") (u := .type "str") (by rfl) T.n_str (by decide +kernel) rfl) pa_nil))))
    (pss_one (ps_ret (pv 0)))
    pss_nil)
  (pss_cons (ps_setLc (i := 1) (own := [("_law_part", 2)]) (g := gName 2) (tt := tYes) rfl sc_l_written.nd rfl rfl (sw_true rfl rfl rfl (by decide +kernel)) (pi_tup (pe_slice sl_tupA (pv 0) (po_some pe_int) po_none)) (blkOk_by (own := [("_law_part", 2)]) (N := ["_law_expression", "_law_parts", "_law_part", "_law_k"]) (sc := defScope s_l_written) (by decide +kernel)) (fun _ _ _ _ _ => (pg_name (i := 2) sc_l_written.nd rfl (Or.inl rfl))) (fun _ _ _ _ _ => pts_nil) (fun _ _ _ _ _ => (pe_fn D_l_written (hr.mono (Nat.le_refl _)) rfl (pa_cons (pv 2) pa_nil))))
  (pss_cons (ps_if (pt_cmpR op_in_seq (pe_ix ix_tup (pv 0) pe_int (fun _ _ => rfl)) (pe_lst (pa_cons pe_str (pa_cons pe_str pa_nil))) (by rfl))
    (pss_one (ps_ret (pe_op op_add_str (pe_op op_add_str (pe_op op_add_str (pe_ix ix_tup (pv 0) pe_int (fun _ _ => rfl)) pe_str) (pe_join pe_str (pv 1))) pe_str)))
    pss_nil)
  (pss_cons (ps_for PassesOwn.never rfl (pi_range1 (by rfl) T.n_range (pa_cons pe_int pa_nil)) (pg_name (i := 3) sc_l_written.nd rfl (Or.inl rfl))
    (pss_cons (ps_set (i := 2) sc_l_written.nd rfl (Or.inl rfl) (pe_ix ix_tup (pv 0) (pe_op op_add pe_int (pv 3)) (fun _ _ => rfl)))
      (pss_one (ps_if (PW.pt (pw_and (pt_not (pt_val (pe_callB call_isi (by rfl) T.n_isinstance (by decide +kernel) (pa_cons (pv 2) (pa_cons (pe_bltn (v := .ty "str") (u := .type "str") (by rfl) T.n_str (by decide +kernel) rfl) pa_nil))))) (pw_and1 (pt_cmpR op_notIn_seq (pe_ix ix_tup (pv 2) pe_int (fun _ _ => rfl)) (pe_lst (pa_cons pe_str (pa_cons pe_str pa_nil))) (by rfl)))))
        (pss_one (ps_asg (pe_op op_add_str (pe_op op_add_str pe_str (pe_ix ix_list (pv 1) (pv 3) (fun _ _ => rfl))) pe_str) (pg_sub (pv 1) (pv 3) set_list)))
        pss_nil))))
  (pss_one (ps_ret (pe_op op_add_str (pe_op op_add_str (pe_ix ix_list (pv 1) pe_int (fun _ _ => rfl)) (pe_ix ix_tup (pv 0) pe_int (fun _ _ => rfl))) (pe_ix ix_list (pv 1) pe_int (fun _ _ => rfl))))))))), ?_⟩
    have sz : sizeLine = 16777216 := sizeLine_eq
    have hok := hin.ok
    refine rd_isi rfl (.of hd) (by simp) ⟨_, rfl, ?_⟩
    rw [isD_str]
    rcases hin.parts with ⟨x, rfl⟩ | ⟨m, x, as, ej, ed, las, hall2, hx⟩
    · cases hd
      exact iteT ⟨_, rfl, by
        have := k H (Same.refl H)
        rw [show wrS (.nm x) = x from TL.ext_tl (by show (letters x ++ []) = _; rw [List.append_nil])] at this
        exact this⟩
    have hd4 : Dp K H v (.tuple (.str x :: as.map Ex.d)) := ed ▸ hd
    rw [ed]
    cases hd4 with
    | tup hsq hall =>
    cases hall with
    | cons hx0 hall =>
    cases hx0
    rename_i a2 vs2
    have hall : DEs K H vs2 as := hall
    have lvs := dpAll_len hall
    rw [List.length_map] at lvs
    obtain rfl := hS m ej
    refine iteF ?_
    refine ⟨_, rfl, 1, rfl, a2, _, rfl, hsq, (fun h => absurd h.1 (by show ¬ HT.sIx (vs2.length + 1) 0 (some ((1 : Nat) : Int)) = 0; rw [HT.sIx_nat]; omega)), fun _ p hp => ?_⟩
    have ecut : cutV (V.str x :: vs2) (some ((1 : Nat) : Int)) none = vs2 := cut_up _ (by simp)
    have ecut2 : cutV (V.str x :: vs2) (some 1) none = vs2 := ecut
    rw [ecut2]
    generalize e_p : upd H p _ = H1
    have s_p := new_same e_p hp
    have h_p := new_at e_p
    refine ⟨p, rfl, ⟨_, .inl (.inl h_p)⟩, fun D hD => ?_⟩
    refine lc_w (walk_tup (K := K) (xs := vs2)) as (fun a => some (.str (wrS a))) lvs.symm (by omega) hD (fun H3 s3 => .inl (.inl (s3 _ _ h_p))) ?_ ?_
    · rintro i a y H3 H' R hai s3 ⟨rfl, hy⟩ hR
      have hai2 : a ∈ as := List.mem_of_getElem? hai
      exact ⟨rfl, _, rfl, y, a, rfl, dp_same (s_p.trans s3) _ _ (dpAll_ix hall hy hai), hall2 a hai2, by omega, fun H2 s2 => hR H2 s2⟩
    · intro H3 s3 hD3
      rw [filterMap_some] at hD3
      have s03 : Same H H3 := s_p.trans s3
      have hsq3 := sqT_same s03 hsq
      have hm3 : m ≤ 3 := by omega
      have hl : ∀ a ∈ as, (wrS a).length ≤ 300 ∧ (wrA a).length ≤ 302 := fun a ha => by
        have i4 := (hall2 a ha).mono hm3
        have h1 := i4.size
        have h2 : szB 3 = 15 := rfl
        have h3 := wr_len i4.ok
        have h4 := wrA_len i4.ok
        omega
      have at0 : atI (V.str x :: vs2) 0 = some (V.str x) := at_nat (i := 0) rfl
      refine ⟨_, rfl, _, _, 0, _, rfl, rfl, hsq3, at0, size_ok (by simp), fun q hq => ?_⟩
      generalize e_q : upd H3 q _ = H4
      have s_q := new_same e_q hq
      have h_q := new_at e_q
      have hsq4 := sqT_same s_q hsq3
      have hD4 := s_q _ _ hD3
      have s04 := s03.trans s_q
      have hall4 : DEs K H4 vs2 as := dpAll_same s04 _ _ hall
      refine ⟨q, _, rfl, .inl (SqL.of h_q), rfl, rfl, _, rfl, ?_⟩
      rcases hx with ⟨rfl, a, rfl, rfl⟩ | ⟨rfl, a, b, rfl, rfl⟩ | ⟨ho, a, b, rfl, rfl⟩
      · refine iteTS (by decide) ?_
        have h1 := (hl a List.mem_cons_self).1
        have lk : ("keys" : Str).length = 4 := rfl
        have lo : ("(" : Str).length = 1 := rfl
        have lc : ("," : Str).length = 1 := rfl
        have lp : (")" : Str).length = 1 := rfl
        have lj : (Txt.join "," [wrS a]).length ≤ 301 := by
          have := join_le "," [wrS a]
          simp [lc] at this
          omega
        refine ⟨_, rfl, _, _, 0, _, rfl, rfl, hsq4, at0, _, _, rfl, rfl, by omega, ⟨_, rfl⟩, _, rfl, ",", D, [wrS a], rfl, rfl, .inl (SqL.of hD4), by simp [lc]; omega, _, _, rfl, rfl, by rw [app_len]; omega, _, _, rfl, rfl, by rw [app_len, app_len]; omega, ?_⟩
        rw [wrS_keys]
        exact k H4 s04
      · refine iteTS (by decide) ?_
        have h1 := (hl a List.mem_cons_self).1
        have h2 := (hl b (List.mem_cons_of_mem _ List.mem_cons_self)).1
        have lk : ("look" : Str).length = 4 := rfl
        have lo : ("(" : Str).length = 1 := rfl
        have lc : ("," : Str).length = 1 := rfl
        have lp : (")" : Str).length = 1 := rfl
        have lj : (Txt.join "," [wrS a, wrS b]).length ≤ 602 := by
          have := join_le "," [wrS a, wrS b]
          simp [lc] at this
          omega
        refine ⟨_, rfl, _, _, 0, _, rfl, rfl, hsq4, at0, _, _, rfl, rfl, by omega, ⟨_, rfl⟩, _, rfl, ",", D, [wrS a, wrS b], rfl, rfl, .inl (SqL.of hD4), by simp [lc]; omega, _, _, rfl, rfl, by rw [app_len]; omega, _, _, rfl, rfl, by rw [app_len, app_len]; omega, ?_⟩
        rw [wrS_look]
        exact k H4 s04
      · refine iteFS (by
          have : ∀ x ∈ ops5, inV (V.str x) [V.str "keys", V.str "look"] = false := by decide
          exact this x ho) ?_
        obtain ⟨Ls, eLs⟩ : ∃ Ls : Nat → List Str, Ls = fun i => [if 0 < i then wrA a else wrS a, if 1 < i then wrA b else wrS b] := ⟨_, rfl⟩
        obtain ⟨va, vb, rfl, da, db⟩ : ∃ va vb, vs2 = [va, vb] ∧ DE K H4 va a ∧ DE K H4 vb b := by
          have hall5 : DpAll K H4 vs2 [a.d, b.d] := hall4
          cases hall5 with
          | cons da hall5 =>
          cases hall5 with
          | cons db hall5 =>
          cases hall5
          exact ⟨_, _, rfl, da, db⟩
        refine ⟨_, rfl, by decide, by decide, ?_⟩
        refine for_range (lo := 0) (fun i σ G => ∃ (v2 v3 : Option V), σ = [some (.ref a2), some (.ref D), v2, v3] ∧ G D = some (.lst ((Ls i).map V.str)) ∧ SqT K G a2 [.str x, va, vb] ∧ DE K G va a ∧ DE K G vb b ∧ Same H G) ⟨_, _, rfl, by rw [eLs]; exact hD4, hsq4, da, db, s04⟩ ?_ ?_
        · rintro i σ G hi ⟨v2, v3, rfl, gD, gS, ga, gb, sG⟩
          obtain ⟨c, vc, e1, e2, e3, hc, hcm⟩ : ∃ c vc, atI [V.str x, va, vb] (1 + (0 + (i : Int))) = some vc ∧ (Ls i)[i]? = some (wrS c) ∧ (Ls i).set i (wrA c) = Ls (i + 1) ∧ DE K G vc c ∧ c ∈ [a, b] := by
            have hi2 : i = 0 ∨ i = 1 := by
              have : i < 2 := hi
              omega
            rcases hi2 with rfl | rfl
            · exact ⟨a, va, at_nat (i := 1) rfl, by rw [eLs]; rfl, by rw [eLs]; rfl, ga, List.mem_cons_self⟩
            · exact ⟨b, vb, at_nat (i := 2) rfl, by rw [eLs]; rfl, by rw [eLs]; rfl, gb, List.mem_cons_of_mem _ List.mem_cons_self⟩
          have stay : wrA c = wrS c → Ls (i + 1) = Ls i := fun e => by rw [← e3, e, set_same e2]
          refine ⟨_, rfl, _, rfl, 1, _, rfl, rfl, _, _, _, _, rfl, rfl, gS, e1, ?_⟩
          refine rd_isi rfl (.of hc) (by simp) ⟨_, rfl, ?_⟩
          rw [isD_str]
          rcases (hall2 c hcm).parts with ⟨y, rfl⟩ | ⟨m2, y, as2, ej2, ed2, las2, hall3, hy⟩
          · refine iteFS rfl ?_
            refine iteFS rfl ?_
            exact ⟨_, _, rfl, by rw [stay rfl]; exact gD, gS, ga, gb, sG⟩
          · rw [ed2]
            refine iteTS rfl ?_
            have hc2 : Dp K G vc (.tuple (.str y :: as2.map Ex.d)) := ed2 ▸ hc
            cases hc2 with
            | tup csq call =>
            cases call with
            | cons cy call =>
            cases cy
            refine ⟨_, rfl, _, _, 0, _, rfl, rfl, csq, at_nat (i := 0) rfl, size_ok (by simp), fun q2 hq2 => ?_⟩
            generalize e_q2 : upd G q2 _ = G1
            have s_q2 := new_same e_q2 hq2
            have h_q2 := new_at e_q2
            have gD1 := s_q2 _ _ gD
            have gS1 := sqT_same s_q2 gS
            have ga1 : DE K G1 va a := dp_same s_q2 _ _ ga
            have gb1 : DE K G1 vb b := dp_same s_q2 _ _ gb
            have sG1 := sG.trans s_q2
            refine ⟨q2, _, rfl, .inl (SqL.of h_q2), rfl, rfl, _, rfl, ?_⟩
            rcases hy with ⟨rfl, a', rfl, rfl⟩ | ⟨rfl, a', b', rfl, rfl⟩ | ⟨ho2, a', b', rfl, rfl⟩
            · refine iteFS (by decide) ?_
              exact ⟨_, _, rfl, by rw [stay rfl]; exact gD1, gS1, ga1, gb1, sG1⟩
            · refine iteFS (by decide) ?_
              exact ⟨_, _, rfl, by rw [stay rfl]; exact gD1, gS1, ga1, gb1, sG1⟩
            · refine iteTS (by
                have : ∀ x ∈ ops5, (!inV (V.str x) [V.str "keys", V.str "look"]) = true := by decide
                exact this y ho2) ?_
              have hcl := hl _ hcm
              have lo : ("(" : Str).length = 1 := rfl
              have lp : (")" : Str).length = 1 := rfl
              have e4 : atI ((Ls i).map V.str) (0 + (i : Int)) = some (.str (wrS (.bin y a' b'))) := by
                rw [Int.zero_add]
                exact at_nat (by rw [List.getElem?_map, e2]; rfl)
              have ewr : ("(" ++ wrS (.bin y a' b') ++ ")" : Str) = wrA (.bin y a' b') := by
                unfold wrA
                have lv : ∀ y ∈ ops5, (lvl y).getD 5 < 5 := by decide
                rw [if_pos (show levE (.bin y a' b') < 5 from lv y ho2)]
              refine ⟨_, rfl, _, rfl, D, _, _, _, rfl, rfl, SqL.of gD1, e4, _, _, rfl, rfl, by omega, _, _, rfl, rfl, by rw [app_len]; omega, ?_⟩
              rw [ewr]
              have hx2 : ixN ((Ls i).map V.str).length (0 + (i : Int)) = some i := by
                have hi2 : i = 0 ∨ i = 1 := by
                  have : i < 2 := hi
                  omega
                rw [eLs]
                rcases hi2 with rfl | rfl <;> rfl
              have hHD : H D = none := s_p.free hD
              refine ⟨_, rfl, _, rfl, D, _, _, i, rfl, rfl, gD1, hx2, ?_⟩
              exact ⟨_, _, rfl, by rw [← e3, List.map_set]; exact upd_same, sqT_extT (.lst gD1) gS1, extT_de (e := a) (.lst gD1) ga1, extT_de (e := b) (.lst gD1) gb1, fun b o eb => (upd_ne (ne_of_none eb hHD)).trans (sG1 _ _ eb)⟩
        · rintro σ G ⟨v2, v3, rfl, gD, gS, ga, gb, sG⟩
          have hA := (hl a List.mem_cons_self).2
          have hB := (hl b (List.mem_cons_of_mem _ List.mem_cons_self)).2
          have hxl : x.length = 1 := by
            have : ∀ x ∈ ops5, x.length = 1 := by decide
            exact this x ho
          have gD2 : G D = some (.lst [.str (wrA a), .str (wrA b)]) := by rw [eLs] at gD; exact gD
          refine ⟨_, rfl, D, _, 0, _, rfl, rfl, SqL.of gD2, rfl, _, rfl, _, _, 0, _, rfl, rfl, gS, rfl, _, _, rfl, rfl, by omega, _, rfl, D, _, 1, _, rfl, rfl, SqL.of gD2, rfl, _, _, rfl, rfl, by rw [app_len]; omega, ?_⟩
          rw [wrS_op ho]
          exact k G sG
theorem sc_l_bent : FnScope ["_law_bag_here", "_law_text", "_law_at", "_law_way", "_law_sign", "_law_pair"] ["_law_bag_here", "_law_text"] (defScope s_l_bent) := ⟨rfl, rfl, rfl, by decide +kernel, rfl, by decide +kernel, by decide +kernel⟩
theorem ok_l_bent {f : Addr} {fd : FuncData} (F : Fun K "_law_bent" "_law_bent" s_l_bent f fd) (T : Txt K mg C_Reader C_BadRow)
    (D_l_take : Fn P w K mg base 1 "_law_take" ["_law_bag_here", "_law_many"] spTake)
    : FnOk P w K mg base CX0 (2) f fd ["_law_bag_here", "_law_text"] spBentC := by
  refine F.ok sc_l_bent (fun vs H Q E h => ?_) (fun cdv A outer s H vs Q E hr h => ?_)
  · obtain ⟨_, _, _, rfl, _⟩ := h; rfl
  · obtain ⟨a, x, n, rfl, hb, hn, hx, hg, k⟩ := h
    have hu := hu_of hr
    have hu64 := hr.units
    refine ⟨_, (pss_cons (ps_par (i := 2) (j := 3) (by rfl) sc_l_bent.nd rfl rfl (by decide) rfl rfl (pa_cons (pe_fn D_l_take (hr.mono (by decide)) rfl (pa_cons (pv 0) (pa_cons (pe_op op_add (pe_callB call_len_str (by rfl) T.n_len PySem.boot_len (pa_cons (pv 1) pa_nil)) pe_int) pa_nil))) (pa_cons (pe_fn D_l_take (hr.mono (by decide)) rfl (pa_cons (pv 0) (pa_cons pe_int pa_nil))) pa_nil)) (by rfl))
  (pss_cons (ps_set (i := 4) sc_l_bent.nd rfl (Or.inl rfl) (pe_ix ix_str pe_str (pe_fn D_l_take (hr.mono (by decide)) rfl (pa_cons (pv 0) (pa_cons pe_int pa_nil))) (fun _ _ => rfl)))
  (pss_cons (ps_if (pt_cmpR op_lt (pv 3) pe_int (nomark _))
    (pss_one (ps_ret (pe_op op_add_str (pe_op op_add_str (pe_slice sl_str (pv 1) po_none (po_some (pv 2))) (pv 4)) (pe_slice sl_str (pv 1) (po_some (pv 2)) po_none))))
    pss_nil)
  (pss_cons (ps_if (pt_cmpR op_eq (pv 3) pe_int (nomark _))
    (pss_one (ps_ret (pe_op op_add_str (pe_slice sl_str (pv 1) po_none (po_some (pv 2))) (pe_slice sl_str (pv 1) (po_some (pe_op op_add (pv 2) pe_int)) po_none))))
    pss_nil)
  (pss_cons (ps_if (pt_cmpR op_eq (pv 3) pe_int (nomark _))
    (pss_one (ps_ret (pe_op op_add_str (pe_op op_add_str (pe_slice sl_str (pv 1) po_none (po_some (pv 2))) (pv 4)) (pe_slice sl_str (pv 1) (po_some (pe_op op_add (pv 2) pe_int)) po_none))))
    pss_nil)
  (pss_cons (ps_if (pt_cmpR op_eq (pv 3) pe_int (nomark _))
    (pss_cons (ps_set (i := 5) sc_l_bent.nd rfl (Or.inl rfl) (pe_slice sl_str (pv 1) (po_some (pv 2)) (po_some (pe_op op_add (pv 2) pe_int))))
      (pss_one (ps_ret (pe_op op_add_str (pe_op op_add_str (pe_slice sl_str (pv 1) po_none (po_some (pv 2))) (pe_revS (pv 5))) (pe_slice sl_str (pv 1) (po_some (pe_op op_add (pv 2) pe_int)) po_none)))))
    pss_nil)
  (pss_one (ps_ret (pe_op op_add_str (pe_slice sl_str (pv 1) (po_some (pv 2)) po_none) (pe_slice sl_str (pv 1) po_none (po_some (pv 2)))))))))))), ?_⟩
    have sz : sizeLine = 16777216 := sizeLine_eq
    refine ⟨_, rfl, _, rfl, x, rfl, by omega, _, 1, rfl, rfl, a, (x.length : Int) + 1, n, rfl, hb, by omega, by omega, by omega, fun u H1 u0 u1 bt1 bag1 => ?_⟩
    refine ⟨_, rfl, a, 6, n + 1, rfl, bag1, by omega, by decide, by decide, fun w2 H2 w0 w1 bt2 bag2 => ?_⟩
    refine ⟨_, _, rfl, ?_⟩
    refine ⟨_, rfl, a, 21, n + 2, rfl, bag2, by omega, by decide, by decide, fun r H3 r0 r1 bt3 bag3 => ?_⟩
    obtain ⟨j, rfl, hj⟩ : ∃ j : Nat, u = (j : Int) ∧ j ≤ x.length := ⟨u.toNat, by omega, by omega⟩
    obtain ⟨i, rfl, hi⟩ : ∃ i : Nat, r = (i : Int) ∧ i < 21 := ⟨r.toNat, by omega, by omega⟩
    have ex : Ext a H H3 := fun b o nb eb => (bt3 b nb).trans ((bt2 b nb).trans ((bt1 b nb).trans eb))
    have lit : ("abkz(),|^&-@= \nA1_.[+" : Str).cps.toList = [97, 98, 107, 122, 40, 41, 44, 124, 94, 38, 45, 64, 61, 32, 10, 65, 49, 95, 46, 91, 43] := by decide +kernel
    obtain ⟨cs, ecs, hcs⟩ : ∃ cs, ([97, 98, 107, 122, 40, 41, 44, 124, 94, 38, 45, 64, 61, 32, 10, 65, 49, 95, 46, 91, 43] : List Nat)[i]? = some cs ∧ cs < 128 := by
      have : ∀ i, i < 21 → ∃ cs, ([97, 98, 107, 122, 40, 41, 44, 124, 94, 38, 45, 64, 61, 32, 10, 65, 49, 95, 46, 91, 43] : List Nat)[i]? = some cs ∧ cs < 128 := by
        intro i hi
        have h1 : i < ([97, 98, 107, 122, 40, 41, 44, 124, 94, 38, 45, 64, 61, 32, 10, 65, 49, 95, 46, 91, 43] : List Nat).length := hi
        refine ⟨_, List.getElem?_eq_getElem h1, ?_⟩
        have all : ∀ c ∈ ([97, 98, 107, 122, 40, 41, 44, 124, 94, 38, 45, 64, 61, 32, 10, 65, 49, 95, 46, 91, 43] : List Nat), c < 128 := by decide
        exact all _ (List.getElem_mem h1)
      exact this i hi
    refine ⟨_, _, cs, rfl, rfl, by rw [sz]; decide, by rw [lit]; exact at_natA ecs, ?_⟩
    have l1 : (⟨#[cs]⟩ : Str).length = 1 := rfl
    have A := cl_to x j
    have B := cl_from x j
    have B1 := cl_from x (j + 1)
    have B2 := cl_from x (j + 2)
    have M2 := cl_mid x j (j + 2)
    have j1 : ((j : Int) + 1) = ((j + 1 : Nat) : Int) := by omega
    have j2 : ((j : Int) + 2) = ((j + 2 : Nat) : Int) := by omega
    have ls : letters (⟨#[cs]⟩ : Str) = [cs] := rfl
    have C0 := cB_cut (letters x) j
    have C1 := cB_one cs
    have C2 := cB_drop (letters x) j
    have C3 := cB_drop2 (letters x) j
    have gA : ∀ lo hi, ∀ c ∈ letters (cutS x lo hi), c < 128 := fun lo hi c hc => hg c (cutS_mem hc)
    have gs : ∀ c ∈ letters (⟨#[cs]⟩ : Str), c < 128 := fun c hc => by
      have : c = cs := by simpa using hc
      rw [this]; exact hcs
    have ga : ∀ {y z : Str}, (∀ c ∈ letters y, c < 128) → (∀ c ∈ letters z, c < 128) → ∀ c ∈ letters (y ++ z), c < 128 := fun {y z} h1 h2 c hc => by
      rw [let_app] at hc
      rcases List.mem_append.mp hc with q | q
      · exact h1 c q
      · exact h2 c q
    refine ⟨_, rfl, _, 2, rfl, rfl, _, rfl, ?_⟩
    by_cases q1 : w2 < 2
    · refine iteTS (decide_eq_true q1) ?_
      refine ⟨_, rfl, _, rfl, _, rfl, x, rfl, by omega, _, rfl, _, _, rfl, rfl, by omega, _, rfl, _, rfl, _, rfl, x, rfl, by omega, _, _, rfl, rfl, by rw [app_len]; omega, ?_⟩
      exact k _ H3 (n + 3) (by rw [app_len, app_len, A, B, l1]; omega) (ga (ga (gA _ _) gs) (gA _ _)) (by rw [let_app, let_app, cB_app, cB_app, lt_to, lt_from, ls]; omega) (Nat.le_refl _) bag3 ex
    refine iteFS (decide_eq_false q1) ?_
    refine ⟨_, rfl, rfl, _, rfl, ?_⟩
    by_cases q2 : w2 = 2
    · refine iteTS (decide_eq_true (by rw [q2])) ?_
      refine ⟨_, rfl, _, rfl, _, rfl, x, rfl, by omega, _, rfl, _, rfl, _, 1, rfl, rfl, _, rfl, x, rfl, by omega, _, _, rfl, rfl, by rw [j1]; omega, ?_⟩
      exact k _ H3 (n + 3) (by rw [app_len, j1, A, B1]; omega) (ga (gA _ _) (gA _ _)) (by rw [let_app, cB_app, j1, lt_to, lt_from]; omega) (Nat.le_refl _) bag3 ex
    refine iteFS (decide_eq_false fun z => q2 (by injection z)) ?_
    refine ⟨_, rfl, rfl, _, rfl, ?_⟩
    by_cases q3 : w2 = 3
    · refine iteTS (decide_eq_true (by rw [q3])) ?_
      refine ⟨_, rfl, _, rfl, _, rfl, x, rfl, by omega, _, rfl, _, _, rfl, rfl, by omega, _, rfl, _, rfl, _, 1, rfl, rfl, _, rfl, x, rfl, by omega, _, _, rfl, rfl, by rw [j1, app_len]; omega, ?_⟩
      exact k _ H3 (n + 3) (by rw [app_len, app_len, j1, A, B1, l1]; omega) (ga (ga (gA _ _) gs) (gA _ _)) (by rw [let_app, let_app, cB_app, cB_app, j1, lt_to, lt_from, ls]; omega) (Nat.le_refl _) bag3 ex
    refine iteFS (decide_eq_false fun z => q3 (by injection z)) ?_
    refine ⟨_, rfl, rfl, _, rfl, ?_⟩
    by_cases q4 : w2 = 4
    · refine iteTS (decide_eq_true (by rw [q4])) ?_
      refine ⟨_, rfl, _, rfl, _, rfl, _, rfl, _, 2, rfl, rfl, _, rfl, x, rfl, by omega, ?_⟩
      rw [j2]
      have R := revS_len (z := cutS x (some (j : Int)) (some ((j + 2 : Nat) : Int))) (by omega)
      refine ⟨_, rfl, _, rfl, _, rfl, x, rfl, by omega, _, rfl, _, rfl, by omega, _, _, rfl, rfl, by omega, _, rfl, _, rfl, _, 2, rfl, rfl, _, rfl, x, rfl, by omega, _, _, rfl, rfl, by rw [j2, app_len]; omega, ?_⟩
      exact k _ H3 (n + 3) (by rw [app_len, app_len, j2, A, B2]; omega) (ga (ga (gA _ _) fun c hc => gA _ _ c (revS_mem hc)) (gA _ _)) (by
        have m := cB_rev (z := cutS x (some (j : Int)) (some ((j + 2 : Nat) : Int))) (by omega)
        rw [lt_mid x j hj] at m
        rw [let_app, let_app, cB_app, cB_app, j2, lt_to, lt_from]
        omega) (Nat.le_refl _) bag3 ex
    refine iteFS (decide_eq_false fun z => q4 (by injection z)) ?_
    refine ⟨_, rfl, _, rfl, _, rfl, x, rfl, by omega, _, rfl, _, rfl, _, rfl, x, rfl, by omega, _, _, rfl, rfl, by omega, ?_⟩
    exact k _ H3 (n + 3) (by rw [app_len, A, B]; omega) (ga (gA _ _) (gA _ _)) (by rw [let_app, cB_app, lt_to, lt_from]; omega) (Nat.le_refl _) bag3 ex
theorem sc_l_tokens : FnScope ["_law_text", "_law_found", "_law_word", "_law_k", "_law_sign", "_law_before"] ["_law_text"] (defScope s_l_tokens) := ⟨rfl, rfl, rfl, by decide +kernel, rfl, by decide +kernel, by decide +kernel⟩
theorem ok_l_tokens {f : Addr} {fd : FuncData} (F : Fun K "_law_tokens" "_law_tokens" s_l_tokens f fd) (T : Txt K mg C_Reader C_BadRow)
    : FnOk P w K mg base CX0 (1) f fd ["_law_text"] spTok := by
  refine F.ok sc_l_tokens (fun vs H Q E h => ?_) (fun cdv A outer s H vs Q E hr h => ?_)
  · obtain ⟨_, rfl, _⟩ := h; rfl
  · obtain ⟨x, rfl, hx, k⟩ := h
    have hu := hu_of hr
    have hu64 := hr.units
    refine ⟨_, (pss_cons (ps_par (i := 1) (j := 2) (by rfl) sc_l_tokens.nd rfl rfl (by decide) rfl rfl (pa_cons (pe_lst pa_nil) (pa_cons pe_str pa_nil)) (by rfl))
  (pss_cons (ps_for PassesOwn.never rfl (pi_range1 (by rfl) T.n_range (pa_cons (pe_callB call_len_str (by rfl) T.n_len PySem.boot_len (pa_cons (pv 0) pa_nil)) pa_nil)) (pg_name (i := 3) sc_l_tokens.nd rfl (Or.inl rfl))
    (pss_cons (ps_par (i := 4) (j := 5) (by rfl) sc_l_tokens.nd rfl rfl (by decide) rfl rfl (pa_cons (pe_ix ix_str (pv 0) (pv 3) (fun _ _ => rfl)) (pa_cons (pe_slice sl_str (pv 0) (po_some (pe_callB (call_max2 rfl) (by rfl) T.n_max (by decide +kernel) (pa_cons pe_int (pa_cons (pe_op op_sub (pv 3) pe_int) pa_nil)))) (po_some (pv 3))) pa_nil)) (by rfl))
      (pss_one (ps_if (pt_chain op_le_str op_le_str pe_str (pv 4) pe_str)
        (pss_one (ps_set (i := 2) sc_l_tokens.nd rfl (Or.inl rfl) (pe_op op_add_str (pv 2) (pv 4))))
        (pss_cons (ps_set (i := 1) sc_l_tokens.nd rfl (Or.inl rfl) (pe_op op_cat (pv 1) (pe_op op_rep (pe_lst (pa_cons (pv 2) pa_nil)) (pe_callTy call_int1 (by rfl) T.n_int (by decide +kernel) (pa_cons (pe_cmpR op_ne (pv 2) pe_str (nomark _)) pa_nil)))))
          (pss_cons (ps_set (i := 2) sc_l_tokens.nd rfl (Or.inl rfl) pe_str)
          (pss_one (ps_if (PW.pt (pw_and (pt_cmpR op_eq (pv 4) pe_str (nomark _)) (pw_and1 (pt_cmpR op_in_seq (pv 5) (pe_lst (pa_cons pe_str (pa_cons pe_str (pa_cons pe_str (pa_cons pe_str (pa_cons pe_str pa_nil)))))) (by rfl)))))
            (pss_one (ps_asg (pe_op op_add_str (pv 5) pe_str) (pg_sub (pv 1) (pe_op op_sub (pe_callB call_len_seq (by rfl) T.n_len PySem.boot_len (pa_cons (pv 1) pa_nil)) pe_int) set_list)))
            (pss_one (ps_if (pt_cmpR op_in_sign (pv 4) pe_str (by rfl))
                (pss_one (ps_expr (pe_bm PySem.F.plainAttrs_list PySem.F.slot_list_append PySem.F.type_list_append mt_append (pv 1) (pa_cons (pv 4) pa_nil))))
                (pss_one (ps_if (pt_cmpR op_ne (pv 4) pe_str (nomark _))
                    (pss_one (ps_ret pe_non))
                    pss_nil))))))))))))
  (pss_one (ps_ret (pe_op op_cat (pv 1) (pe_op op_rep (pe_lst (pa_cons (pv 2) pa_nil)) (pe_callTy call_int1 (by rfl) T.n_int (by decide +kernel) (pa_cons (pe_cmpR op_ne (pv 2) pe_str (nomark _)) pa_nil)))))))), ?_⟩
    have sz : sizeLine = 16777216 := sizeLine_eq
    have hLl : (letters x).length = x.length := Array.length_toList
    refine ⟨size_ok (by simp), fun p0 hp0 => ?_⟩
    generalize e_p0 : upd H p0 _ = H1
    have s_p0 := new_same e_p0 hp0
    have h_p0 := new_at e_p0
    refine ⟨_, _, rfl, _, rfl, x, rfl, by omega, ?_⟩
    refine ⟨_, rfl, by omega, by omega, ?_⟩
    refine for_range (lo := 0) (fun i σ G => ∃ (p : Addr) (wS : Str) (v3 v4 v5 : Option V) (pv : Option Nat) (f : List Str), σ = [some (.str x), some (.ref p), some (.str wS), v3, v4, v5] ∧ G p = some (.lst (f.map V.str)) ∧ H p = none ∧ ltk (letters x) none [] [] = ltk ((letters x).drop i) pv f (letters wS) ∧
      (pv = none ∧ i = 0 ∨ ∃ c, pv = some c ∧ 1 ≤ i ∧ (letters x)[i - 1]? = some c) ∧ ((∃ p, pv = some p ∧ p ∈ opC) → f ≠ [] ∧ letters wS = []) ∧ f.length ≤ 2 * i ∧ wS.length ≤ i ∧ Same H G) ⟨p0, "", _, _, _, none, [], rfl, h_p0, hp0, rfl, .inl ⟨rfl, rfl⟩, (fun ⟨p, z, _⟩ => by cases z), by simp, by decide, s_p0⟩ ?_ ?_
    · rintro i σ G hi ⟨p, wS, v3, v4, v5, pv, f, rfl, gp, hHp, hlt, hpv, hop, hfl, hwl, sG⟩
      have hi2 : i < (letters x).length := by omega
      obtain ⟨c, ec⟩ : ∃ c, (letters x)[i]? = some c := ⟨_, List.getElem?_eq_getElem hi2⟩
      have e1 : atI x.cps.toList (0 + (i : Int)) = some c := by
        rw [Int.zero_add]
        exact at_natA ec
      have edr : (letters x).drop i = c :: (letters x).drop (i + 1) := by
        obtain ⟨h1, h2⟩ := List.getElem?_eq_some_iff.mp ec
        rw [← h2]
        exact List.drop_eq_getElem_cons h1
      rw [edr] at hlt
      have hx2 : wS.length ≤ 400 := by omega
      have cbef : cutS x (some (if (0 + (i : Int)) - 1 > 0 then (0 + (i : Int)) - 1 else 0)) (some (0 + (i : Int))) = ofL (((letters x).drop (i - 1)).take (i - (i - 1))) := by
        rw [Int.zero_add, max0, cut_before (by omega)]
      have ebef : ofL (((letters x).drop (i - 1)).take (i - (i - 1))) = befS pv := by
        rcases hpv with ⟨rfl, rfl⟩ | ⟨c2, rfl, h1, h2⟩
        · exact TL.ext_tl (by show ((letters x).drop 0).take 0 = _; rw [List.take_zero]; rfl)
        · refine TL.ext_tl ?_
          show ((letters x).drop (i - 1)).take (i - (i - 1)) = [c2]
          obtain ⟨g1, g2⟩ := List.getElem?_eq_some_iff.mp h2
          rw [show i - (i - 1) = 1 by omega, List.drop_eq_getElem_cons g1, g2]
          rfl
      rw [ebef] at cbef
      refine ⟨_, rfl, _, rfl, x, _, c, rfl, rfl, by omega, e1, _, rfl, _, rfl, _, 1, rfl, rfl, 0, _, rfl, _, rfl, _, rfl, _, rfl, x, rfl, by omega, ?_⟩
      rw [cbef]
      refine ⟨_, _, rfl, ?_⟩
      refine chain_az (c := c) rfl ?_
      by_cases haz : 97 ≤ c ∧ c ≤ 122
      · refine iteTS (decide_eq_true haz) ?_
        have l1 : (⟨#[c]⟩ : Str).length = 1 := rfl
        refine ⟨_, rfl, _, rfl, _, _, rfl, rfl, by omega, ?_⟩
        refine ⟨p, wS ++ ⟨#[c]⟩, _, _, _, some c, f, rfl, gp, hHp, ?_, .inr ⟨c, rfl, by omega, ec⟩, fun ⟨p2, z, m⟩ => ?_, by omega, by rw [app_len, l1]; omega, sG⟩
        · rw [hlt, let_app]
          conv => lhs; unfold ltk
          rw [if_pos haz]
        · cases z
          exact absurd haz (opC_no m)
      have hltE : ltk (c :: (letters x).drop (i + 1)) pv f (letters wS) = (if c = 61 ∧ (∃ p, pv = some p ∧ p ∈ opC) then ltk ((letters x).drop (i + 1)) (some c) ((f ++ cutW (letters wS)).set ((f ++ cutW (letters wS)).length - 1) (ofL [pv.getD 0, 61])) []
        else if c ∈ [40, 41, 61, 44, 124, 94, 38, 45, 64] then ltk ((letters x).drop (i + 1)) (some c) (f ++ cutW (letters wS) ++ [ofL [c]]) []
        else if c ≠ 32 then none
        else ltk ((letters x).drop (i + 1)) (some c) (f ++ cutW (letters wS)) []) := by
        conv => lhs; unfold ltk
        rw [if_neg haz]
      rw [hltE] at hlt
      refine iteFS (decide_eq_false haz) ?_
      refine cat_word (p := p) (f := f) (wS := wS) rfl rfl gp (by omega) fun q G1 s1 hq gq => ?_
      have nw : H q = none := by
        cases z : H q with
        | none => rfl
        | some o => rw [sG _ _ z] at hq; cases hq
      have sG1 := sG.trans s1
      have c1 : (cutW (letters wS)).length ≤ 1 := by unfold cutW; split <;> simp
      generalize hfw : f ++ cutW (letters wS) = fw at gq hlt ⊢
      have lfw : fw.length ≤ 2 * i + 1 := by rw [← hfw, List.length_append]; omega
      refine ⟨_, rfl, rfl, _, rfl, ?_⟩
      rw [one_eq c 61 "=" (by decide +kernel)]
      by_cases h61 : c = 61
      · refine iteTS (decide_eq_true h61) ?_
        refine ⟨_, rfl, size_ok (by simp), fun q2 hq2 => ?_⟩
        generalize e_q2 : upd G1 q2 _ = G2
        have s_q2 := new_same e_q2 hq2
        have h_q2 := new_at e_q2
        have gq2 := s_q2 _ _ gq
        have sG2 := sG1.trans s_q2
        refine ⟨q2, _, rfl, .inl (SqL.of h_q2), rfl, rfl, _, rfl, ?_⟩
        show if inV (V.str (befS pv)) [V.str "|", .str "^", .str "&", .str "-", .str "@"] = true then _ else _
        by_cases hbf : ∃ p, pv = some p ∧ p ∈ opC
        · refine iteTS ((bef_in pv).mpr hbf) ?_
          rw [if_pos ⟨h61, hbf⟩] at hlt
          obtain ⟨fne, wne⟩ := hop hbf
          obtain ⟨p2, rfl, hp2⟩ := hbf
          have fwf : fw = f := by rw [← hfw, wne]; show f ++ [] = f; rw [List.append_nil]
          have fpos : 0 < fw.length := by
            rw [fwf]
            cases f with
            | nil => exact absurd rfl fne
            | cons _ _ => simp
          have lb : (befS (some p2)).length = 1 := rfl
          have le : ("=" : Str).length = 1 := rfl
          have enew : (befS (some p2) ++ "=" : Str) = ofL [p2, 61] := TL.ext_tl (by rw [TL.tl_append]; rfl)
          have lm : (fw.map V.str).length = fw.length := List.length_map ..
          have hix : ixN (fw.map V.str).length (((fw.map V.str).length : Int) - 1) = some (fw.length - 1) := by
            rw [lm]
            unfold ixN
            rw [if_pos (by omega), if_pos (by omega)]
            congr 1
            omega
          refine ⟨_, rfl, _, _, rfl, rfl, by omega, ?_⟩
          rw [enew]
          refine ⟨_, rfl, _, rfl, q, _, rfl, .inl (SqL.of gq2), _, 1, rfl, rfl, q, _, _, fw.length - 1, rfl, rfl, gq2, hix, ?_⟩
          refine ⟨q, "", _, _, _, some c, fw.set (fw.length - 1) (ofL [p2, 61]), rfl, by rw [upd_same, List.map_set], nw, hlt, .inr ⟨c, rfl, by omega, ec⟩, (fun ⟨p3, z, m⟩ => by cases z; rw [h61] at m; exact absurd m (by decide)), by rw [List.length_set]; omega, Nat.zero_le _, fun b o eb => (upd_ne (ne_of_none eb nw)).trans (sG2 _ _ eb)⟩
        refine iteFS (by
          cases z : inV (V.str (befS pv)) [V.str "|", .str "^", .str "&", .str "-", .str "@"] with
          | false => rfl
          | true => exact absurd ((bef_in pv).mp z) hbf) ?_
        rw [if_neg (fun z => hbf z.2)] at hlt
        refine ⟨_, rfl, c, "()=,|^&-@", rfl, rfl, _, rfl, ?_⟩
        have ez : ("()=,|^&-@" : Str).cps.toList = [40, 41, 61, 44, 124, 94, 38, 45, 64] := by decide +kernel
        rw [ez]
        by_cases hin : c ∈ [40, 41, 61, 44, 124, 94, 38, 45, 64]
        · rw [if_pos hin] at hlt
          refine iteTS (decide_eq_true hin) ?_
          refine ⟨_, rfl, .inl ⟨rfl, _, SqL.of gq2⟩, _, rfl, q, _, _, rfl, rfl, gq2, by rw [List.length_map]; omega, ?_⟩
          refine ⟨q, "", _, _, _, some c, fw ++ [ofL [c]], rfl, ?_, nw, hlt, .inr ⟨c, rfl, by omega, ec⟩, fun _ => ⟨by simp, rfl⟩, ?_, Nat.zero_le _, fun b o eb => (upd_ne (ne_of_none eb nw)).trans (sG2 _ _ eb)⟩
          · rw [upd_same, List.map_append]; rfl
          · rw [List.length_append]; show fw.length + 1 ≤ _; omega
        rw [if_neg hin] at hlt
        refine iteFS (decide_eq_false hin) ?_
        refine ⟨_, rfl, rfl, _, rfl, ?_⟩
        rw [one_eq c 32 " " (by decide +kernel)]
        by_cases h32 : c = 32
        · rw [if_neg fun z => z h32] at hlt
          refine iteFS (by rw [decide_eq_true h32]; rfl) ?_
          exact ⟨q, "", _, _, _, some c, fw, rfl, gq2, nw, hlt, .inr ⟨c, rfl, by omega, ec⟩, (fun ⟨p2, z, m⟩ => by cases z; rw [h32] at m; exact absurd m (by decide)), by omega, Nat.zero_le _, sG2⟩
        · rw [if_pos h32] at hlt
          refine iteTS (by rw [decide_eq_false h32]; rfl) ?_
          exact k .non _ sG2 (by rw [hlt])
      refine iteFS (decide_eq_false h61) (iteFS rfl ?_)
      rw [if_neg (fun z => h61 z.1)] at hlt
      refine ⟨_, rfl, c, "()=,|^&-@", rfl, rfl, _, rfl, ?_⟩
      have ez : ("()=,|^&-@" : Str).cps.toList = [40, 41, 61, 44, 124, 94, 38, 45, 64] := by decide +kernel
      rw [ez]
      by_cases hin : c ∈ [40, 41, 61, 44, 124, 94, 38, 45, 64]
      · rw [if_pos hin] at hlt
        refine iteTS (decide_eq_true hin) ?_
        refine ⟨_, rfl, .inl ⟨rfl, _, SqL.of gq⟩, _, rfl, q, _, _, rfl, rfl, gq, by rw [List.length_map]; omega, ?_⟩
        refine ⟨q, "", _, _, _, some c, fw ++ [ofL [c]], rfl, ?_, nw, hlt, .inr ⟨c, rfl, by omega, ec⟩, fun _ => ⟨by simp, rfl⟩, ?_, Nat.zero_le _, fun b o eb => (upd_ne (ne_of_none eb nw)).trans (sG1 _ _ eb)⟩
        · rw [upd_same, List.map_append]; rfl
        · rw [List.length_append]; show fw.length + 1 ≤ _; omega
      rw [if_neg hin] at hlt
      refine iteFS (decide_eq_false hin) ?_
      refine ⟨_, rfl, rfl, _, rfl, ?_⟩
      rw [one_eq c 32 " " (by decide +kernel)]
      by_cases h32 : c = 32
      · rw [if_neg fun z => z h32] at hlt
        refine iteFS (by rw [decide_eq_true h32]; rfl) ?_
        exact ⟨q, "", _, _, _, some c, fw, rfl, gq, nw, hlt, .inr ⟨c, rfl, by omega, ec⟩, (fun ⟨p2, z, m⟩ => by cases z; rw [h32] at m; exact absurd m (by decide)), by omega, Nat.zero_le _, sG1⟩
      · rw [if_pos h32] at hlt
        refine iteTS (by rw [decide_eq_false h32]; rfl) ?_
        exact k .non _ sG1 (by rw [hlt])
    · rintro σ G ⟨p, wS, v3, v4, v5, pv, f, rfl, gp, hHp, hlt, hpv, hop, hfl, hwl, sG⟩
      have hlt : ltk (letters x) none [] [] = ltk ((letters x).drop x.length) pv f (letters wS) := hlt
      rw [← hLl, List.drop_length] at hlt
      refine cat_word (p := p) (f := f) (wS := wS) rfl rfl gp (by have : f.length ≤ 2 * x.length := hfl; omega) fun q G' s hq gq => ?_
      refine k _ G' (sG.trans s) ?_
      rw [hlt]
      exact ⟨q, rfl, gq⟩
theorem sc_l_is_name : FnScope ["_law_word"] ["_law_word"] (defScope s_l_is_name) := ⟨rfl, rfl, rfl, by decide +kernel, rfl, by decide +kernel, by decide +kernel⟩
theorem ok_l_is_name {f : Addr} {fd : FuncData} (F : Fun K "_law_is_name" "_law_is_name" s_l_is_name f fd) (T : Txt K mg C_Reader C_BadRow)
    : FnOk P w K mg base CX0 (1) f fd ["_law_word"] spNam := by
  refine F.ok sc_l_is_name (fun vs H Q E h => ?_) (fun cdv A outer s H vs Q E hr h => ?_)
  · obtain ⟨_, rfl, _⟩ := h; rfl
  · obtain ⟨t, rfl, hl, k⟩ := h
    have hu := hu_of hr
    have hu64 := hr.units
    refine ⟨_, (pss_cons (ps_if (PW.pt (pw_or (pt_cmpR op_notIn_seq (pe_callB call_len_str (by rfl) T.n_len PySem.boot_len (pa_cons (pv 0) pa_nil)) (pe_lst (pa_cons pe_int (pa_cons pe_int (pa_cons pe_int (pa_cons pe_int pa_nil))))) (by rfl)) (pw_or1 (pt_cmpR op_in_seq (pv 0) (pe_lst (pa_cons pe_str (pa_cons pe_str (pa_cons pe_str pa_nil)))) (by rfl)))))
    (pss_one (ps_ret pe_bl))
    pss_nil)
  (pss_one (ps_ret (pe_chain op_le_str op_le_str pe_str (pe_ix ix_str (pv 0) pe_int (fun _ _ => rfl)) pe_str)))), ?_⟩
    have sz : sizeLine = 16777216 := sizeLine_eq
    refine ⟨_, rfl, t, rfl, by omega, size_ok (by simp), fun q hq => ?_⟩
    generalize e_q : upd H q _ = H1
    have s_q := new_same e_q hq
    have h_q := new_at e_q
    refine ⟨q, _, rfl, .inl (SqL.of h_q), rfl, rfl, _, rfl, ?_⟩
    show if (!inV (V.int (t.length : Int)) [V.int 1, .int 2, .int 3, .int 4]) = true then _ else _
    rw [in_len]
    cases h1 : (decide (t.length = 1) || decide (t.length = 2) || decide (t.length = 3) || decide (t.length = 4)) with
    | false =>
      refine iteT (iteT ?_)
      have e : nameL t = false := by unfold nameL; rw [h1]; rfl
      have := k H1 s_q
      rw [e] at this
      exact this
    | true =>
      refine iteFS rfl ?_
      refine ⟨_, rfl, size_ok (by simp), fun q2 hq2 => ?_⟩
      generalize e_q2 : upd H1 q2 _ = H2
      have s_q2 := new_same e_q2 hq2
      have h_q2 := new_at e_q2
      refine ⟨q2, _, rfl, .inl (SqL.of h_q2), rfl, rfl, _, rfl, ?_⟩
      show if inV (V.str t) [V.str "keys", .str "look", .str "self"] = true then _ else _
      rw [in_kls]
      cases h2 : (decide (t = "keys") || decide (t = "look") || decide (t = "self")) with
      | true =>
        refine iteT ?_
        have e : nameL t = false := by unfold nameL; rw [h1, h2]; rfl
        have := k H2 (s_q.trans s_q2)
        rw [e] at this
        exact this
      | false =>
        refine iteFS rfl ?_
        have hlen : (letters t).length = t.length := Array.length_toList
        have pos : 0 < t.length := by
          rcases Nat.eq_zero_or_pos t.length with z | z
          · rw [z] at h1; exact absurd h1 (by decide)
          · exact z
        obtain ⟨c, r, ec⟩ : ∃ c r, letters t = c :: r := by
          cases q : letters t with
          | nil => rw [q] at hlen; simp at hlen; omega
          | cons c r => exact ⟨c, r, rfl⟩
        have e0 : atI t.cps.toList 0 = some c := at_natA (i := 0) (show (letters t)[0]? = some c by rw [ec]; rfl)
        have en : nameL t = (decide (97 ≤ c) && decide (c ≤ 122)) := by
          unfold nameL
          rw [h1, h2, ec]
          show (true && !false && decide (97 ≤ c ∧ c ≤ 122)) = _
          rw [Bool.decide_and]
          rfl
        have kk := k H2 (s_q.trans s_q2)
        rw [en] at kk
        refine ⟨_, rfl, t, 0, c, rfl, rfl, by omega, e0, "a", _, rfl, rfl, _, rfl, ?_⟩
        rw [(le_az c).1]
        cases g : decide (97 ≤ c) with
        | true =>
          rw [g] at kk
          refine iteT ⟨_, "z", rfl, rfl, ?_⟩
          rw [(le_az c).2]
          exact kk
        | false =>
          rw [g] at kk
          refine iteFS rfl ?_
          exact kk
theorem sc_l_last : FnScope ["_law_tokens_here", "_law_depth", "_law_best", "_law_level", "_law_k", "_law_token", "_law_own"] ["_law_tokens_here"] (defScope s_l_last) := ⟨rfl, rfl, rfl, by decide +kernel, rfl, by decide +kernel, by decide +kernel⟩
theorem ok_l_last {f : Addr} {fd : FuncData} (F : Fun K "_law_last" "_law_last" s_l_last f fd) (T : Txt K mg C_Reader C_BadRow)
    : FnOk P w K mg base CX0 (1) f fd ["_law_tokens_here"] spLast := by
  refine F.ok sc_l_last (fun vs H Q E h => ?_) (fun cdv A outer s H vs Q E hr h => ?_)
  · obtain ⟨_, _, rfl, _⟩ := h; rfl
  · obtain ⟨p, ts, rfl, hp, hl, hl2, k⟩ := h
    have hu := hu_of hr
    have hu64 := hr.units
    refine ⟨_, (pss_cons (ps_asg (pe_tup (pa_cons pe_int (pa_cons (pe_un un_neg pe_int) (pa_cons pe_int pa_nil)))) (pg_tup rfl (pgs_cons (pg_name (i := 1) sc_l_last.nd rfl (Or.inl rfl)) (pgs_cons (pg_name (i := 2) sc_l_last.nd rfl (Or.inl rfl)) (pgs_cons (pg_name (i := 3) sc_l_last.nd rfl (Or.inl rfl)) pgs_nil)))))
  (pss_cons (ps_for PassesOwn.never rfl (pi_range1 (by rfl) T.n_range (pa_cons (pe_callB call_len_seq (by rfl) T.n_len PySem.boot_len (pa_cons (pv 0) pa_nil)) pa_nil)) (pg_name (i := 4) sc_l_last.nd rfl (Or.inl rfl))
    (pss_cons (ps_set (i := 5) sc_l_last.nd rfl (Or.inl rfl) (pe_ix ix_list (pv 0) (pv 4) (fun _ _ => rfl)))
      (pss_cons (ps_set (i := 1) sc_l_last.nd rfl (Or.inl rfl) (pe_op op_sub (pe_op op_add (pv 1) (pe_callTy call_int1 (by rfl) T.n_int (by decide +kernel) (pa_cons (pe_cmpR op_eq (pv 5) pe_str (nomark _)) pa_nil))) (pe_callTy call_int1 (by rfl) T.n_int (by decide +kernel) (pa_cons (pe_cmpR op_eq (pv 5) pe_str (nomark _)) pa_nil))))
      (pss_cons (ps_if (PW.pt (pw_or (pt_cmpR op_lt (pv 1) pe_int (nomark _)) (pw_or1 (pt_cmpR op_gt (pv 1) pe_int (nomark _)))))
        (pss_one (ps_ret pe_non))
        pss_nil)
      (pss_one (ps_if (PW.pt (pw_and (pt_cmpR op_eq (pv 1) pe_int (nomark _)) (pw_and1 (pt_cmpR op_in_seq (pv 5) (pe_lst (pa_cons pe_str (pa_cons pe_str (pa_cons pe_str (pa_cons pe_str (pa_cons pe_str pa_nil)))))) (by rfl)))))
        (pss_cons (ps_set (i := 6) sc_l_last.nd rfl (Or.inl rfl) (pe_bm PySem.F.plainAttrs_list PySem.F.slot_list_index PySem.F.type_list_index mt_index (pe_lst (pa_cons pe_str (pa_cons pe_str (pa_cons pe_str (pa_cons pe_str (pa_cons pe_str pa_nil)))))) (pa_cons (pv 5) pa_nil)))
          (pss_one (ps_if (pt_cmpR op_le (pv 6) (pv 3) (nomark _))
            (pss_one (ps_par (i := 2) (j := 3) (by rfl) sc_l_last.nd rfl rfl (by decide) rfl rfl (pa_cons (pv 4) (pa_cons (pv 6) pa_nil)) (by rfl)))
            pss_nil)))
        pss_nil))))))
  (pss_one (ps_ret (pe_ifExp (pt_cmpR op_eq (pv 1) pe_int (nomark _)) (pv 2) pe_non))))), ?_⟩
    have sz : sizeLine = 16777216 := sizeLine_eq
    refine ⟨1, rfl, size_ok (by simp), fun q hq => ?_⟩
    generalize e_q : upd H q _ = H1
    have s_q := new_same e_q hq
    have h_q := new_at e_q
    refine ⟨q, _, rfl, .inl (.inl h_q), rfl, _, _, rfl, _, _, rfl, _, _, rfl, rfl, ?_⟩
    refine ⟨_, rfl, p, _, rfl, .inl (SqL.of (s_q _ _ hp)), ?_⟩
    refine ⟨_, rfl, by rw [List.length_map]; omega, by rw [List.length_map]; omega, ?_⟩
    refine for_range (lo := 0) (fun i σ G => ∃ (d b : Int) (l : Nat) (v4 v5 v6 : Option V), σ = [some (.ref p), some (.int d), some (.int b), some (.int (l : Int)), v4, v5, v6] ∧ scan (ts.take i) 0 0 (-1) 9 = some (d, b, l) ∧ Same H G) ⟨0, -1, 9, _, _, _, rfl, rfl, s_q⟩ ?_ ?_
    · rintro i σ G hi ⟨d, b, l, v4, v5, v6, rfl, hsc, sG⟩
      have hi2 : i < ts.length := by
        have : i < ((ts.map V.str).length : Int).toNat := by simpa using hi
        rw [List.length_map] at this
        omega
      obtain ⟨t, et⟩ : ∃ t, ts[i]? = some t := ⟨_, List.getElem?_eq_getElem hi2⟩
      have e1 : atI (ts.map V.str) (0 + (i : Int)) = some (.str t) := by
        rw [Int.zero_add]
        exact at_nat (by rw [List.getElem?_map, et]; rfl)
      have esplit : ts = ts.take i ++ t :: ts.drop (i + 1) := by
        obtain ⟨h1, h2⟩ := List.getElem?_eq_some_iff.mp et
        rw [← h2, ← List.drop_eq_getElem_cons h1, List.take_append_drop]
      have ltk1 : (ts.take i).length = i := by rw [List.length_take]; omega
      have bad : stp t i d b l = none → lastV ts = .non := fun z => by
        have : scan ts 0 0 (-1) 9 = none := by
          rw [esplit, scan_app, hsc]
          show scan (t :: ts.drop (i + 1)) (0 + (ts.take i).length) d b l = none
          rw [ltk1, Nat.zero_add, scan_cons, z]
          rfl
        unfold lastV lastM
        rw [this]
      have next : ∀ q, stp t i d b l = some q → scan (ts.take (i + 1)) 0 0 (-1) 9 = some q := fun q z => by
        rw [take_end et, scan_snoc, hsc]
        show stp t (0 + (ts.take i).length) d b l = some q
        rw [ltk1, Nat.zero_add, z]
      have es := stp_of (t := t) (k := i) (d := d) (b := b) (l := l) rfl rfl
      refine ⟨_, rfl, _, rfl, p, _, _, _, rfl, rfl, SqL.of (sG _ _ hp), e1, ?_⟩
      have i1 : (if decide (V.str t = V.str "(") = true then (1 : Int) else 0) = (if t = oP then 1 else 0) := by
        by_cases z : t = oP
        · rw [if_pos z, if_pos (decide_eq_true (congrArg V.str z))]
        · rw [if_neg z, if_neg]
          intro y
          exact z (by injection of_decide_eq_true y)
      have i2 : (if decide (V.str t = V.str ")") = true then (1 : Int) else 0) = (if t = cP then 1 else 0) := by
        by_cases z : t = cP
        · rw [if_pos z, if_pos (decide_eq_true (congrArg V.str z))]
        · rw [if_neg z, if_neg]
          intro y
          exact z (by injection of_decide_eq_true y)
      obtain ⟨d2, hd2⟩ : ∃ d2, d2 = d + (if t = oP then (1 : Int) else 0) - (if t = cP then (1 : Int) else 0) := ⟨_, rfl⟩
      rw [← hd2] at es
      have hx : (d + (if decide (V.str t = V.str "(") = true then (1 : Int) else 0)) - (if decide (V.str t = V.str ")") = true then (1 : Int) else 0) = d2 := by rw [i1, i2, hd2]
      refine ⟨_, rfl, _, rfl, rfl, .inr ⟨_, rfl, _, _, rfl, rfl, _, rfl, rfl, .inr ⟨_, rfl, rI0_to (v := V.int d2) (congrArg V.int hx) ?_⟩⟩⟩
      refine ⟨_, rfl, _, 0, rfl, rfl, _, rfl, ?_⟩
      by_cases n0 : d2 < 0
      · refine iteTS (decide_eq_true n0) (iteT ?_)
        have := k G sG
        rw [bad (by rw [es, if_pos (.inl n0)])] at this
        exact this
      refine iteFS (decide_eq_false n0) ?_
      refine ⟨_, rfl, _, 8, rfl, rfl, _, rfl, ?_⟩
      by_cases n8 : 8 < d2
      · refine iteTS (decide_eq_true n8) ?_
        have := k G sG
        rw [bad (by rw [es, if_pos (.inr n8)])] at this
        exact this
      refine iteFS (decide_eq_false n8) ?_
      rw [if_neg (by omega)] at es
      refine ⟨_, rfl, rfl, _, rfl, ?_⟩
      by_cases z0 : d2 = 0
      · refine iteTS (decide_eq_true (by rw [z0])) ?_
        refine ⟨_, rfl, size_ok (by simp), fun q2 hq2 => ?_⟩
        generalize e_q2 : upd G q2 _ = G1
        have s_q2 := new_same e_q2 hq2
        have h_q2 := new_at e_q2
        refine ⟨q2, _, rfl, .inl (SqL.of h_q2), rfl, rfl, _, rfl, ?_⟩
        show if inV (V.str t) [V.str "|", .str "^", .str "&", .str "-", .str "@"] = true then _ else _
        rw [inV_ops]
        cases hv : lvl t with
        | none =>
          rw [hv] at es
          refine iteFS rfl ?_
          exact ⟨d2, b, l, _, _, _, rfl, next _ es, sG.trans s_q2⟩
        | some j =>
          rw [hv] at es
          refine iteT ?_
          have hat := (lvl_at hv).2
          have hat2 : ∀ m : Nat, ([V.str "|", .str "^", .str "&", .str "-", .str "@"] : List V)[m]? = (ops5[m]?).map V.str := fun m => by
            rw [← List.getElem?_map]; rfl
          refine ⟨size_ok (by simp), fun q3 hq3 => ?_⟩
          generalize e_q3 : upd G1 q3 _ = G2
          have s_q3 := new_same e_q3 hq3
          have h_q3 := new_at e_q3
          refine ⟨.inl ⟨rfl, _, SqL.of h_q3⟩, _, rfl, q3, _, .str t, j, .str t, rfl, rfl, SqL.of h_q3, rfl, rfl, by rw [hat2, hat]; rfl, by show (t == t) = true; simp, fun m z' hm hz' => ?_, ?_⟩
          · rw [hat2] at hz'
            obtain ⟨w', e1, rfl⟩ := Option.map_eq_some_iff.mp hz'
            show (w' == t) = false
            refine beq_eq_false_iff_ne.mpr fun y => ?_
            have := ops5_inj hat (y ▸ e1)
            omega
          refine ⟨_, rfl, _, rfl, _, _, rfl, rfl, _, rfl, ?_⟩
          by_cases hjl : j ≤ l
          · refine iteTS (decide_eq_true (by omega)) ?_
            have es2 : stp t i d b l = some (d2, (i : Int), j) := es.trans (if_pos ⟨z0, hjl⟩)
            refine ⟨_, rfl, _, rfl, _, _, rfl, ?_⟩
            refine ⟨d2, 0 + (i : Int), j, _, _, _, rfl, ?_, (sG.trans s_q2).trans s_q3⟩
            rw [Int.zero_add]
            exact next _ es2
          · refine iteFS (decide_eq_false (by omega)) ?_
            have es2 : stp t i d b l = some (d2, b, l) := es.trans (if_neg fun y => hjl y.2)
            exact ⟨d2, b, l, _, _, _, rfl, next _ es2, (sG.trans s_q2).trans s_q3⟩
      · refine iteFS (decide_eq_false fun y => z0 (by injection y)) ?_
        refine iteFS rfl ?_
        have es2 : stp t i d b l = some (d2, b, l) := by
          rw [es]
          cases lvl t with
          | none => rfl
          | some j => exact if_neg fun y => z0 y.1
        exact ⟨d2, b, l, _, _, _, rfl, next _ es2, sG⟩
    · rintro σ G ⟨d, b, l, v4, v5, v6, rfl, hsc, sG⟩
      rw [List.length_map] at hsc
      have hsc : scan (ts.take ts.length) 0 0 (-1) 9 = some (d, b, l) := hsc
      rw [List.take_length] at hsc
      have kk := k G sG
      refine ⟨_, rfl, rfl, _, rfl, ?_⟩
      rw [lastV_eq hsc] at kk
      by_cases z : d = 0
      · rw [if_pos z] at kk
        exact iteTS (decide_eq_true (by rw [z])) ⟨_, rfl, kk⟩
      · rw [if_neg z] at kk
        exact iteFS (decide_eq_false fun y => z (by injection y)) kk
theorem sc_l_called : FnScope ["_law_word", "_law_tokens_here", "_law_only", "_law_k", "_law_sides"] ["_law_word", "_law_tokens_here"] (defScope s_l_called) := ⟨rfl, rfl, rfl, by decide +kernel, rfl, by decide +kernel, by decide +kernel⟩
theorem ok_l_called {f : Addr} {fd : FuncData} (F : Fun K "_law_called" "_law_called" s_l_called f fd) (T : Txt K mg C_Reader C_BadRow)
    {k0 n : Nat} {spS : Sp} (hS : spS = spPar K n) (D_l_parsed : Fn P w K mg base (k0 + 1) "_law_parsed" ["_law_tokens_here"] spS)
    : FnOk P w K mg base CX0 (k0 + 2) f fd ["_law_word", "_law_tokens_here"] (spCalled K n) := by
  refine F.ok sc_l_called (fun vs H Q E h => ?_) (fun cdv A outer s H vs Q E hr h => ?_)
  · obtain ⟨_, _, _, rfl, _⟩ := h; rfl
  · obtain ⟨wd, p, ts, rfl, hp, hl, hl2, hN, hw, hn, k⟩ := h
    have hu65 : (A.deeper (envOfC "_law_called" (defScope s_l_called) s.heap.objs.size f cdv)).units + 65 < cLine := by have := hr.un; omega
    have hu := hu_of hr
    have hu64 := hr.units
    refine ⟨_, (pss_cons (ps_if (pt_cmpR op_eq (pv 0) pe_str (nomark _))
    (pss_cons (ps_set (i := 2) sc_l_called.nd rfl (Or.inl rfl) (pe_fn D_l_parsed (hr.mono (Nat.le_refl _)) rfl (pa_cons (pv 1) pa_nil)))
      (pss_one (ps_ret (pe_ifExp (pt_cmpR op_isN (pv 2) pe_non (nomark _)) pe_non (pe_tup (pa_cons (pv 0) (pa_cons (pv 2) pa_nil)))))))
    pss_nil)
  (pss_cons (ps_if (pt_cmpR op_ne (pv 0) pe_str (nomark _))
    (pss_one (ps_ret pe_non))
    pss_nil)
  (pss_cons (ps_for PassesOwn.never rfl (pi_range1 (by rfl) T.n_range (pa_cons (pe_callB call_len_seq (by rfl) T.n_len PySem.boot_len (pa_cons (pv 1) pa_nil)) pa_nil)) (pg_name (i := 3) sc_l_called.nd rfl (Or.inl rfl))
    (pss_one (ps_if (pt_cmpR op_eq (pe_ix ix_list (pv 1) (pv 3) (fun _ _ => rfl)) pe_str (nomark _))
        (pss_cons (ps_set (i := 4) sc_l_called.nd rfl (Or.inl rfl) (pe_lst (pa_cons (pe_fn D_l_parsed (hr.mono (Nat.le_refl _)) rfl (pa_cons (pe_slice sl_list (pv 1) po_none (po_some (pv 3))) pa_nil)) (pa_cons (pe_fn D_l_parsed (hr.mono (Nat.le_refl _)) rfl (pa_cons (pe_slice sl_list (pv 1) (po_some (pe_op op_add (pv 3) pe_int)) po_none) pa_nil)) pa_nil))))
          (pss_one (ps_if (pt_cmpR (op_notInM (K := K) rfl hu65) pe_non (pv 4) (by rfl))
            (pss_one (ps_ret (pe_tup (pa_cons (pv 0) (pa_cons (pe_ix ix_list (pv 4) pe_int (fun _ _ => rfl)) (pa_cons (pe_ix ix_list (pv 4) pe_int (fun _ _ => rfl)) pa_nil))))))
            pss_nil)))
        pss_nil)))
  (pss_one (ps_ret pe_non))))), ?_⟩
    have sz : sizeLine = 16777216 := sizeLine_eq
    subst hS
    have okP : ∀ us : List Str, (∀ t ∈ us, t ∈ ts) → ∀ e, parM n us = some e → e.Ok := fun us hu e he => by
      obtain ⟨_, _, _, _, D⟩ := parM_sound n us e (fun t ht => hN t (hu t ht)) he
      exact D.ok
    refine ⟨_, rfl, rfl, _, rfl, ?_⟩
    by_cases hk : wd = "keys"
    · refine iteTS (decide_eq_true (congrArg V.str hk)) ?_
      refine ⟨_, rfl, p, ts, rfl, hp, hl, hl2, hN, hn, fun v H1 s1 hv => ?_⟩
      have kk : ∀ v H', Same H H' → exV K H' v ((parM n ts).map .keys) → Q v H' := fun v H' s h => k v H' s (by unfold callM; rw [if_pos hk]; exact h)
      refine ⟨_, rfl, rfl, _, rfl, ?_⟩
      rw [exV_none hv]
      cases hm : parM n ts with
      | none =>
        rw [hm] at kk
        exact iteT (kk .non H1 s1 rfl)
      | some e =>
        rw [hm] at kk hv
        refine iteFS rfl ?_
        refine ⟨_, rfl, _, rfl, size_ok (by simp), fun q hq => ?_⟩
        generalize e_q : upd H1 q _ = H2
        have s_q := new_same e_q hq
        have h_q := new_at e_q
        subst hk
        exact kk _ H2 (s1.trans s_q) (.tup (.inl (.inl h_q)) (.cons (.str _) (.cons (dp_same s_q _ _ hv) .nil)))
    refine iteFS (decide_eq_false fun y => hk (by injection y)) ?_
    refine ⟨_, rfl, rfl, _, rfl, ?_⟩
    by_cases hlk : wd = "look"
    rotate_left
    · refine iteTS (by rw [decide_eq_false fun y => hlk (by injection y)]; rfl) ?_
      exact k .non H (Same.refl H) (by unfold callM; rw [if_neg hk, if_pos hlk]; rfl)
    refine iteFS (by rw [decide_eq_true (congrArg V.str hlk)]; rfl) ?_
    have kk : ∀ v H', Same H H' → exV K H' v ((List.range ts.length).findSome? (sidesM (parM n) ts)) → Q v H' := fun v H' s h => k v H' s (by unfold callM; rw [if_neg hk, if_neg fun z => z hlk]; exact h)
    refine ⟨_, rfl, p, _, rfl, .inl (SqL.of hp), ?_⟩
    refine ⟨_, rfl, by rw [List.length_map]; omega, by rw [List.length_map]; omega, ?_⟩
    refine for_range (lo := 0) (fun i σ G => ∃ (v2 v3 v4 : Option V), σ = [some (.str wd), some (.ref p), v2, v3, v4] ∧ (∀ m, m < i → sidesM (parM n) ts m = none) ∧ Same H G) ⟨_, _, _, rfl, fun m hm => absurd hm (Nat.not_lt_zero _), Same.refl H⟩ ?_ ?_
    · rintro i σ G hi ⟨v2, v3, v4, rfl, h0, sG⟩
      have hi2 : i < ts.length := by
        have : i < ((ts.map V.str).length : Int).toNat := by simpa using hi
        rw [List.length_map] at this
        omega
      obtain ⟨t, et⟩ : ∃ t, ts[i]? = some t := ⟨_, List.getElem?_eq_getElem hi2⟩
      have e1 : atI (ts.map V.str) (0 + (i : Int)) = some (.str t) := by
        rw [Int.zero_add]
        exact at_nat (by rw [List.getElem?_map, et]; rfl)
      have gp := sG _ _ hp
      refine ⟨_, rfl, _, rfl, p, _, _, _, rfl, rfl, SqL.of gp, e1, rfl, _, rfl, ?_⟩
      by_cases hc : t = ","
      rotate_left
      · refine iteFS (decide_eq_false fun y => hc (by injection y)) ?_
        refine ⟨_, _, _, rfl, fun m hm => ?_, sG⟩
        rcases Nat.lt_succ_iff_lt_or_eq.mp hm with q | rfl
        · exact h0 m q
        · unfold sidesM
          rw [et, if_neg fun y => hc (by injection y)]
      refine iteTS (decide_eq_true (congrArg V.str hc)) ?_
      have lm : (ts.map V.str).length = ts.length := List.length_map ..
      refine ⟨_, rfl, _, rfl, _, rfl, p, _, rfl, SqL.of gp, fun a1 ha1 => ?_⟩
      have c1 : cutV (ts.map V.str) none (some (0 + (i : Int))) = (ts.take i).map V.str := by rw [Int.zero_add, cut_toV (by omega), List.map_take]
      rw [c1]
      generalize e_a1 : upd G a1 _ = G1
      have s_a1 := new_same e_a1 ha1
      have h_a1 := new_at e_a1
      refine ⟨a1, ts.take i, rfl, h_a1, by rw [List.length_take]; omega, fun t ht => hl2 t (List.mem_of_mem_take ht), fun t ht => hN t (List.mem_of_mem_take ht), by rw [List.length_take]; omega, fun v1 G2 s2 hv1 => ?_⟩
      have gp2 := s2 _ _ (s_a1 _ _ gp)
      refine ⟨_, rfl, _, rfl, _, 1, rfl, rfl, _, rfl, p, _, rfl, SqL.of gp2, fun a3 ha3 => ?_⟩
      have c2 : cutV (ts.map V.str) (some (0 + (i : Int) + 1)) none = (ts.drop (i + 1)).map V.str := by rw [show (0 + (i : Int) + 1) = ((i + 1 : Nat) : Int) by omega, cut_up _ (by omega), List.map_drop]
      rw [c2]
      generalize e_a3 : upd G2 a3 _ = G3
      have s_a3 := new_same e_a3 ha3
      have h_a3 := new_at e_a3
      refine ⟨a3, ts.drop (i + 1), rfl, h_a3, by rw [List.length_drop]; omega, fun t ht => hl2 t (List.mem_of_mem_drop ht), fun t ht => hN t (List.mem_of_mem_drop ht), by rw [List.length_drop]; omega, fun v3' G4 s4 hv3 => ?_⟩
      refine ⟨size_ok (by simp), fun S hS => ?_⟩
      generalize e_S : upd G4 S _ = G5
      have s_S := new_same e_S hS
      have h_S := new_at e_S
      have sG5 : Same H G5 := sG.trans (s_a1.trans (s2.trans (s_a3.trans (s4.trans s_S))))
      have hv1' := exV_same (s_a3.trans (s4.trans s_S)) hv1
      have hv3' := exV_same s_S hv3
      have o1 := okP (ts.take i) fun t ht => List.mem_of_mem_take ht
      have o2 := okP (ts.drop (i + 1)) fun t ht => List.mem_of_mem_drop ht
      have esd : sidesM (parM n) ts i = (match parM n (ts.take i), parM n (ts.drop (i + 1)) with | some a, some b => some (.bin lW a b) | _, _ => none) := by
        unfold sidesM
        rw [et, hc]
        exact if_pos rfl
      refine ⟨_, rfl, .none, [exD (parM n (ts.take i)), exD (parM n (ts.drop (i + 1)))], .non, .lst (SqL.of h_S) (.cons (exV_dp hv1') (.cons (exV_dp hv3') .nil)), rfl, ?_, by decide, _, rfl, ?_⟩
      · show ((exD (parM n (ts.take i))).canLay0 && ((exD (parM n (ts.drop (i + 1)))).canLay0 && true)) = true
        rw [exD_lay o1, exD_lay o2]
        rfl
      show if (!((PyData.eqv (exD (parM n (ts.take i))) .none) || ((PyData.eqv (exD (parM n (ts.drop (i + 1)))) .none) || false))) = true then _ else _
      rw [eqv_none, eqv_none]
      have stay : sidesM (parM n) ts i = none → ∀ m, m < i + 1 → sidesM (parM n) ts m = none := fun z m hm => by
        rcases Nat.lt_succ_iff_lt_or_eq.mp hm with q | rfl
        · exact h0 m q
        · exact z
      cases m1 : parM n (ts.take i) with
      | none =>
        rw [m1] at esd
        exact iteFS rfl ⟨_, _, _, rfl, stay esd, sG5⟩
      | some ea =>
        cases m2 : parM n (ts.drop (i + 1)) with
        | none =>
          rw [m1, m2] at esd
          exact iteFS rfl ⟨_, _, _, rfl, stay esd, sG5⟩
        | some eb =>
          rw [m1, m2] at esd
          rw [m1] at hv1'
          rw [m2] at hv3'
          refine iteTS rfl ?_
          refine ⟨_, rfl, _, rfl, S, _, 0, _, rfl, rfl, SqL.of h_S, rfl, _, rfl, S, _, 1, _, rfl, rfl, SqL.of h_S, rfl, size_ok (by simp), fun q hq => ?_⟩
          generalize e_q : upd G5 q _ = G6
          have s_q := new_same e_q hq
          have h_q := new_at e_q
          refine kk _ G6 (sG5.trans s_q) ?_
          rw [first_some hi2 h0 esd]
          subst hlk
          exact .tup (.inl (.inl h_q)) (.cons (.str _) (.cons (dp_same s_q _ _ hv1') (.cons (dp_same s_q _ _ hv3') .nil)))
    · rintro σ G ⟨v2, v3, v4, rfl, h0, sG⟩
      have h0' : ∀ m, m < ts.length → sidesM (parM n) ts m = none := fun m hm => h0 m (by rw [List.length_map]; exact hm)
      refine kk .non G sG ?_
      rw [List.findSome?_eq_none_iff.mpr fun m hm => h0' m (List.mem_range.mp hm)]
      rfl
theorem sc_l_parsed : FnScope ["_law_tokens_here", "_law_at", "_law_sides"] ["_law_tokens_here"] (defScope s_l_parsed) := ⟨rfl, rfl, rfl, by decide +kernel, rfl, by decide +kernel, by decide +kernel⟩
theorem ok_l_parsed {f : Addr} {fd : FuncData} (F : Fun K "_law_parsed" "_law_parsed" s_l_parsed f fd) (T : Txt K mg C_Reader C_BadRow)
    (D_l_is_name : Fn P w K mg base 1 "_law_is_name" ["_law_word"] spNam)
    (D_l_last : Fn P w K mg base 1 "_law_last" ["_law_tokens_here"] spLast)
    {k0 n : Nat} {spP spC : Sp} (hP : ∀ m, n = m + 1 → spP = spPar K m) (hC : ∀ m, n = m + 1 → spC = spCalled K (m - 1)) (D_l_parsed : Fn P w K mg base (k0 + 1) "_law_parsed" ["_law_tokens_here"] spP) (D_l_called : Fn P w K mg base (k0 + 1) "_law_called" ["_law_word", "_law_tokens_here"] spC)
    : FnOk P w K mg base CX0 (k0 + 2) f fd ["_law_tokens_here"] (spPar K n) := by
  refine F.ok sc_l_parsed (fun vs H Q E h => ?_) (fun cdv A outer s H vs Q E hr h => ?_)
  · obtain ⟨_, _, rfl, _⟩ := h; rfl
  · obtain ⟨p, ts, rfl, hp, hl, hl2, hN, hn, k⟩ := h
    have hu65 : (A.deeper (envOfC "_law_parsed" (defScope s_l_parsed) s.heap.objs.size f cdv)).units + 65 < cLine := by have := hr.un; omega
    have hu := hu_of hr
    have hu64 := hr.units
    refine ⟨_, (pss_cons (ps_set (i := 1) sc_l_parsed.nd rfl (Or.inl rfl) (pe_fn D_l_last (hr.mono (by omega)) rfl (pa_cons (pv 0) pa_nil)))
  (pss_cons (ps_if (PW.pt (pw_or (pt_cmpR op_isN (pv 1) pe_non (nomark _)) (pw_or1 (pt_cmpR (op_eqDK (K := K) rfl hu64) (pv 0) (pe_lst pa_nil) (nomark _)))))
    (pss_one (ps_ret pe_non))
    pss_nil)
  (pss_cons (ps_if (pt_cmpR op_ge (pv 1) pe_int (nomark _))
    (pss_cons (ps_set (i := 2) sc_l_parsed.nd rfl (Or.inl rfl) (pe_lst (pa_cons (pe_fn D_l_parsed (hr.mono (Nat.le_refl _)) rfl (pa_cons (pe_slice sl_list (pv 0) po_none (po_some (pv 1))) pa_nil)) (pa_cons (pe_fn D_l_parsed (hr.mono (Nat.le_refl _)) rfl (pa_cons (pe_slice sl_list (pv 0) (po_some (pe_op op_add (pv 1) pe_int)) po_none) pa_nil)) pa_nil))))
      (pss_one (ps_ret (pe_ifExp (pt_cmpR (op_inM (K := K) rfl hu65) pe_non (pv 2) (by rfl)) pe_non (pe_tup (pa_cons (pe_ix ix_list (pv 0) (pv 1) (fun _ _ => rfl)) (pa_cons (pe_ix ix_list (pv 2) pe_int (fun _ _ => rfl)) (pa_cons (pe_ix ix_list (pv 2) pe_int (fun _ _ => rfl)) pa_nil))))))))
    pss_nil)
  (pss_cons (ps_if (pt_cmpR op_eq (pe_callB call_len_seq (by rfl) T.n_len PySem.boot_len (pa_cons (pv 0) pa_nil)) pe_int (nomark _))
    (pss_one (ps_ret (pe_ifExp (pt_val (pe_fn D_l_is_name (hr.mono (by omega)) rfl (pa_cons (pe_ix ix_list (pv 0) pe_int (fun _ _ => rfl)) pa_nil))) (pe_ix ix_list (pv 0) pe_int (fun _ _ => rfl)) pe_non)))
    pss_nil)
  (pss_cons (ps_if (pt_cmpR op_ne (pe_ix ix_list (pv 0) (pe_op op_sub (pe_callB call_len_seq (by rfl) T.n_len PySem.boot_len (pa_cons (pv 0) pa_nil)) pe_int) (fun _ _ => rfl)) pe_str (nomark _))
    (pss_one (ps_ret pe_non))
    pss_nil)
  (pss_cons (ps_if (pt_cmpR op_eq (pe_ix ix_list (pv 0) pe_int (fun _ _ => rfl)) pe_str (nomark _))
    (pss_one (ps_ret (pe_fn D_l_parsed (hr.mono (Nat.le_refl _)) rfl (pa_cons (pe_slice sl_list (pv 0) (po_some pe_int) (po_some (pe_un un_neg pe_int))) pa_nil))))
    pss_nil)
  (pss_cons (ps_if (PW.pt (pw_or (pt_cmpR op_lt (pe_callB call_len_seq (by rfl) T.n_len PySem.boot_len (pa_cons (pv 0) pa_nil)) pe_int (nomark _)) (pw_or1 (pt_cmpR op_ne (pe_ix ix_list (pv 0) pe_int (fun _ _ => rfl)) pe_str (nomark _)))))
    (pss_one (ps_ret pe_non))
    pss_nil)
  (pss_one (ps_ret (pe_fn D_l_called (hr.mono (Nat.le_refl _)) rfl (pa_cons (pe_ix ix_list (pv 0) pe_int (fun _ _ => rfl)) (pa_cons (pe_slice sl_list (pv 0) (po_some pe_int) (po_some (pe_un un_neg pe_int))) pa_nil)))))))))))), ?_⟩
    have sz : sizeLine = 16777216 := sizeLine_eq
    obtain ⟨m, rfl⟩ : ∃ m, n = m + 1 := ⟨n - 1, by omega⟩
    obtain rfl := hP m rfl
    obtain rfl := hC m rfl
    refine ⟨_, rfl, p, ts, rfl, hp, hl, fun t ht => (hl2 t ht).1, fun H1 s1 => ?_⟩
    have hp1 := s1 _ _ hp
    refine ⟨_, rfl, rfl, _, rfl, ?_⟩
    cases hlm : lastM ts with
    | none =>
      have e : lastV ts = .non := by unfold lastV; rw [hlm]
      rw [e]
      exact iteTS (decide_eq_true rfl) (iteT (k .non H1 s1 (by unfold parM; rw [hlm]; rfl)))
    | some q =>
    obtain ⟨b, l⟩ := q
    have e : lastV ts = .int b := by unfold lastV; rw [hlm]
    rw [e]
    refine iteFS (decide_eq_false fun z => by cases z) ?_
    refine ⟨_, rfl, size_ok (by simp), fun q0 hq0 => ?_⟩
    generalize e_q0 : upd H1 q0 _ = H2
    have s_q0 := new_same e_q0 hq0
    have h_q0 := new_at e_q0
    have hp2 := s_q0 _ _ hp1
    have s2 := s1.trans s_q0
    refine ⟨_, _, dp_strs hp2, .lst (SqL.of h_q0) .nil, shaped_strs hl2, by decide, _, rfl, ?_⟩
    rw [eqv_nilS]
    by_cases hne : ts = []
    · subst hne
      exact iteTS rfl (k .non H2 s2 (by unfold parM; rw [hlm]; simp only [if_pos rfl]; rfl))
    refine iteFS (by cases ts with | nil => exact absurd rfl hne | cons _ _ => rfl) ?_
    have pos : 0 < ts.length := by
      cases ts with
      | nil => exact absurd rfl hne
      | cons _ _ => simp
    have kk : ∀ v H', Same H H' → exV K H' v (if 0 ≤ b then (match parM m (ts.take b.toNat), parM m (ts.drop (b.toNat + 1)) with | some a, some c => some (.bin (ts.getD b.toNat "") a c) | _, _ => none) else
          if ts.length = 1 then (if nameL (ts.getD 0 "") = true then some (.nm (ts.getD 0 "")) else none) else
          if ts.getD (ts.length - 1) "" ≠ cP then none else
          if ts.getD 0 "" = oP then parM m ((ts.drop 1).take (ts.length - 2)) else
          if ts.length < 4 ∨ ts.getD 1 "" ≠ oP then none else
          callM (parM m) (ts.getD 0 "") ((ts.drop 2).take (ts.length - 3))) → Q v H' := fun v H' s h => k v H' s (by unfold parM; rw [hlm]; simp only; rw [if_neg hne]; exact h)
    have getAt : ∀ i, i < ts.length → (ts.map V.str)[i]? = some (.str (ts.getD i "")) := fun i hi => by
      rw [List.getElem?_map, List.getElem?_eq_getElem hi]
      simp [List.getD, hi]
    have lm : (ts.map V.str).length = ts.length := List.length_map ..
    refine ⟨_, rfl, b, 0, rfl, rfl, _, rfl, ?_⟩
    by_cases hb : 0 ≤ b
    · rw [if_pos hb] at kk
      refine iteTS (decide_eq_true hb) ?_
      have blt := lastM_lt hlm hb
      obtain ⟨bn, rfl⟩ : ∃ bn : Nat, b = (bn : Int) := ⟨b.toNat, by omega⟩
      simp only [Int.toNat_natCast] at kk blt
      have okP : ∀ us : List Str, (∀ t ∈ us, t ∈ ts) → ∀ e, parM m us = some e → e.Ok := fun us hu e he => by
        obtain ⟨_, _, _, _, D⟩ := parM_sound m us e (fun t ht => hN t (hu t ht)) he
        exact D.ok
      refine ⟨_, rfl, _, rfl, _, rfl, p, _, rfl, SqL.of hp2, fun a1 ha1 => ?_⟩
      have c1 : cutV (ts.map V.str) none (some (bn : Int)) = (ts.take bn).map V.str := by rw [cut_toV (by omega), List.map_take]
      rw [c1]
      generalize e_a1 : upd H2 a1 _ = G1
      have s_a1 := new_same e_a1 ha1
      have h_a1 := new_at e_a1
      refine ⟨a1, ts.take bn, rfl, h_a1, by rw [List.length_take]; omega, fun t ht => hl2 t (List.mem_of_mem_take ht), fun t ht => hN t (List.mem_of_mem_take ht), by rw [List.length_take]; omega, fun v1 G2 s3 hv1 => ?_⟩
      have gp2 := s3 _ _ (s_a1 _ _ hp2)
      refine ⟨_, rfl, _, rfl, _, 1, rfl, rfl, _, rfl, p, _, rfl, SqL.of gp2, fun a3 ha3 => ?_⟩
      have c2 : cutV (ts.map V.str) (some ((bn : Int) + 1)) none = (ts.drop (bn + 1)).map V.str := by rw [show ((bn : Int) + 1) = ((bn + 1 : Nat) : Int) by omega, cut_up _ (by omega), List.map_drop]
      rw [c2]
      generalize e_a3 : upd G2 a3 _ = G3
      have s_a3 := new_same e_a3 ha3
      have h_a3 := new_at e_a3
      refine ⟨a3, ts.drop (bn + 1), rfl, h_a3, by rw [List.length_drop]; omega, fun t ht => hl2 t (List.mem_of_mem_drop ht), fun t ht => hN t (List.mem_of_mem_drop ht), by rw [List.length_drop]; omega, fun v3' G4 s4 hv3 => ?_⟩
      refine ⟨size_ok (by simp), fun S hS => ?_⟩
      generalize e_S : upd G4 S _ = G5
      have s_S := new_same e_S hS
      have h_S := new_at e_S
      have sG5 : Same H G5 := s2.trans (s_a1.trans (s3.trans (s_a3.trans (s4.trans s_S))))
      have gp5 := sG5 _ _ hp
      have hv1' := exV_same (s_a3.trans (s4.trans s_S)) hv1
      have hv3' := exV_same s_S hv3
      have o1 := okP (ts.take bn) fun t ht => List.mem_of_mem_take ht
      have o2 := okP (ts.drop (bn + 1)) fun t ht => List.mem_of_mem_drop ht
      refine ⟨_, rfl, .none, [exD (parM m (ts.take bn)), exD (parM m (ts.drop (bn + 1)))], .non, .lst (SqL.of h_S) (.cons (exV_dp hv1') (.cons (exV_dp hv3') .nil)), rfl, ?_, by decide, _, rfl, ?_⟩
      · show ((exD (parM m (ts.take bn))).canLay0 && ((exD (parM m (ts.drop (bn + 1)))).canLay0 && true)) = true
        rw [exD_lay o1, exD_lay o2]
        rfl
      show if ((PyData.eqv (exD (parM m (ts.take bn))) .none) || ((PyData.eqv (exD (parM m (ts.drop (bn + 1)))) .none) || false)) = true then _ else _
      rw [eqv_none, eqv_none]
      cases m1 : parM m (ts.take bn) with
      | none =>
        rw [m1] at kk
        exact iteTS rfl (kk .non G5 sG5 rfl)
      | some ea =>
        cases m2 : parM m (ts.drop (bn + 1)) with
        | none =>
          rw [m1, m2] at kk
          exact iteTS rfl (kk .non G5 sG5 rfl)
        | some eb =>
          rw [m1, m2] at kk
          rw [m1] at hv1'
          rw [m2] at hv3'
          refine iteFS rfl ?_
          refine ⟨_, rfl, _, rfl, p, _, _, _, rfl, rfl, SqL.of gp5, at_nat (getAt bn blt), _, rfl, S, _, 0, _, rfl, rfl, SqL.of h_S, rfl, _, rfl, S, _, 1, _, rfl, rfl, SqL.of h_S, rfl, size_ok (by simp), fun q hq => ?_⟩
          generalize e_q : upd G5 q _ = G6
          have s_q := new_same e_q hq
          have h_q := new_at e_q
          exact kk _ G6 (sG5.trans s_q) (.tup (.inl (.inl h_q)) (.cons (.str _) (.cons (dp_same s_q _ _ hv1') (.cons (dp_same s_q _ _ hv3') .nil))))
    rw [if_neg hb] at kk
    refine iteFS (decide_eq_false hb) ?_
    refine ⟨_, rfl, p, _, rfl, .inl (SqL.of hp2), rfl, _, rfl, ?_⟩
    by_cases h1 : ts.length = 1
    · rw [if_pos h1] at kk
      refine iteTS (decide_eq_true (by rw [lm, h1]; rfl)) ?_
      have e0 : atI (ts.map V.str) 0 = some (.str (ts.getD 0 "")) := at_nat (i := 0) (getAt 0 pos)
      have l0 : (ts.getD 0 "").length ≤ 1000 := (hl2 _ (by
        rw [List.getD, List.getElem?_eq_getElem pos]
        exact List.getElem_mem pos)).1
      refine ⟨_, rfl, p, _, 0, _, rfl, rfl, SqL.of hp2, e0, ts.getD 0 "", rfl, l0, fun H3 s3 => ⟨_, rfl, ?_⟩⟩
      cases hnm : nameL (ts.getD 0 "") with
      | true =>
        rw [hnm] at kk
        exact iteT ⟨_, rfl, p, _, 0, _, rfl, rfl, SqL.of (s3 _ _ hp2), e0, kk _ H3 (s2.trans s3) (.str _)⟩
      | false =>
        rw [hnm] at kk
        exact iteFS rfl (kk _ H3 (s2.trans s3) rfl)
    rw [if_neg h1] at kk
    refine iteFS (decide_eq_false fun z => h1 (by rw [lm] at z; injection z with z; omega)) ?_
    have e0 : atI (ts.map V.str) 0 = some (.str (ts.getD 0 "")) := at_nat (i := 0) (getAt 0 pos)
    have e1 : atI (ts.map V.str) 1 = some (.str (ts.getD 1 "")) := at_nat (i := 1) (getAt 1 (by omega))
    have eL : atI (ts.map V.str) (((ts.map V.str).length : Int) - 1) = some (.str (ts.getD (ts.length - 1) "")) := by
      rw [lm, show ((ts.length : Int) - 1) = ((ts.length - 1 : Nat) : Int) by omega]
      exact at_nat (getAt (ts.length - 1) (by omega))
    have mem0 : ts.getD 0 "" ∈ ts := by
      rw [List.getD, List.getElem?_eq_getElem pos]
      exact List.getElem_mem pos
    refine ⟨_, rfl, _, rfl, p, _, rfl, .inl (SqL.of hp2), _, 1, rfl, rfl, p, _, _, _, rfl, rfl, SqL.of hp2, eL, rfl, _, rfl, ?_⟩
    by_cases hlast : ts.getD (ts.length - 1) "" = cP
    rotate_left
    · rw [if_pos hlast] at kk
      exact iteTS (by rw [decide_eq_false fun z => hlast (by injection z)]; rfl) (kk .non H2 s2 rfl)
    rw [if_neg fun z => z hlast] at kk
    refine iteFS (by rw [decide_eq_true (congrArg V.str hlast)]; rfl) ?_
    refine ⟨_, rfl, p, _, 0, _, rfl, rfl, SqL.of hp2, e0, rfl, _, rfl, ?_⟩
    by_cases h0 : ts.getD 0 "" = oP
    · rw [if_pos h0] at kk
      refine iteTS (decide_eq_true (congrArg V.str h0)) ?_
      refine ⟨_, rfl, 1, rfl, 1, rfl, _, rfl, p, _, rfl, SqL.of hp2, fun a1 ha1 => ?_⟩
      have c1 : cutV (ts.map V.str) (some 1) (some (-1)) = ((ts.drop 1).take (ts.length - 2)).map V.str := by
        rw [show (some (1 : Int)) = some ((1 : Nat) : Int) from rfl, cut_in (by omega), lm, List.map_take, List.map_drop]
      rw [c1]
      generalize e_a1 : upd H2 a1 _ = G1
      have s_a1 := new_same e_a1 ha1
      have h_a1 := new_at e_a1
      exact ⟨a1, _, rfl, h_a1, by rw [List.length_take, List.length_drop]; omega, fun t ht => hl2 t (List.mem_of_mem_drop (List.mem_of_mem_take ht)), fun t ht => hN t (List.mem_of_mem_drop (List.mem_of_mem_take ht)), by rw [List.length_take, List.length_drop]; omega, fun v H4 s4 hv => kk v H4 (s2.trans (s_a1.trans s4)) hv⟩
    rw [if_neg h0] at kk
    refine iteFS (decide_eq_false fun z => h0 (by injection z)) ?_
    refine ⟨_, rfl, p, _, rfl, .inl (SqL.of hp2), _, 4, rfl, rfl, _, rfl, ?_⟩
    by_cases h4 : ts.length < 4
    · rw [if_pos (.inl h4)] at kk
      exact iteTS (decide_eq_true (by rw [lm]; omega)) (iteT (kk .non H2 s2 rfl))
    refine iteFS (decide_eq_false (by rw [lm]; omega)) ?_
    refine ⟨_, rfl, p, _, 1, _, rfl, rfl, SqL.of hp2, e1, rfl, _, rfl, ?_⟩
    by_cases hpar : ts.getD 1 "" = oP
    rotate_left
    · rw [if_pos (.inr hpar)] at kk
      exact iteTS (by rw [decide_eq_false fun z => hpar (by injection z)]; rfl) (kk .non H2 s2 rfl)
    rw [if_neg (by rintro (z | z); exact h4 z; exact z hpar)] at kk
    refine iteFS (by rw [decide_eq_true (congrArg V.str hpar)]; rfl) ?_
    refine ⟨_, rfl, p, _, 0, _, rfl, rfl, SqL.of hp2, e0, _, rfl, 2, rfl, 1, rfl, _, rfl, p, _, rfl, SqL.of hp2, fun a1 ha1 => ?_⟩
    have c1 : cutV (ts.map V.str) (some 2) (some (-1)) = ((ts.drop 2).take (ts.length - 3)).map V.str := by
      rw [show (some (2 : Int)) = some ((2 : Nat) : Int) from rfl, cut_in (by omega), lm, List.map_take, List.map_drop]
    rw [c1]
    generalize e_a1 : upd H2 a1 _ = G1
    have s_a1 := new_same e_a1 ha1
    have h_a1 := new_at e_a1
    have lu : ((ts.drop 2).take (ts.length - 3)).length < m - 1 := by rw [List.length_take, List.length_drop]; omega
    refine ⟨_, a1, _, rfl, h_a1, by rw [List.length_take, List.length_drop]; omega, fun t ht => hl2 t (List.mem_of_mem_drop (List.mem_of_mem_take ht)), fun t ht => hN t (List.mem_of_mem_drop (List.mem_of_mem_take ht)), (hl2 _ mem0).1, lu, fun v H4 s4 hv => kk v H4 (s2.trans (s_a1.trans s4)) ?_⟩
    rw [callM_fuel (n := m) (m := m - 1) (by omega) lu]
    exact hv
theorem sc_l_row : FnScope ["_law_text", "_law_tokens_here", "_law_sign", "_law_found"] ["_law_text"] (defScope s_l_row) := ⟨rfl, rfl, rfl, by decide +kernel, rfl, by decide +kernel, by decide +kernel⟩
theorem ok_l_row {f : Addr} {fd : FuncData} (F : Fun K "_law_row" "_law_row" s_l_row f fd) (T : Txt K mg C_Reader C_BadRow)
    (D_l_tokens : Fn P w K mg base 1 "_law_tokens" ["_law_text"] spTok)
    (D_l_is_name : Fn P w K mg base 1 "_law_is_name" ["_law_word"] spNam)
    (D_l_last : Fn P w K mg base 1 "_law_last" ["_law_tokens_here"] spLast)
    (D_l_parsed : Fn P w K mg base 154 "_law_parsed" ["_law_tokens_here"] (spPar K 152))
    : FnOk P w K mg base CX0 (155) f fd ["_law_text"] (spRowL K) := by
  refine F.ok sc_l_row (fun vs H Q E h => ?_) (fun cdv A outer s H vs Q E hr h => ?_)
  · obtain ⟨_, rfl, _⟩ := h; rfl
  · obtain ⟨x, rfl, hx, hg, k⟩ := h
    have hu := hu_of hr
    have hu64 := hr.units
    refine ⟨_, (pss_cons (ps_if (PW.pt (pw_or (pt_not (pt_val (pe_callB call_isi (by rfl) T.n_isinstance (by decide +kernel) (pa_cons (pv 0) (pa_cons (pe_bltn (v := .ty "str") (u := .type "str") (by rfl) T.n_str (by decide +kernel) rfl) pa_nil))))) (pw_or1 (pt_cmpR op_gt (pe_op op_sub (pe_callB call_len_str (by rfl) T.n_len PySem.boot_len (pa_cons (pv 0) pa_nil)) (pe_m1 PySem.F.slot_str_count PySem.F.type_str_count mt_count (pv 0) pe_str)) pe_int (nomark _)))))
    (pss_one (ps_ret pe_non))
    pss_nil)
  (pss_cons (ps_set (i := 1) sc_l_row.nd rfl (Or.inl rfl) (pe_fn D_l_tokens (hr.mono (by decide)) rfl (pa_cons (pv 0) pa_nil)))
  (pss_cons (ps_if (PW.pt (pw_or (pt_cmpR op_isN (pv 1) pe_non (nomark _)) (pw_or (pt_cmpR op_lt (pe_callB call_len_seq (by rfl) T.n_len PySem.boot_len (pa_cons (pv 1) pa_nil)) pe_int (nomark _)) (pw_or1 (pt_not (pt_val (pe_fn D_l_is_name (hr.mono (by decide)) rfl (pa_cons (pe_ix ix_list (pv 1) pe_int (fun _ _ => rfl)) pa_nil))))))))
    (pss_one (ps_ret pe_non))
    pss_nil)
  (pss_cons (ps_set (i := 2) sc_l_row.nd rfl (Or.inl rfl) (pe_ix ix_list (pv 1) pe_int (fun _ _ => rfl)))
  (pss_cons (ps_if (PW.pt (pw_or (pt_cmpR op_notIn_seq (pv 2) (pe_lst (pa_cons pe_str (pa_cons pe_str (pa_cons pe_str (pa_cons pe_str (pa_cons pe_str (pa_cons pe_str pa_nil))))))) (by rfl)) (pw_or1 (pt_cmpR op_isN (pe_fn D_l_last (hr.mono (by decide)) rfl (pa_cons (pe_slice sl_list (pv 1) (po_some pe_int) po_none) pa_nil)) pe_non (nomark _)))))
    (pss_one (ps_ret pe_non))
    pss_nil)
  (pss_cons (ps_set (i := 3) sc_l_row.nd rfl (Or.inl rfl) (pe_fn D_l_parsed (hr.mono (by decide)) rfl (pa_cons (pe_slice sl_list (pv 1) (po_some pe_int) po_none) pa_nil)))
  (pss_cons (ps_if (pt_cmpR op_isN (pv 3) pe_non (nomark _))
    (pss_one (ps_ret pe_non))
    pss_nil)
  (pss_one (ps_ret (pe_tup (pa_cons (pe_ix ix_list (pv 1) pe_int (fun _ _ => rfl)) (pa_cons (pe_ifExp (pt_cmpR op_eq (pv 2) pe_str (nomark _)) (pv 3) (pe_tup (pa_cons (pe_ix ix_str (pv 2) pe_int (fun _ _ => rfl)) (pa_cons (pe_ix ix_list (pv 1) pe_int (fun _ _ => rfl)) (pa_cons (pv 3) pa_nil))))) pa_nil)))))))))))), ?_⟩
    have sz : sizeLine = 16777216 := sizeLine_eq
    have hLl : (letters x).length = x.length := Array.length_toList
    refine rd_isi rfl (.of (.str x)) (by simp) ⟨_, rfl, ?_⟩
    rw [isD_str]
    refine iteFS rfl ?_
    refine ⟨_, rfl, x, rfl, by omega, _, rfl, ⟨_, rfl⟩, x, " ", rfl, rfl, rI0_to (v := V.int ((noSpace x).length : Int)) (congrArg V.int (count_sp x)) ?_⟩
    refine ⟨_, 200, rfl, rfl, _, rfl, ?_⟩
    by_cases hb : 200 < (noSpace x).length
    · refine iteTS (decide_eq_true (by omega)) ?_
      exact k .non H (Same.refl H) (by rw [saidR_big hb]; exact .non)
    refine iteFS (decide_eq_false (by omega)) ?_
    have es := saidR_own (x := x) (by omega) (by omega)
    refine ⟨_, rfl, x, rfl, by omega, fun v H1 s1 hv => ?_⟩
    have no : rowL 152 x = none → ∀ H2, Same H1 H2 → Q .non H2 := fun z H2 s2 => k .non H2 (s1.trans s2) (by rw [es, z]; exact .non)
    cases hk : ltk (letters x) none [] [] with
    | none =>
      rw [hk] at hv
      have hv : v = .non := hv
      subst hv
      have eo : rowL 152 x = none := by unfold rowL; rw [hk]; rfl
      refine ⟨_, rfl, rfl, _, rfl, iteTS (decide_eq_true rfl) ?_⟩
      exact no eo H1 (Same.refl H1)
    | some ts =>
      rw [hk] at hv
      obtain ⟨p, rfl, hp⟩ := hv
      obtain ⟨a1, a2, a3, a4⟩ := ltk_any _ _ _ _ _ hk (by simp) (by simp) (fun ⟨p, z, _⟩ => by cases z)
      have a4 : ts.length ≤ 0 + 0 + (letters x).length := a4
      have hG := ltk_ok _ _ _ _ _ hk hg (fun p z => by cases z) (by simp) (by simp) (by show 0 + _ ≤ _; omega)
      have eo : rowL 152 x = rowT 152 ts := by unfold rowL; rw [hk]; rfl
      rw [eo] at no es
      refine ⟨_, rfl, rfl, _, rfl, iteFS (decide_eq_false fun z => by cases z) ?_⟩
      have lm : (ts.map V.str).length = ts.length := List.length_map ..
      refine ⟨_, rfl, p, _, rfl, .inl (SqL.of hp), _, 3, rfl, rfl, _, rfl, ?_⟩
      by_cases h3 : ts.length < 3
      · exact iteTS (decide_eq_true (by rw [lm]; omega)) (no (by unfold rowT; exact if_pos (.inl h3)) H1 (Same.refl H1))
      refine iteFS (decide_eq_false (by rw [lm]; omega)) ?_
      obtain ⟨t0, t1, us, rfl⟩ : ∃ t0 t1 us, ts = t0 :: t1 :: us := by
        match ts, h3 with
        | t0 :: t1 :: us, _ => exact ⟨t0, t1, us, rfl⟩
        | [_], h => exact absurd h (by simp)
        | [], h => exact absurd h (by simp)
      have lu : us.length < 152 := by have : (t0 :: t1 :: us).length = us.length + 2 := rfl; omega
      have hG0 := hG t0 (by simp)
      have hGu : ∀ t ∈ us, tokG t := fun t ht => hG t (by simp [ht])
      have hNu : ∀ t ∈ us, nameL t = nameOk t := fun t ht => tokL_name (a1 t (by simp [ht]))
      have e0 : atI ((t0 :: t1 :: us).map V.str) 0 = some (.str t0) := at_nat (i := 0) rfl
      have e1 : atI ((t0 :: t1 :: us).map V.str) 1 = some (.str t1) := at_nat (i := 1) rfl
      refine ⟨_, rfl, p, _, 0, _, rfl, rfl, SqL.of hp, e0, t0, rfl, hG0.1, fun H2 s2 => ⟨_, rfl, ?_⟩⟩
      cases hnm : nameL t0 with
      | false => exact iteT (no (rowT_no0 hnm) H2 s2)
      | true =>
      refine iteFS rfl ?_
      have hp2 := s2 _ _ hp
      refine ⟨_, rfl, p, _, 1, _, rfl, rfl, SqL.of hp2, e1, ?_⟩
      refine ⟨_, rfl, size_ok (by simp), fun q hq => ?_⟩
      generalize e_q : upd H2 q _ = H3
      have s_q := new_same e_q hq
      have h_q := new_at e_q
      have hp3 := s_q _ _ hp2
      refine ⟨q, _, rfl, .inl (SqL.of h_q), rfl, rfl, _, rfl, ?_⟩
      show if (!inV (V.str t1) [V.str "=", .str "|=", .str "^=", .str "&=", .str "-=", .str "@="]) = true then _ else _
      by_cases h6 : t1 ∈ six
      rotate_left
      · refine iteTS (by rw [in_six, decide_eq_false h6]; rfl) ?_
        exact no (rowT_no1 h6) H3 (s2.trans s_q)
      refine iteFS (by rw [in_six, decide_eq_true h6]; rfl) ?_
      have er : rowT 152 (t0 :: t1 :: us) = (parM 152 us).map fun e => rowD t0 t1 e.d := by rw [rowT_ok h6, if_pos hnm]
      rw [er] at no es
      refine ⟨_, rfl, 2, rfl, p, _, rfl, SqL.of hp3, fun b1 hb1 => ?_⟩
      have c1 : cutV ((t0 :: t1 :: us).map V.str) (some 2) none = us.map V.str := by rw [show (some (2 : Int)) = some ((2 : Nat) : Int) from rfl, cut_up _ (by simp)]; rfl
      rw [c1]
      generalize e_b1 : upd H3 b1 _ = H4
      have s_b1 := new_same e_b1 hb1
      have h_b1 := new_at e_b1
      refine ⟨b1, us, rfl, h_b1, by omega, fun t ht => (hGu t ht).1, fun H5 s5 => ⟨rfl, _, rfl, ?_⟩⟩
      have s15 : Same H1 H5 := s2.trans (s_q.trans (s_b1.trans s5))
      cases hlm : lastM us with
      | none =>
        have e : lastV us = .non := by unfold lastV; rw [hlm]
        rw [e]
        have en : parM 152 us = none := by unfold parM; rw [hlm]
        exact iteTS (decide_eq_true rfl) (no (by rw [en]; rfl) H5 s15)
      | some w =>
      obtain ⟨lb, ll⟩ := w
      have e : lastV us = .int lb := by unfold lastV; rw [hlm]
      rw [e]
      refine iteFS (decide_eq_false fun z => by cases z) ?_
      have hp5 := s15 _ _ hp
      refine ⟨_, rfl, 2, rfl, p, _, rfl, SqL.of hp5, fun b2 hb2 => ?_⟩
      rw [c1]
      generalize e_b2 : upd H5 b2 _ = H6
      have s_b2 := new_same e_b2 hb2
      have h_b2 := new_at e_b2
      refine ⟨b2, us, rfl, h_b2, by omega, hGu, hNu, lu, fun v H7 s7 hv => ?_⟩
      have s17 : Same H1 H7 := s15.trans (s_b2.trans s7)
      refine ⟨_, rfl, rfl, _, rfl, ?_⟩
      rw [exV_none hv]
      cases hm : parM 152 us with
      | none => exact iteT (no (by rw [hm]; rfl) H7 s17)
      | some ex =>
      rw [hm] at hv es
      refine iteFS rfl ?_
      have hp7 := s17 _ _ hp
      have kk : ∀ v H', Same H1 H' → Dp K H' v (rowD t0 t1 ex.d) → Q v H' := fun v H' s h => k v H' (s1.trans s) (by rw [es]; exact h)
      refine ⟨_, rfl, p, _, 0, _, rfl, rfl, SqL.of hp7, e0, ?_⟩
      refine ⟨_, rfl, rfl, _, rfl, ?_⟩
      by_cases hq1 : t1 = "="
      · refine iteTS (decide_eq_true (congrArg V.str hq1)) ?_
        refine ⟨_, rfl, size_ok (by simp), fun r hr => ?_⟩
        generalize e_r : upd H7 r _ = H8
        have s_r := new_same e_r hr
        have h_r := new_at e_r
        refine kk _ H8 (s17.trans s_r) ?_
        unfold rowD
        rw [if_pos hq1]
        exact .tup (.inl (.inl h_r)) (.cons (.str _) (.cons (dp_same s_r _ _ hv) .nil))
      · refine iteFS (decide_eq_false fun z => hq1 (by injection z)) ?_
        obtain ⟨c0, cr, ec⟩ : ∃ c0 cr, letters t1 = c0 :: cr := by
          have := six_no61 h6
          cases z : letters t1 with
          | nil => rw [z] at this; cases this
          | cons c0 cr => exact ⟨c0, cr, rfl⟩
        have ea : atI t1.cps.toList 0 = some c0 := at_natA (i := 0) (show (letters t1)[0]? = some c0 by rw [ec]; rfl)
        refine ⟨_, rfl, t1, 0, c0, rfl, rfl, by have := (hG t1 (by simp)).1; omega, ea, ?_⟩
        refine ⟨_, rfl, p, _, 0, _, rfl, rfl, SqL.of hp7, e0, ?_⟩
        refine ⟨_, rfl, size_ok (by simp), fun r hr => ?_⟩
        generalize e_r : upd H7 r _ = H8
        have s_r := new_same e_r hr
        have h_r := new_at e_r
        refine ⟨size_ok (by simp), fun r2 hr2 => ?_⟩
        generalize e_r2 : upd H8 r2 _ = H9
        have s_r2 := new_same e_r2 hr2
        have h_r2 := new_at e_r2
        refine kk _ H9 (s17.trans (s_r.trans s_r2)) ?_
        unfold rowD
        rw [if_neg hq1, ec]
        have hvr := dp_same (s_r.trans s_r2) _ _ hv
        exact .tup (.inl (.inl h_r2)) (.cons (.str _) (.cons (.tup (.inl (.inl (s_r2 _ _ h_r))) (.cons (.str _) (.cons (.str _) (.cons hvr .nil)))) .nil))
theorem sc_l_told : FnScope ["_law_thing", "e"] ["_law_thing"] (defScope s_l_told) := ⟨rfl, rfl, rfl, by decide +kernel, rfl, by decide +kernel, by decide +kernel⟩
theorem okT_l_told {n : Nat} {f : Addr} {fd : FuncData} (F : Fun K "_law_told" "_law_told" s_l_told f fd) (T : Txt K mg C_Reader C_BadRow)
    (D_read : FnTb n P w K mg base (L2.CX P w) 78 "read_row" ["text"] (spRowA K C_BadRow)) : FnT n P w K mg base CX0 79 f fd ["_law_thing"] (spToldR K) := by
  refine fnT_of F sc_l_told (fun vs H Q E h => ?_) (fun cdv A outer s H vs Q E hr h => ?_)
  · obtain ⟨_, _, rfl, _⟩ := h; rfl
  · obtain ⟨v, d, rfl, hd, htx, k⟩ := h
    have hu64 := hr.units
    refine ⟨_, PSsn.nox (pssn_one (psn_try_as (i := 1) (Wout := fun _ _ _ _ => False) rfl rfl sc_l_told.nd rfl rfl ⟨rfl, by decide, .inl T.g_BadRow⟩ takes0
      (fun W pn xe tk _ => pssn_one (psn_ret (pen_fnS D_read (hr.mono (by decide)) rfl tk (pan_cons (PEn.of (pv 0)) pan_nil))))
      (fun a oe cls d pn hz hf => 
        (pss_one (ps_ret (pe_ifExp (pt_cmpR op_eq (pe_callB SkE.call_repr_int (by rfl) T.n_repr (by decide +kernel) (pa_cons (pe_xf T.xf_BadRow T.nv_BadRow hz hf (pv 1)) pa_nil)) pe_str (nomark _)) pe_non pe_str)))))), ?_⟩
    have bad : toldR d = .none → ∀ (H1 : Hp), Same H H1 → Q .non H1 := fun ht H1 s1 => k .non H1 s1 (by rw [ht]; exact .non)
    refine ⟨_, rfl, ?_⟩
    cases hs : isD "str" d with
    | true =>
      obtain ⟨x, rfl⟩ := str_odd hs
      obtain rfl := dx_str hd
      obtain ⟨hx, hg⟩ := htx x rfl
      refine .inl ⟨x, rfl, hx, hg, fun d v H1 hd s1 hp ht => ?_, fun hno e H1 s1 he hd => ⟨true, T.xm_BadRow, fun _ a2 ha2 => ?_, fun z => nomatch z⟩⟩
      · refine k v H1 s1 ?_
        show Dp K H1 v (saidR x)
        unfold saidR
        rw [hd]
        exact hp
      · have ht : toldR (.str x) = .none := by
          show saidR x = .none
          unfold saidR
          rw [hno]
          rfl
        have go := bad ht H1 s1
        refine ⟨_, rfl, rfl, rfl, e, _, _, rfl, hd, rfl, 0, rfl, by decide, rfl, _, rfl, ?_⟩
        exact iteTS (by decide +kernel) go
    | false =>
      refine .inr ⟨v, d, rfl, hd, hs, fun e H1 s1 he hd => ⟨true, T.xm_BadRow, fun _ a2 ha2 => ?_, fun z => nomatch z⟩⟩
      have go := bad (toldR_odd hs) H1 s1
      refine ⟨_, rfl, rfl, rfl, e, _, _, rfl, hd, rfl, 0, rfl, by decide, rfl, _, rfl, ?_⟩
      exact iteTS (by decide +kernel) go
theorem sc_law : FnScope ["_law_script", "_law_at", "_law_bag_here", "_law_turn", "_law_sign", "_law_blanks", "_law_k", "_law_name", "_law_thing", "_law_odd"] ["_law_script"] (defScope s_law) := ⟨rfl, rfl, rfl, by decide +kernel, rfl, by decide +kernel, by decide +kernel⟩
theorem okT_law {n : Nat} {f : Addr} {fd : FuncData} (F : Fun K "law" "law" s_law f fd) (T : Txt K mg C_Reader C_BadRow)
    (D_l_bag : Fn P w K mg base 1 "_law_bag" ["_law_script", "_law_at"] (spBag K)) (D_l_take : Fn P w K mg base 1 "_law_take" ["_law_bag_here", "_law_many"] spTake)
    (D_l_drawn : Fn P w K mg base 6 "_law_drawn" ["_law_bag_here", "_law_deep"] (spDrawnA K)) (D_l_written : Fn P w K mg base 6 "_law_written" ["_law_expression"] (spWritA K))
    (D_l_bent : Fn P w K mg base 2 "_law_bent" ["_law_bag_here", "_law_text"] spBentC) (D_l_row : Fn P w K mg base 155 "_law_row" ["_law_text"] (spRowL K)) (D_l_told : FnTb n P w K mg base CX0 79 "_law_told" ["_law_thing"] (spToldR K))
    : FnTG n P w K mg base CX0 160 f fd ["_law_script"] (spLaw K) := by
  refine fnTG_of F sc_law (fun vs H Q E h => ?_) (fun cdv A outer s H vs Q E hg hr h => ?_)
  · obtain ⟨_, _, rfl, _⟩ := h; rfl
  · obtain ⟨a, ns, rfl, hS, hl0, k⟩ := h
    have hu := hu_of hr
    have hu64 := hr.units
    refine ⟨_, PSsn.nox (pssn_cons (psn_for PassesOwn.never rfl (pi_range1 (by rfl) T.n_range (pa_cons (pe_callB (call_max2 rfl) (by rfl) T.n_max (by decide +kernel) (pa_cons pe_int (pa_cons (pe_callB (call_min2 rfl) (by rfl) T.n_min (by decide +kernel) (pa_cons pe_int (pa_cons (pe_callB call_len_seq (by rfl) T.n_len PySem.boot_len (pa_cons (pv 0) pa_nil)) pa_nil))) pa_nil))) pa_nil)) (pg_name (i := 1) sc_law.nd rfl (Or.inl rfl)) (pssn_cons (PSn.of (ps_set (i := 2) sc_law.nd rfl (Or.inr rfl) (pe_fn D_l_bag (hr.mono (by decide)) rfl (pa_cons (pv 0) (pa_cons (pv 1) pa_nil))))) (pssn_one (psn_for PassesOwn.never rfl (pi_range1 (by rfl) T.n_range (pa_cons pe_int pa_nil)) (pg_name (i := 3) sc_law.nd rfl (Or.inl rfl)) (pssn_cons (PSn.of (ps_set (i := 4) sc_law.nd rfl (Or.inl rfl) (pe_ix ix_list (pe_lst (pa_cons pe_str (pa_cons pe_str (pa_cons pe_str (pa_cons pe_str (pa_cons pe_str (pa_cons pe_str (pa_cons pe_str (pa_cons pe_str pa_nil))))))))) (pe_fn D_l_take (hr.mono (by decide)) rfl (pa_cons (pv 2) (pa_cons pe_int pa_nil))) (fun _ _ => rfl)))) (pssn_cons (PSn.of (ps_setLc (i := 5) (own := [("_law_k", 6)]) (g := gName 6) (tt := tYes) rfl sc_law.nd rfl rfl (sw_true rfl rfl rfl (by decide +kernel)) (pi_range1 (by rfl) T.n_range (pa_cons pe_int pa_nil)) (blkOk_by (own := [("_law_k", 6)]) (N := ["_law_script", "_law_at", "_law_bag_here", "_law_turn", "_law_sign", "_law_blanks", "_law_k", "_law_name", "_law_thing", "_law_odd"]) (sc := defScope s_law) (by decide +kernel)) (fun _ _ _ _ _ => (pg_name (i := 6) sc_law.nd rfl (Or.inl rfl))) (fun _ _ _ _ _ => pts_nil) (fun _ _ _ _ _ => (pe_op op_mul_strN pe_str (pe_fn D_l_take (hr.mono (by decide)) rfl (pa_cons (pv 2) (pa_cons pe_int pa_nil))))))) (pssn_cons (PSn.of (ps_set (i := 7) sc_law.nd rfl (Or.inl rfl) (pe_ix ix_list (pe_lst (pa_cons pe_str (pa_cons pe_str (pa_cons pe_str pa_nil)))) (pe_fn D_l_take (hr.mono (by decide)) rfl (pa_cons (pv 2) (pa_cons pe_int pa_nil))) (fun _ _ => rfl)))) (pssn_cons (PSn.of (ps_set (i := 8) sc_law.nd rfl (Or.inl rfl) (pe_op op_add_str (pe_op op_add_str (pe_op op_add_str (pe_op op_add_str (pe_ix ix_list (pv 5) pe_int (fun _ _ => rfl)) (pv 7)) (pe_ix ix_list (pv 5) pe_int (fun _ _ => rfl))) (pv 4)) (pe_ix ix_list (pv 5) pe_int (fun _ _ => rfl))))) (pssn_cons (PSn.of (ps_set (i := 8) sc_law.nd rfl (Or.inl rfl) (pe_op op_add_str (pv 8) (pe_fn D_l_written (hr.mono (by decide)) rfl (pa_cons (pe_fn D_l_drawn (hr.mono (by decide)) rfl (pa_cons (pv 2) (pa_cons (pe_fn D_l_take (hr.mono (by decide)) rfl (pa_cons (pv 2) (pa_cons pe_int pa_nil))) pa_nil))) pa_nil))))) (pssn_cons (PSn.of (ps_for PassesOwn.never rfl (pi_range1 (by rfl) T.n_range (pa_cons (pe_op op_mul (pe_op op_fdivN (pe_fn D_l_take (hr.mono (by decide)) rfl (pa_cons (pv 2) (pa_cons pe_int pa_nil))) pe_int) (pe_fn D_l_take (hr.mono (by decide)) rfl (pa_cons (pv 2) (pa_cons pe_int pa_nil)))) pa_nil)) (pg_name (i := 6) sc_law.nd rfl (Or.inl rfl)) (pss_one (ps_set (i := 8) sc_law.nd rfl (Or.inl rfl) (pe_fn D_l_bent (hr.mono (by decide)) rfl (pa_cons (pv 2) (pa_cons (pv 8) pa_nil))))))) (pssn_one (psn_if (ptn_cmp op_ne (pen_callB (call_reprK (K := K) rfl hg hu64) (by rfl) T.n_repr (by decide +kernel) (pan_cons (pen_fn (E := E0) D_l_told (hr.mono (by decide)) rfl pass0 (PAn.of (pa_cons (pv 8) pa_nil))) (PAn.of pa_nil))) (PEn.of (pe_callB (call_reprK (K := K) rfl hg hu64) (by rfl) T.n_repr (by decide +kernel) (pa_cons (pe_fn D_l_row (hr.mono (by decide)) rfl (pa_cons (pv 8) pa_nil)) pa_nil))) (nomark _)) (PSsn.of (pss_one (ps_ret pe_bl))) (PSsn.of pss_nil))))))))))))) (pssn_cons (PSn.of (ps_set (i := 9) sc_law.nd rfl (Or.inl rfl) (pe_lst (pa_cons pe_non (pa_cons pe_int (pa_cons pe_bl (pa_cons (pe_tup (pa_cons pe_str (pa_cons pe_str pa_nil))) (pa_cons (pe_lst pa_nil) (pa_cons pe_str (pa_cons pe_str (pa_cons pe_str (pa_cons pe_str (pa_cons pe_str (pa_cons pe_str pa_nil)))))))))))))) (pssn_cons (PSn.of (ps_set (i := 9) sc_law.nd rfl (Or.inl rfl) (pe_op op_cat (pv 9) (pe_lst (pa_cons pe_str (pa_cons pe_str (pa_cons pe_str pa_nil))))))) (pssn_cons (PSn.of (ps_set (i := 9) sc_law.nd rfl (Or.inl rfl) (pe_op op_cat (pv 9) (pe_lst (pa_cons pe_str (pa_cons pe_str (pa_cons pe_str (pa_cons pe_str (pa_cons pe_str (pa_cons pe_str (pa_cons pe_str (pa_cons pe_str pa_nil)))))))))))) (pssn_cons (psn_if (ptn_val (pen_callB (cr_any rfl) (by rfl) T.n_any (by decide +kernel) (pan_cons (pen_lc (own := [("_law_thing", 8)]) (g := gName 8) rfl sc_law.nd (pi_list (pv 9)) (blkOk_by (own := [("_law_thing", 8)]) (N := ["_law_script", "_law_at", "_law_bag_here", "_law_turn", "_law_sign", "_law_blanks", "_law_k", "_law_name", "_law_thing", "_law_odd"]) (sc := defScope s_law) (by decide +kernel)) (fun _ _ _ _ _ => (pg_name (i := 8) sc_law.nd rfl (Or.inl rfl))) (fun _ _ _ _ _ => (pen_cmp op_notN (pen_fn (E := E0) D_l_told (hr.mono (by decide)) rfl pass0 (PAn.of (pa_cons (pv 8) pa_nil))) (PEn.of pe_non) (nomark _)))) (PAn.of pa_nil)))) (PSsn.of (pss_one (ps_ret pe_bl))) (PSsn.of pss_nil)) (pssn_one (psn_ret (pen_cmp (op_eqDK (K := K) rfl hu64) (pen_fn (E := E0) D_l_told (hr.mono (by decide)) rfl pass0 (PAn.of (pa_cons pe_str pa_nil))) (PEn.of (pe_tup (pa_cons pe_str (pa_cons (pe_tup (pa_cons pe_str (pa_cons pe_str (pa_cons (pe_tup (pa_cons pe_str (pa_cons pe_str (pa_cons pe_str pa_nil)))) pa_nil)))) pa_nil)))) (nomark _))))))))), ?_⟩
    have sz : sizeLine = 16777216 := sizeLine_eq
    have turns : ∀ z : Int, z ≤ 63 → 0 ≤ z → (if (if z < 6 then z else 6) > 2 then (if z < 6 then z else 6) else 2) ≤ 6 ∧ 2 ≤ (if (if z < 6 then z else 6) > 2 then (if z < 6 then z else 6) else 2) := by
      intro z z1 z2
      split <;> split <;> omega
    have t0 := turns (ns.map V.int).length (by rw [List.length_map]; omega) (by omega)
    refine ⟨_, rfl, _, _, rfl, Or.inl hS, _, _, rfl, _, _, rfl, _, rfl, by omega, by omega, ?_⟩
    refine for_range (lo := 0) (fun i σ H' => (∃ x1 x2 x3 x4 x5 x6 x7 x8 x9, σ = [some (.ref a), x1, x2, x3, x4, x5, x6, x7, x8, x9]) ∧ Same H H') ⟨⟨_, _, _, _, _, _, _, _, _, rfl⟩, Same.refl H⟩ ?_ ?_
    · rintro i σ H1 hi ⟨⟨x1, x2, x3, x4, x5, x6, x7, x8, x9, rfl⟩, s1⟩
      have hi6 : i < 6 := by omega
      refine ⟨_, rfl, _, rfl, a, ns, i, by simp, s1.seq hS, by omega, fun g o hg bag => ?_⟩
      have s2 := same_new hg (o := o)
      have ng : H g = none := s1.free hg
      generalize upd H1 g o = H2 at s2 bag ⊢
      have ne_g : ∀ b o, H b = some o → b ≠ g := fun b o e z => by rw [z, ng] at e; cases e
      have s02 := s1.trans s2
      refine ⟨_, rfl, by decide, by decide, ?_⟩
      refine for_range (lo := 0) (fun j σ G => ∃ (v3 v4 v5 v6 v7 v8 : Option V) (n1 : Nat), σ = [some (.ref a), some (.int (0 + (i : Int))), some (.ref g), v3, v4, v5, v6, v7, v8, x9] ∧ Bag G g n1 ∧ n1 ≤ 2000 * j ∧ Ext g H2 G) ⟨_, _, _, _, _, _, 0, rfl, bag, Nat.zero_le _, fun _ _ _ e => e⟩ ?_ ?_
      · rintro j σ G hj ⟨v3, v4, v5, v6, v7, v8, n1, rfl, bag1, hn1, ex1⟩
        have hj5 : j < 10 := hj
        refine ⟨size_ok (by simp), fun q1 hq1 => ?_⟩
        generalize e_q1 : upd G q1 _ = G0
        have s_q1 := new_same e_q1 hq1
        have h_q1 := new_at e_q1
        have bag0 := bag1.same s_q1
        have ex0 : Ext g H2 G0 := fun b o nb eb => s_q1 _ _ (ex1 b o nb eb)
        refine ⟨_, rfl, g, 8, n1, rfl, bag0, by omega, by decide, by decide, fun t G1 t0 t1 bt1 bag2 => ?_⟩
        have nq1 := bag1.ne hq1
        have h_q1 := (bt1 q1 nq1).trans h_q1
        have ex1 : Ext g H2 G1 := fun b o nb eb => (bt1 b nb).trans (ex0 b o nb eb)
        obtain ⟨sg, esg, psg⟩ := sign8 t0 t1
        refine ⟨q1, _, t, _, rfl, rfl, SqL.of h_q1, esg, ?_⟩
        refine ⟨_, rfl, by decide, by decide, fun D hD => ?_⟩
        have nD := bag2.ne hD
        refine lc_range (fun i H' => ∃ zs : List Str, H' D = some (.lst (zs.map V.str)) ∧ zs.length = i ∧ (∀ z ∈ zs, Pc z 2 0) ∧ Bag H' g (n1 + 1 + i) ∧ ∀ b o, b ≠ g → b ≠ D → G1 b = some o → H' b = some o) ?_ ?_ ?_
        · refine ⟨[], upd_same, rfl, by simp, ?_, fun b o nb nd eb => (upd_ne nd).trans eb⟩
          obtain ⟨x, y, z, e, w⟩ := bag2
          exact ⟨x, y, z, (upd_ne nD.symm).trans e, w⟩
        · rintro i2 H' hi2 ⟨zs, hz1, hz2, hz3, bg, hs⟩
          refine ⟨rfl, _, rfl, g, 3, n1 + 1 + i2, rfl, bg, by omega, by decide, by decide, fun u H6 u0 u1 bt6 bg6 => ?_⟩
          refine ⟨" ", u, rfl, rfl, u0, by omega, by decide, by decide, ?_⟩
          have hz6 := (bt6 D nD).trans hz1
          refine ⟨_, hz6, small1000 (by rw [List.length_map]; omega), zs ++ [repS " " u.toNat], ?_, by rw [List.length_append, hz2]; rfl, fun z hz => ?_, ?_, fun b o nb nd eb => (upd_ne nd).trans ((bt6 b nb).trans (hs b o nb nd eb))⟩
          · rw [upd_same, List.map_append]; rfl
          · rcases List.mem_append.mp hz with q | q
            · exact hz3 z q
            · rw [List.mem_singleton.mp q]; exact blank3 u0 u1
          · obtain ⟨x, y, z, e, w⟩ := bg6
            exact ⟨x, y, z, (upd_ne nD.symm).trans e, w⟩
        rintro G3 ⟨zs, hz1, hz2, hz3, bag3, hs⟩
        obtain ⟨z0, z1, z2, rfl⟩ : ∃ z0 z1 z2, zs = [z0, z1, z2] := by
          match zs, hz2 with
          | [z0, z1, z2], _ => exact ⟨z0, z1, z2, rfl⟩
        have p0 := hz3 z0 (by simp)
        have p1 := hz3 z1 (by simp)
        have p2 := hz3 z2 (by simp)
        have ex3 : Ext g H2 G3 := fun b o nb eb => hs b o nb (fun z => by
          have := ex1 b o nb eb
          rw [z, hD] at this
          cases this) (ex1 b o nb eb)
        refine ⟨size_ok (by simp), fun q2 hq2 => ?_⟩
        have nq2 := bag3.ne hq2
        generalize e_q2 : upd G3 q2 _ = G4
        have s_q2 := new_same e_q2 hq2
        have h_q2 := new_at e_q2
        refine ⟨_, rfl, g, 3, _, rfl, bag3.same s_q2, by omega, by decide, by decide, fun u G5 u0 u1 bt5 bag5 => ?_⟩
        have h_q2 := (bt5 q2 nq2).trans h_q2
        have hz5 := (bt5 D nD).trans (s_q2 _ _ hz1)
        have ex5 : Ext g H2 G5 := fun b o nb eb => (bt5 b nb).trans (s_q2 _ _ (ex3 b o nb eb))
        obtain ⟨nm, enm, pnm⟩ := name3 u0 u1
        refine ⟨q2, _, u, _, rfl, rfl, SqL.of h_q2, enm, ?_⟩
        have pc1 := p0.app pnm
        have pc2 := pc1.app p1
        have pc3 := pc2.app psg
        have pc4 := pc3.app p2
        have l1 := pc1.len
        have l2 := pc2.len
        have l3 := pc3.len
        have l4 := pc4.len
        have e1 := app_len z0 nm
        have e2 := app_len (z0 ++ nm) z1
        have e3 := app_len (z0 ++ nm ++ z1) sg
        have e4 := app_len (z0 ++ nm ++ z1 ++ sg) z2
        refine ⟨_, rfl, D, _, 0, _, rfl, rfl, SqL.of hz5, rfl, _, rfl, z0, nm, rfl, rfl, by omega, ?_⟩
        refine ⟨_, rfl, D, _, 1, _, rfl, rfl, SqL.of hz5, rfl, _, z1, rfl, rfl, by omega, ?_⟩
        refine ⟨_, rfl, _, sg, rfl, rfl, by omega, ?_⟩
        refine ⟨_, rfl, D, _, 2, _, rfl, rfl, SqL.of hz5, rfl, _, z2, rfl, rfl, by omega, ?_⟩
        generalize z0 ++ nm ++ z1 ++ sg ++ z2 = y0 at pc4 l4 e4 ⊢
        refine ⟨_, rfl, _, rfl, _, rfl, g, 4, _, rfl, bag5, by omega, by decide, by decide, fun w6 G6 w60 w61 bt6 bag6 => ?_⟩
        obtain ⟨m, em, m2⟩ : ∃ m : Nat, w6 = (m : Int) ∧ m ≤ 3 := ⟨w6.toNat, by omega, by omega⟩
        have dm : drawsE m ≤ 77 ∧ szB m ≤ 15 ∧ bB m ≤ 21 := by
          have : ∀ m, m < 4 → drawsE m ≤ 77 ∧ szB m ≤ 15 ∧ bB m ≤ 21 := by decide
          exact this m (by omega)
        refine ⟨m, by omega, g, _, (by show [V.ref g, V.int w6] ++ [] = _; rw [em]; rfl), bag6, by omega, fun v e G7 n7 hv hin hn7 bag7 ex7 => ?_⟩
        have hok := hin.ok
        have ex07 : Ext g H2 G7 := fun b o nb eb => ex7 b o nb ((bt6 b nb).trans (ex5 b o nb eb))
        refine ⟨m, by omega, v, e, rfl, hv, hin, by omega, fun G8 s8 => ?_⟩
        have wl := wr_len hok
        have hsz := hin.size
        have few := hin.few
        obtain ⟨dd, De⟩ := wr_dk e hok
        have pw : Pc (wrS e) 135 21 := ⟨by omega, (spT_flat (wrT e)).ascii De.toks.2, by rw [wrS_let]; omega⟩
        have py := pc4.app pw
        have ly := app_len y0 (wrS e)
        have lw := pw.len
        have ly0 := pc4.len
        refine ⟨y0, wrS e, rfl, rfl, by omega, ?_⟩
        have lyy := py.len
        have cyy := py.few
        have ayy := py.asc
        generalize y0 ++ wrS e = y1 at lyy cyy ayy ⊢
        have bag8 := bag7.same s8
        have ex8 : Ext g H2 G8 := fun b o nb eb => s8 _ _ (ex07 b o nb eb)
        refine ⟨_, rfl, g, 4, _, rfl, bag8, by omega, by decide, by decide, fun u9 G9 u90 u91 bt9 bag9 => ?_⟩
        have ex9 : Ext g H2 G9 := fun b o nb eb => (bt9 b nb).trans (ex8 b o nb eb)
        have fd : u9.fdiv 2 = 0 ∨ u9.fdiv 2 = 1 := by
          have h : u9 = 0 ∨ u9 = 1 ∨ u9 = 2 ∨ u9 = 3 := by omega
          rcases h with rfl | rfl | rfl | rfl <;> decide
        refine ⟨u9, 2, rfl, rfl, ⟨by decide, by decide⟩, ?_⟩
        refine ⟨_, rfl, g, 3, _, rfl, bag9, by omega, by decide, by decide, fun u10 G10 u100 u101 bt10 bag10 => ?_⟩
        have ex10 : Ext g H2 G10 := fun b o nb eb => (bt10 b nb).trans (ex9 b o nb eb)
        have mul : 0 ≤ u9.fdiv 2 * u10 ∧ u9.fdiv 2 * u10 ≤ 2 := by
          rcases fd with q | q <;> rw [q] <;> omega
        refine ⟨_, u10, rfl, rfl, .inr ⟨by omega, by omega⟩, _, rfl, by omega, by omega, ?_⟩
        generalize u9.fdiv 2 * u10 = many at mul ⊢
        refine for_range (lo := 0) (fun q σ G' => ∃ (y : Str) (v5 : Option V) (n4 : Nat), σ = [some (.ref a), some (.int (0 + (i : Int))), some (.ref g), some (.int (0 + (j : Int))), some (.str sg), some (.ref D), v5, some (.str nm), some (.str y), x9] ∧ y.length ≤ 146 + q ∧ (∀ c ∈ letters y, c < 128) ∧ cB (letters y) ≤ 22 + q ∧ Bag G' g n4 ∧ n4 ≤ n7 + 2 + 3 * q ∧ Ext g H2 G')
          ⟨y1, _, n7 + 2, rfl, by omega, ayy, by omega, bag10, by omega, ex10⟩ ?_ ?_
        · rintro q σ G' hq ⟨y, v5, n4, rfl, yl, ya, yb, bagA, hn4, exA⟩
          have hq3 : q < 2 := by omega
          refine ⟨_, rfl, _, rfl, g, y, n4, rfl, bagA, by omega, by omega, ya, fun z G5 n5 zl za zb hn5 bagB exB => ?_⟩
          exact ⟨z, _, n5, rfl, by omega, za, by omega, bagB, by omega, fun b o nb eb => exB b o nb (exA b o nb eb)⟩
        · rintro σ G' ⟨y, v5, n4, rfl, yl, ya, yb, bagA, hn4, exA⟩
          have hq2 : many.toNat ≤ 2 := by omega
          have yg : legal y := ascii_legal ya
          obtain ⟨sh1, sh2, sh3⟩ := row_shows ya (by omega) (by omega)
          refine ⟨_, rfl, .str y, .str y, rfl, .of (.str y), fun z ez => by cases ez; exact ⟨by omega, yg⟩, fun v1 G5 s5 hv1 => ?_⟩
          refine ⟨v1, saidR y, rfl, .of hv1, sh1, sh2, sh3, ?_⟩
          refine ⟨_, rfl, y, rfl, by omega, yg, fun v2 G6 s6 hv2 => ?_⟩
          refine ⟨v2, saidR y, rfl, .of hv2, sh1, sh2, sh3, rfl, _, rfl, iteFS (by rw [decide_eq_true rfl]; rfl) ?_⟩
          exact ⟨_, _, _, _, _, _, n4, rfl, bagA.same (s5.trans s6), by omega, fun b o nb eb => s6 _ _ (s5 _ _ (exA b o nb eb))⟩
      · rintro σ G ⟨v3, v4, v5, v6, v7, v8, n1, rfl, bag1, hn1, ex1⟩
        exact ⟨⟨_, _, _, _, _, _, _, _, _, rfl⟩, fun b o e => ex1 b o (ne_g b o e) (s02 b o e)⟩
    · rintro σ H1 ⟨⟨x1, x2, x3, x4, x5, x6, x7, x8, x9, rfl⟩, s1⟩
      have all12 := oddR_all
      refine seq_litx (K := K) (ds := oddR1) (litx_cons (litx_of lit_non) (litx_cons (litx_of (lit_int 7)) (litx_cons (litx_of (lit_bl true)) (litx_cons (litx_of (lit_tup (lit_cons (lit_str _) (lit_cons (lit_str _) lit_nil)) (by decide))) (litx_cons (litx_of (lit_lst lit_nil (by decide))) (litx_cons (litx_of (lit_str _)) (litx_cons (litx_of (lit_str _)) (litx_cons (litx_of (lit_str _)) (litx_cons (litx_of (lit_str _)) (litx_cons (litx_of (lit_str _)) (litx_cons (litx_of (lit_str _)) litx_nil))))))))))) (by decide) fun p1 H2 s2 n2 l1 => ?_
      refine seq_catx (es := oddR1) (ds := oddR2) rfl l1 (litx_all (lit_cons (lit_str _) (lit_cons (lit_str _) (lit_cons (lit_str _) lit_nil)))) (by decide) fun p2 H3 s3 n3 l2 => ?_
      refine seq_catx (ds := oddR3) rfl l2 (litx_all (lit_cons (lit_str _) (lit_cons (lit_str _) (lit_cons (lit_str _) (lit_cons (lit_str _) (lit_cons (lit_str _) (lit_cons (lit_str _) (lit_cons (lit_str _) (lit_cons (lit_str _) lit_nil))))))))) (by decide) fun p3 H4 s4 n4 l3 => ?_
      obtain ⟨vs, hp4, hvs⟩ := l3
      have lvs : vs.length ≤ 1000 := by rw [hvs.len]; decide
      refine ⟨_, rfl, p3, rfl, ⟨_, SqL.of hp4⟩, fun D hD => ?_⟩
      refine lc_w (walk_list (K := K) (xs := vs)) vs (fun _ => some (.bl false)) rfl lvs hD (fun G sG => SqL.of (sG _ _ hp4)) ?_ ?_
      · rintro i v x G G' R hi sG ⟨rfl, hx⟩ hR
        cases hi.symm.trans hx
        obtain ⟨d, hd1, hd2⟩ := hvs.at hi
        obtain ⟨tn, tl⟩ := noToldR_none (List.all_eq_true.mp all12 d (List.mem_of_getElem? hd1))
        refine ⟨rfl, _, rfl, v, d, rfl, hd2.same sG, tl, fun v2 G2 s6 hv2 => ?_⟩
        rw [tn] at hv2
        cases hv2
        exact ⟨rfl, hR G2 s6⟩
      · intro G sG hD2
        refine ⟨D, vs.map fun _ => false, rfl, SqL.of ?_, _, rfl, ?_⟩
        · rw [hD2, List.map_map]
          have : ∀ l : List V, l.filterMap (fun _ => some (V.bl false)) = l.map ((V.bl) ∘ fun _ => false) := fun l => by
            induction l with
            | nil => rfl
            | cons a l ih => simp [ih]
          rw [this]
        have af : (vs.map fun _ => false).any id = false := by
          rw [List.any_map]
          exact List.any_eq_false.mpr fun _ _ => by simp
        rw [af]
        refine iteF ?_
        have la : ∀ c ∈ letters ("c-=a|b" : Str), c < 128 := by decide +kernel
        refine ⟨.str _, .str _, rfl, .of (.str _), fun z ez => by cases ez; exact ⟨by decide, ascii_legal la⟩, fun v1 G2 s6 hv1 => ?_⟩
        refine ⟨size_ok (by simp), fun q1 hq1 => ?_⟩
        generalize e_q1 : upd G2 q1 _ = G3
        have s_q1 := new_same e_q1 hq1
        have h_q1 := new_at e_q1
        refine ⟨size_ok (by simp), fun q2 hq2 => ?_⟩
        generalize e_q2 : upd G3 q2 _ = G4
        have s_q2 := new_same e_q2 hq2
        have h_q2 := new_at e_q2
        refine ⟨size_ok (by simp), fun q3 hq3 => ?_⟩
        generalize e_q3 : upd G4 q3 _ = G5
        have s_q3 := new_same e_q3 hq3
        have h_q3 := new_at e_q3
        have e12 : saidR "c-=a|b" = due12D := by unfold saidR; rw [due12]; rfl
        have hv1 : Dp K G5 v1 due12D := by rw [← e12]; exact dp_same (s_q1.trans (s_q2.trans s_q3)) _ _ hv1
        refine ⟨due12D, due12D, hv1, .tup (.inl (.inl h_q3)) (.cons (.str _) (.cons (.tup (.inl (.inl (s_q3 _ _ h_q2))) (.cons (.str _) (.cons (.str _) (.cons (.tup (.inl (.inl (s_q3 _ _ (s_q2 _ _ h_q1)))) (.cons (.str _) (.cons (.str _) (.cons (.str _) .nil)))) .nil)))) .nil)), due12_lay.1, due12_lay.1, ?_⟩
        rw [due12_lay.2]
        exact k _
end
theorem all_mk {l : PySem.W.OpenLaw} {w : World} {K : PySem.W.Frag} {h : Heap} {mg : Str → Option Value} {fa : Addr} (X : K.In h) (G : h.Ns mainGlobals mg) (hfa : mg "law" = some (.ref fa))
    {C_BadRow : Addr}
    {C_Reader : Addr}
    {nmB qB : Str} {NB : Addr} {bsB subB : List Value} {snB : List Str} {abB : Bool} {colB : Option Bool} {ddB : Option Addr} {j0B j1B j2B j3B j5B : Option Value}
    
    
    
    
    
    
    
    
    
    {f0 : Addr} {oc0 kV0 dc0 pm0 cd0 ct0 : Value} {od0 an0 : Option Addr} {sl0 : Array (Option Value)}
    {f1 : Addr} {oc1 kV1 dc1 pm1 cd1 ct1 : Value} {od1 an1 : Option Addr} {sl1 : Array (Option Value)}
    {f2 : Addr} {oc2 kV2 dc2 pm2 cd2 ct2 : Value} {od2 an2 : Option Addr} {sl2 : Array (Option Value)}
    {f3 : Addr} {oc3 kV3 dc3 pm3 cd3 ct3 : Value} {od3 an3 : Option Addr} {sl3 : Array (Option Value)}
    {f4 : Addr} {oc4 kV4 dc4 pm4 cd4 ct4 : Value} {od4 an4 : Option Addr} {sl4 : Array (Option Value)}
    {f5 : Addr} {oc5 kV5 dc5 pm5 cd5 ct5 : Value} {od5 an5 : Option Addr} {sl5 : Array (Option Value)}
    {f6 : Addr} {oc6 kV6 dc6 pm6 cd6 ct6 : Value} {od6 an6 : Option Addr} {sl6 : Array (Option Value)}
    {f7 : Addr} {oc7 kV7 dc7 pm7 cd7 ct7 : Value} {od7 an7 : Option Addr} {sl7 : Array (Option Value)}
    {f8 : Addr} {oc8 kV8 dc8 pm8 cd8 ct8 : Value} {od8 an8 : Option Addr} {sl8 : Array (Option Value)}
    {f9 : Addr} {oc9 kV9 dc9 pm9 cd9 ct9 : Value} {od9 an9 : Option Addr} {sl9 : Array (Option Value)}
    {f10 : Addr} {oc10 kV10 dc10 pm10 cd10 ct10 : Value} {od10 an10 : Option Addr} {sl10 : Array (Option Value)}
    {f11 : Addr} {oc11 kV11 dc11 pm11 cd11 ct11 : Value} {od11 an11 : Option Addr} {sl11 : Array (Option Value)}
    {f12 : Addr} {oc12 kV12 dc12 pm12 cd12 ct12 : Value} {od12 an12 : Option Addr} {sl12 : Array (Option Value)}
    {f13 : Addr} {oc13 kV13 dc13 pm13 cd13 ct13 : Value} {od13 an13 : Option Addr} {sl13 : Array (Option Value)}
    {f14 : Addr} {oc14 kV14 dc14 pm14 cd14 ct14 : Value} {od14 an14 : Option Addr} {sl14 : Array (Option Value)}
    {f15 : Addr} {oc15 kV15 dc15 pm15 cd15 ct15 : Value} {od15 an15 : Option Addr} {sl15 : Array (Option Value)}
    {f16 : Addr} {oc16 kV16 dc16 pm16 cd16 ct16 : Value} {od16 an16 : Option Addr} {sl16 : Array (Option Value)}
    {f17 : Addr} {oc17 kV17 dc17 pm17 cd17 ct17 : Value} {od17 an17 : Option Addr} {sl17 : Array (Option Value)}
    {f18 : Addr} {oc18 kV18 dc18 pm18 cd18 ct18 : Value} {od18 an18 : Option Addr} {sl18 : Array (Option Value)}
    {f19 : Addr} {oc19 kV19 dc19 pm19 cd19 ct19 : Value} {od19 an19 : Option Addr} {sl19 : Array (Option Value)}
    {f20 : Addr} {oc20 kV20 dc20 pm20 cd20 ct20 : Value} {od20 an20 : Option Addr} {sl20 : Array (Option Value)}
    {f21 : Addr} {oc21 kV21 dc21 pm21 cd21 ct21 : Value} {od21 an21 : Option Addr} {sl21 : Array (Option Value)}
    {f22 : Addr} {oc22 kV22 dc22 pm22 cd22 ct22 : Value} {od22 an22 : Option Addr} {sl22 : Array (Option Value)}
    {f23 : Addr} {oc23 kV23 dc23 pm23 cd23 ct23 : Value} {od23 an23 : Option Addr} {sl23 : Array (Option Value)}
    {f24 : Addr} {oc24 kV24 dc24 pm24 cd24 ct24 : Value} {od24 an24 : Option Addr} {sl24 : Array (Option Value)}
    {t_LETTERS : Tok}
    {t_MOST_LETTERS : Tok}
    {r_RESERVED : Addr} {rd_RESERVED : Option Addr} {rn_RESERVED : Nat} {rs_RESERVED : Array (Option Value)} {rt_RESERVED_0 : Tok} {rt_RESERVED_1 : Tok} {rt_RESERVED_2 : Tok}
    {r_OPERATORS : Addr} {rd_OPERATORS : Option Addr} {rn_OPERATORS : Nat} {rs_OPERATORS : Array (Option Value)} {rt_OPERATORS_0 : Tok} {rt_OPERATORS_1 : Tok} {rt_OPERATORS_2 : Tok} {rt_OPERATORS_3 : Tok} {rt_OPERATORS_4 : Tok}
    {r_SIGNS : Addr} {rd_SIGNS : Option Addr} {rn_SIGNS : Nat} {rs_SIGNS : Array (Option Value)} {rt_SIGNS_0 : Tok} {rt_SIGNS_1 : Tok} {rt_SIGNS_2 : Tok} {rt_SIGNS_3 : Tok} {rt_SIGNS_4 : Tok} {rt_SIGNS_5 : Tok} {rt_SIGNS_6 : Tok} {rt_SIGNS_7 : Tok}
    {t_MOST_CHARACTERS : Tok}
    {t_MOST_OPEN : Tok}
    {t_END : Tok}
    (aB : PySem.W.nsIn K mainGlobals "BadRow" = some (some (.ref C_BadRow)))
    (aCR : PySem.W.nsIn K mainGlobals "Reader" = some (some (.ref C_Reader)))
    (lB : K.lookup C_BadRow = some (excClassObj nmB qB C_BadRow NB bsB mroVal true snB subB abB colB ddB j0B j1B j2B j3B j5B "ValueError.__new__")) (saB : PySem.W.findIn K (.ref C_BadRow) "__setattr__" = some (some (.builtin "object.__setattr__"))) (exB : PySem.W.subIn K (.ref C_BadRow) (.type "BaseException") = some true) (tyB : PySem.W.typeIn K (.ref C_BadRow) = some (.type "type")) (kB : PySem.W.keepIn K (.ref C_BadRow) = true)
    (nvB : PySem.W.findIn K (.ref C_BadRow) "place" = some none)
    (pgR : PySem.W.plainGet K C_Reader Str.empty = true) (hdR : PySem.W.hasDictIn K C_Reader = true) (poR : PySem.W.plainOver K C_Reader = true) (saR : PySem.W.findIn K (.ref C_Reader) "__setattr__" = some (some (.builtin "object.__setattr__")))
    (hnw_Reader : PySem.W.findIn K (.ref C_Reader) "words" = some none)
    (hna_Reader : PySem.W.findIn K (.ref C_Reader) "at" = some none)
    (hnd_Reader : PySem.W.findIn K (.ref C_Reader) "depth" = some none)
    (xmB : PySem.W.exmOne K (.ref C_BadRow) (.ref C_BadRow) = some true)
    (e1B : PySem.W.findIn K (.ref C_BadRow) "__getattribute__" = some (some (.builtin "BaseException.__getattribute__"))) (e2B : PySem.W.findIn K (.ref C_BadRow) "__getattr__" = some none) (e3B : PySem.W.hasDictIn K C_BadRow = true) (e4B : PySem.W.findIn K (.ref C_BadRow) "__class__" = some (some (.builtin "object.__class__"))) (e5B : PySem.W.specialIn K (.builtin "object.__class__") "__get__" = some (some (.builtin "getset_descriptor.__get__"))) (e6B : PySem.W.takesIn K (.builtin "object.__class__") = some true) (e7B : PySem.W.mroIn K C_BadRow (.type "object") = some true)
    
    (k2B : PySem.W.kitOne K (.ref C_BadRow) (.type "ValueError") = some true)
    (a0 : PySem.W.nsIn K mainGlobals "is_name" = some (some (.ref f0)))
    (l0 : K.lookup f0 = some ⟨oc0, od0, .func (PySem.W.fnOf "is_name" "is_name" (defArgs s_is_name) (defBody s_is_name) (defScope s_is_name) .none kV0 dc0 pm0 an0 cd0 ct0), sl0⟩)
    (c0 : PySem.W.codeIn K cd0 "is_name" = true) (k0 : PySem.W.keepIn K (.ref f0) = true)
    (a1 : PySem.W.findIn K (.ref C_BadRow) "__init__" = some (some (.ref f1))) (i1 : PySem.W.isFn K (.ref f1) = true)
    (ty1 : PySem.W.typeIn K (.ref f1) = some (.type "function"))
    (l1 : K.lookup f1 = some ⟨oc1, od1, .func (PySem.W.fnOf "__init__" "BadRow.__init__" (defArgs s_BadRow_init) (defBody s_BadRow_init) (defScope s_BadRow_init) .none kV1 dc1 pm1 an1 cd1 ct1), sl1⟩)
    (c1 : PySem.W.codeIn K cd1 "BadRow.__init__" = true) (k1 : PySem.W.keepIn K (.ref f1) = true)
    (a2 : PySem.W.findIn K (.ref C_Reader) "__init__" = some (some (.ref f2))) (i2 : PySem.W.isFn K (.ref f2) = true)
    (l2 : K.lookup f2 = some ⟨oc2, od2, .func (PySem.W.fnOf "__init__" "Reader.__init__" (defArgs s_Reader_init) (defBody s_Reader_init) (defScope s_Reader_init) .none kV2 dc2 pm2 an2 cd2 ct2), sl2⟩)
    (c2 : PySem.W.codeIn K cd2 "Reader.__init__" = true) (k2 : PySem.W.keepIn K (.ref f2) = true)
    (a3 : PySem.W.findIn K (.ref C_Reader) "took" = some (some (.ref f3))) (i3 : PySem.W.isFn K (.ref f3) = true)
    (l3 : K.lookup f3 = some ⟨oc3, od3, .func (PySem.W.fnOf "took" "Reader.took" (defArgs s_Reader_took) (defBody s_Reader_took) (defScope s_Reader_took) .none kV3 dc3 pm3 an3 cd3 ct3), sl3⟩)
    (c3 : PySem.W.codeIn K cd3 "Reader.took" = true) (k3 : PySem.W.keepIn K (.ref f3) = true)
    (a4 : PySem.W.findIn K (.ref C_Reader) "need" = some (some (.ref f4))) (i4 : PySem.W.isFn K (.ref f4) = true)
    (l4 : K.lookup f4 = some ⟨oc4, od4, .func (PySem.W.fnOf "need" "Reader.need" (defArgs s_Reader_need) (defBody s_Reader_need) (defScope s_Reader_need) .none kV4 dc4 pm4 an4 cd4 ct4), sl4⟩)
    (c4 : PySem.W.codeIn K cd4 "Reader.need" = true) (k4 : PySem.W.keepIn K (.ref f4) = true)
    (a5 : PySem.W.findIn K (.ref C_Reader) "parts" = some (some (.ref f5))) (i5 : PySem.W.isFn K (.ref f5) = true)
    (l5 : K.lookup f5 = some ⟨oc5, od5, .func (PySem.W.fnOf "parts" "Reader.parts" (defArgs s_Reader_parts) (defBody s_Reader_parts) (defScope s_Reader_parts) .none kV5 dc5 pm5 an5 cd5 ct5), sl5⟩)
    (c5 : PySem.W.codeIn K cd5 "Reader.parts" = true) (k5 : PySem.W.keepIn K (.ref f5) = true)
    (a6 : PySem.W.findIn K (.ref C_Reader) "single" = some (some (.ref f6))) (i6 : PySem.W.isFn K (.ref f6) = true)
    (l6 : K.lookup f6 = some ⟨oc6, od6, .func (PySem.W.fnOf "single" "Reader.single" (defArgs s_Reader_single) (defBody s_Reader_single) (defScope s_Reader_single) .none kV6 dc6 pm6 an6 cd6 ct6), sl6⟩)
    (c6 : PySem.W.codeIn K cd6 "Reader.single" = true) (k6 : PySem.W.keepIn K (.ref f6) = true)
    (a7 : PySem.W.findIn K (.ref C_Reader) "level" = some (some (.ref f7))) (i7 : PySem.W.isFn K (.ref f7) = true)
    (l7 : K.lookup f7 = some ⟨oc7, od7, .func (PySem.W.fnOf "level" "Reader.level" (defArgs s_Reader_level) (defBody s_Reader_level) (defScope s_Reader_level) .none kV7 dc7 pm7 an7 cd7 ct7), sl7⟩)
    (c7 : PySem.W.codeIn K cd7 "Reader.level" = true) (k7 : PySem.W.keepIn K (.ref f7) = true)
    (a8 : PySem.W.findIn K (.ref C_Reader) "whole" = some (some (.ref f8))) (i8 : PySem.W.isFn K (.ref f8) = true)
    (l8 : K.lookup f8 = some ⟨oc8, od8, .func (PySem.W.fnOf "whole" "Reader.whole" (defArgs s_Reader_whole) (defBody s_Reader_whole) (defScope s_Reader_whole) .none kV8 dc8 pm8 an8 cd8 ct8), sl8⟩)
    (c8 : PySem.W.codeIn K cd8 "Reader.whole" = true) (k8 : PySem.W.keepIn K (.ref f8) = true)
    (a9 : PySem.W.nsIn K mainGlobals "_split" = some (some (.ref f9)))
    (l9 : K.lookup f9 = some ⟨oc9, od9, .func (PySem.W.fnOf "_split" "_split" (defArgs s_p_split) (defBody s_p_split) (defScope s_p_split) .none kV9 dc9 pm9 an9 cd9 ct9), sl9⟩)
    (c9 : PySem.W.codeIn K cd9 "_split" = true) (k9 : PySem.W.keepIn K (.ref f9) = true)
    (a10 : PySem.W.nsIn K mainGlobals "_check_size" = some (some (.ref f10)))
    (l10 : K.lookup f10 = some ⟨oc10, od10, .func (PySem.W.fnOf "_check_size" "_check_size" (defArgs s_p_check_size) (defBody s_p_check_size) (defScope s_p_check_size) .none kV10 dc10 pm10 an10 cd10 ct10), sl10⟩)
    (c10 : PySem.W.codeIn K cd10 "_check_size" = true) (k10 : PySem.W.keepIn K (.ref f10) = true)
    (a11 : PySem.W.nsIn K mainGlobals "read_row" = some (some (.ref f11)))
    (l11 : K.lookup f11 = some ⟨oc11, od11, .func (PySem.W.fnOf "read_row" "read_row" (defArgs s_read_row) (defBody s_read_row) (defScope s_read_row) .none kV11 dc11 pm11 an11 cd11 ct11), sl11⟩)
    (c11 : PySem.W.codeIn K cd11 "read_row" = true) (k11 : PySem.W.keepIn K (.ref f11) = true)
    (a12 : PySem.W.nsIn K mainGlobals "_law_bag" = some (some (.ref f12)))
    (l12 : K.lookup f12 = some ⟨oc12, od12, .func (PySem.W.fnOf "_law_bag" "_law_bag" (defArgs s_l_bag) (defBody s_l_bag) (defScope s_l_bag) .none kV12 dc12 pm12 an12 cd12 ct12), sl12⟩)
    (c12 : PySem.W.codeIn K cd12 "_law_bag" = true) (k12 : PySem.W.keepIn K (.ref f12) = true)
    (a13 : PySem.W.nsIn K mainGlobals "_law_take" = some (some (.ref f13)))
    (l13 : K.lookup f13 = some ⟨oc13, od13, .func (PySem.W.fnOf "_law_take" "_law_take" (defArgs s_l_take) (defBody s_l_take) (defScope s_l_take) .none kV13 dc13 pm13 an13 cd13 ct13), sl13⟩)
    (c13 : PySem.W.codeIn K cd13 "_law_take" = true) (k13 : PySem.W.keepIn K (.ref f13) = true)
    (a14 : PySem.W.nsIn K mainGlobals "_law_drawn" = some (some (.ref f14)))
    (l14 : K.lookup f14 = some ⟨oc14, od14, .func (PySem.W.fnOf "_law_drawn" "_law_drawn" (defArgs s_l_drawn) (defBody s_l_drawn) (defScope s_l_drawn) .none kV14 dc14 pm14 an14 cd14 ct14), sl14⟩)
    (c14 : PySem.W.codeIn K cd14 "_law_drawn" = true) (k14 : PySem.W.keepIn K (.ref f14) = true)
    (a15 : PySem.W.nsIn K mainGlobals "_law_written" = some (some (.ref f15)))
    (l15 : K.lookup f15 = some ⟨oc15, od15, .func (PySem.W.fnOf "_law_written" "_law_written" (defArgs s_l_written) (defBody s_l_written) (defScope s_l_written) .none kV15 dc15 pm15 an15 cd15 ct15), sl15⟩)
    (c15 : PySem.W.codeIn K cd15 "_law_written" = true) (k15 : PySem.W.keepIn K (.ref f15) = true)
    (a16 : PySem.W.nsIn K mainGlobals "_law_bent" = some (some (.ref f16)))
    (l16 : K.lookup f16 = some ⟨oc16, od16, .func (PySem.W.fnOf "_law_bent" "_law_bent" (defArgs s_l_bent) (defBody s_l_bent) (defScope s_l_bent) .none kV16 dc16 pm16 an16 cd16 ct16), sl16⟩)
    (c16 : PySem.W.codeIn K cd16 "_law_bent" = true) (k16 : PySem.W.keepIn K (.ref f16) = true)
    (a17 : PySem.W.nsIn K mainGlobals "_law_tokens" = some (some (.ref f17)))
    (l17 : K.lookup f17 = some ⟨oc17, od17, .func (PySem.W.fnOf "_law_tokens" "_law_tokens" (defArgs s_l_tokens) (defBody s_l_tokens) (defScope s_l_tokens) .none kV17 dc17 pm17 an17 cd17 ct17), sl17⟩)
    (c17 : PySem.W.codeIn K cd17 "_law_tokens" = true) (k17 : PySem.W.keepIn K (.ref f17) = true)
    (a18 : PySem.W.nsIn K mainGlobals "_law_is_name" = some (some (.ref f18)))
    (l18 : K.lookup f18 = some ⟨oc18, od18, .func (PySem.W.fnOf "_law_is_name" "_law_is_name" (defArgs s_l_is_name) (defBody s_l_is_name) (defScope s_l_is_name) .none kV18 dc18 pm18 an18 cd18 ct18), sl18⟩)
    (c18 : PySem.W.codeIn K cd18 "_law_is_name" = true) (k18 : PySem.W.keepIn K (.ref f18) = true)
    (a19 : PySem.W.nsIn K mainGlobals "_law_last" = some (some (.ref f19)))
    (l19 : K.lookup f19 = some ⟨oc19, od19, .func (PySem.W.fnOf "_law_last" "_law_last" (defArgs s_l_last) (defBody s_l_last) (defScope s_l_last) .none kV19 dc19 pm19 an19 cd19 ct19), sl19⟩)
    (c19 : PySem.W.codeIn K cd19 "_law_last" = true) (k19 : PySem.W.keepIn K (.ref f19) = true)
    (a20 : PySem.W.nsIn K mainGlobals "_law_called" = some (some (.ref f20)))
    (l20 : K.lookup f20 = some ⟨oc20, od20, .func (PySem.W.fnOf "_law_called" "_law_called" (defArgs s_l_called) (defBody s_l_called) (defScope s_l_called) .none kV20 dc20 pm20 an20 cd20 ct20), sl20⟩)
    (c20 : PySem.W.codeIn K cd20 "_law_called" = true) (k20 : PySem.W.keepIn K (.ref f20) = true)
    (a21 : PySem.W.nsIn K mainGlobals "_law_parsed" = some (some (.ref f21)))
    (l21 : K.lookup f21 = some ⟨oc21, od21, .func (PySem.W.fnOf "_law_parsed" "_law_parsed" (defArgs s_l_parsed) (defBody s_l_parsed) (defScope s_l_parsed) .none kV21 dc21 pm21 an21 cd21 ct21), sl21⟩)
    (c21 : PySem.W.codeIn K cd21 "_law_parsed" = true) (k21 : PySem.W.keepIn K (.ref f21) = true)
    (a22 : PySem.W.nsIn K mainGlobals "_law_row" = some (some (.ref f22)))
    (l22 : K.lookup f22 = some ⟨oc22, od22, .func (PySem.W.fnOf "_law_row" "_law_row" (defArgs s_l_row) (defBody s_l_row) (defScope s_l_row) .none kV22 dc22 pm22 an22 cd22 ct22), sl22⟩)
    (c22 : PySem.W.codeIn K cd22 "_law_row" = true) (k22 : PySem.W.keepIn K (.ref f22) = true)
    (a23 : PySem.W.nsIn K mainGlobals "_law_told" = some (some (.ref f23)))
    (l23 : K.lookup f23 = some ⟨oc23, od23, .func (PySem.W.fnOf "_law_told" "_law_told" (defArgs s_l_told) (defBody s_l_told) (defScope s_l_told) .none kV23 dc23 pm23 an23 cd23 ct23), sl23⟩)
    (c23 : PySem.W.codeIn K cd23 "_law_told" = true) (k23 : PySem.W.keepIn K (.ref f23) = true)
    (a24 : PySem.W.nsIn K mainGlobals "law" = some (some (.ref f24)))
    (l24 : K.lookup f24 = some ⟨oc24, od24, .func (PySem.W.fnOf "law" "law" (defArgs s_law) (defBody s_law) (defScope s_law) .none kV24 dc24 pm24 an24 cd24 ct24), sl24⟩)
    (c24 : PySem.W.codeIn K cd24 "law" = true) (k24 : PySem.W.keepIn K (.ref f24) = true)
    (mk_Reader : PySem.W.makesIn K C_Reader = true) (kp_Reader : PySem.W.keepIn K (.ref C_Reader) = true)
    (rk0 : rt_SIGNS_0 ≠ 0 ∧ rt_SIGNS_0 + 1 < 500) (rk1 : rt_SIGNS_1 ≠ 0 ∧ rt_SIGNS_1 + 1 < 500) (rk2 : rt_SIGNS_2 ≠ 0 ∧ rt_SIGNS_2 + 1 < 500) (rk3 : rt_SIGNS_3 ≠ 0 ∧ rt_SIGNS_3 + 1 < 500) (rk4 : rt_SIGNS_4 ≠ 0 ∧ rt_SIGNS_4 + 1 < 500) (rk5 : rt_SIGNS_5 ≠ 0 ∧ rt_SIGNS_5 + 1 < 500) (rk6 : rt_SIGNS_6 ≠ 0 ∧ rt_SIGNS_6 + 1 < 500) (rk7 : rt_SIGNS_7 ≠ 0 ∧ rt_SIGNS_7 + 1 < 500)
    (z_ValueError : PySem.W.nsIn K mainGlobals "ValueError" = some none)
    (z_abs : PySem.W.nsIn K mainGlobals "abs" = some none)
    (z_all : PySem.W.nsIn K mainGlobals "all" = some none)
    (z_any : PySem.W.nsIn K mainGlobals "any" = some none)
    (z_int : PySem.W.nsIn K mainGlobals "int" = some none)
    (z_isinstance : PySem.W.nsIn K mainGlobals "isinstance" = some none)
    (z_len : PySem.W.nsIn K mainGlobals "len" = some none)
    (z_max : PySem.W.nsIn K mainGlobals "max" = some none)
    (z_min : PySem.W.nsIn K mainGlobals "min" = some none)
    (z_range : PySem.W.nsIn K mainGlobals "range" = some none)
    (z_repr : PySem.W.nsIn K mainGlobals "repr" = some none)
    (z_str : PySem.W.nsIn K mainGlobals "str" = some none)
    (z_LETTERS : PySem.W.nsIn K mainGlobals "LETTERS" = some (some (.str "abcdefghijklmnopqrstuvwxyz" t_LETTERS)))
    (z_MOST_LETTERS : PySem.W.nsIn K mainGlobals "MOST_LETTERS" = some (some (.int 4 t_MOST_LETTERS)))
    (z_RESERVED : PySem.W.nsIn K mainGlobals "RESERVED" = some (some (.ref r_RESERVED)))
    (y_RESERVED : K.lookup r_RESERVED = some ⟨.type "tuple", rd_RESERVED, .seq #[.str "keys" rt_RESERVED_0, .str "look" rt_RESERVED_1, .str "self" rt_RESERVED_2] rn_RESERVED, rs_RESERVED⟩)
    (z_OPERATORS : PySem.W.nsIn K mainGlobals "OPERATORS" = some (some (.ref r_OPERATORS)))
    (y_OPERATORS : K.lookup r_OPERATORS = some ⟨.type "tuple", rd_OPERATORS, .seq #[.str "|" rt_OPERATORS_0, .str "^" rt_OPERATORS_1, .str "&" rt_OPERATORS_2, .str "-" rt_OPERATORS_3, .str "@" rt_OPERATORS_4] rn_OPERATORS, rs_OPERATORS⟩)
    (z_SIGNS : PySem.W.nsIn K mainGlobals "SIGNS" = some (some (.ref r_SIGNS)))
    (y_SIGNS : K.lookup r_SIGNS = some ⟨.type "tuple", rd_SIGNS, .seq #[.str "|" rt_SIGNS_0, .str "^" rt_SIGNS_1, .str "&" rt_SIGNS_2, .str "-" rt_SIGNS_3, .str "@" rt_SIGNS_4, .str "(" rt_SIGNS_5, .str ")" rt_SIGNS_6, .str "," rt_SIGNS_7] rn_SIGNS, rs_SIGNS⟩)
    (z_MOST_CHARACTERS : PySem.W.nsIn K mainGlobals "MOST_CHARACTERS" = some (some (.int 200 t_MOST_CHARACTERS)))
    (z_MOST_OPEN : PySem.W.nsIn K mainGlobals "MOST_OPEN" = some (some (.int 8 t_MOST_OPEN)))
    (z_END : PySem.W.nsIn K mainGlobals "END" = some (some (.str "" t_END)))
    : ∃ fd : FuncData, (∀ (s : Shared) (v : Value), BindsTo s fd ⟨[v], []⟩ [("_law_script", v)]) ∧ ∀ base : Heap, K.In base → base.Ns mainGlobals mg → FnTG 500 l.prog w K mg base CX0 160 fa fd ["_law_script"] (spLaw K) := by
  have e := hfa.symm.trans (PySem.W.mg_of X G a24)
  cases e
  have T : Txt K mg C_Reader C_BadRow := ⟨PySem.W.mg_none_of X G z_ValueError, PySem.W.mg_none_of X G z_abs, PySem.W.mg_none_of X G z_all, PySem.W.mg_none_of X G z_any, PySem.W.mg_none_of X G z_int, PySem.W.mg_none_of X G z_isinstance, PySem.W.mg_none_of X G z_len, PySem.W.mg_none_of X G z_max, PySem.W.mg_none_of X G z_min, PySem.W.mg_none_of X G z_range, PySem.W.mg_none_of X G z_repr, PySem.W.mg_none_of X G z_str, ⟨t_LETTERS, PySem.W.mg_of X G z_LETTERS⟩, ⟨t_MOST_LETTERS, PySem.W.mg_of X G z_MOST_LETTERS⟩, ⟨r_RESERVED, PySem.W.mg_of X G z_RESERVED, fun H => .inr ⟨_, _, _, y_RESERVED, rfl, rfl, size_ok (by simp), .cons ⟨_, rfl⟩ (.cons ⟨_, rfl⟩ (.cons ⟨_, rfl⟩ (.nil)))⟩⟩, ⟨r_OPERATORS, PySem.W.mg_of X G z_OPERATORS, fun H => .inr ⟨_, _, _, y_OPERATORS, rfl, rfl, size_ok (by simp), .cons ⟨_, rfl⟩ (.cons ⟨_, rfl⟩ (.cons ⟨_, rfl⟩ (.cons ⟨_, rfl⟩ (.cons ⟨_, rfl⟩ (.nil)))))⟩⟩, ⟨r_SIGNS, PySem.W.mg_of X G z_SIGNS, fun H => .inr ⟨_, _, _, y_SIGNS, rfl, rfl, size_ok (by simp), .cons ⟨_, rfl⟩ (.cons ⟨_, rfl⟩ (.cons ⟨_, rfl⟩ (.cons ⟨_, rfl⟩ (.cons ⟨_, rfl⟩ (.cons ⟨_, rfl⟩ (.cons ⟨_, rfl⟩ (.cons ⟨_, rfl⟩ (.nil))))))))⟩⟩, ⟨t_MOST_CHARACTERS, PySem.W.mg_of X G z_MOST_CHARACTERS⟩, ⟨t_MOST_OPEN, PySem.W.mg_of X G z_MOST_OPEN⟩, ⟨t_END, PySem.W.mg_of X G z_END⟩, PySem.W.mg_of X G aB, PySem.W.mg_of X G aCR, ownX_val ⟨⟨_, _, _, _, _, _, _, _, _, _, _, _, _, _, lB⟩, saB, exB, tyB, kB⟩, nvB, ⟨pgR, hdR, poR, saR⟩, hnw_Reader, hna_Reader, hnd_Reader, xmB, ⟨e1B, e2B, exB, e3B, e4B, e5B, e6B, e7B⟩, ⟨e1B, e2B, exB, e3B⟩, k2B⟩
  refine ⟨PySem.W.fnOf "law" "law" (defArgs s_law) (defBody s_law) (defScope s_law) .none kV24 dc24 pm24 an24 cd24 ct24, fun s v => .of_eq rfl, fun base hK hG => ?_⟩
  have F_is_name := fun_mk (st := s_is_name) l0 c0 k0
  have O_is_name := ok_is_name (P := l.prog) (w := w) (base := base) F_is_name T  
  have b_is_name := F_is_name.binds (ps := ["thing"]) fun _ _ _ _ _ _ us hl => match us, hl with | [_], _ => rfl
  have D_is_name : Fn l.prog w K mg base 1 "is_name" ["thing"] (spIs K mName) := ⟨_, _, PySem.W.mg_of X G a0, O_is_name, k0, b_is_name⟩
  have F_BadRow_init := fun_mk (st := s_BadRow_init) l1 c1 k1
  have O_BadRow_init := ok_BadRow_init (P := l.prog) (w := w) (base := base) F_BadRow_init T  
  have b_BadRow_init := F_BadRow_init.binds (ps := ["self", "place"]) fun _ _ _ _ _ _ us hl => match us, hl with | [_, _], _ => rfl
  have D_BadRow_init : Xc l.prog w K mg base C_BadRow 1 ["self", "place"] (spInit1 K "place") := ⟨_, _, T.ox_BadRow, a1, (show PySem.W.typeIn K (.ref f1) = some (.type "function") from ty1), O_BadRow_init, b_BadRow_init⟩
  have F_Reader_init := fun_mk (st := s_Reader_init) l2 c2 k2
  have b_Reader_init := F_Reader_init.binds (ps := ["self", "words"]) fun _ _ _ _ _ _ us hl => match us, hl with | [_, _], _ => rfl
  have D_Reader_init : Mk1 l.prog w K mg base C_Reader 1 ["self", "words"] (spInitRd C_Reader) := ⟨_, _, ⟨mk_Reader, a2, i2, kp_Reader⟩, ok_Reader_init (P := l.prog) (w := w) (base := base) F_Reader_init T, b_Reader_init⟩
  have F_Reader_took := fun_mk (st := s_Reader_took) l3 c3 k3
  have O_Reader_took := ok_Reader_took (P := l.prog) (w := w) (base := base) F_Reader_took T  
  have b_Reader_took := F_Reader_took.binds (ps := ["self", "word"]) fun _ _ _ _ _ _ us hl => match us, hl with | [_, _], _ => rfl
  have D_Reader_took : Mt l.prog w K mg base C_Reader "took" 1 ["self", "word"] (spTook C_Reader) := ⟨_, _, a3, i3, k3, O_Reader_took, b_Reader_took⟩
  have F_Reader_need := fun_mk (st := s_Reader_need) l4 c4 k4
  have O_Reader_need := ok_Reader_need (P := l.prog) (w := w) (base := base) F_Reader_need T D_BadRow_init D_Reader_took 
  have b_Reader_need := F_Reader_need.binds (ps := ["self", "word"]) fun _ _ _ _ _ _ us hl => match us, hl with | [_, _], _ => rfl
  have D_Reader_need : MtX l.prog w K mg base C_Reader "need" 3 ["self", "word"] (spNeed C_Reader C_BadRow) := ⟨_, _, a4, i4, k4, O_Reader_need, b_Reader_need⟩
  have F_Reader_parts := fun_mk (st := s_Reader_parts) l5 c5 k5
  have b_Reader_parts := F_Reader_parts.binds (ps := ["self", "many"]) fun _ _ _ _ _ _ us hl => match us, hl with | [_, _], _ => rfl
  have F_Reader_single := fun_mk (st := s_Reader_single) l6 c6 k6
  have b_Reader_single := F_Reader_single.binds (ps := ["self"]) fun _ _ _ _ _ _ us hl => match us, hl with | [_], _ => rfl
  have F_Reader_level := fun_mk (st := s_Reader_level) l7 c7 k7
  have b_Reader_level := F_Reader_level.binds (ps := ["self", "at_least"]) fun _ _ _ _ _ _ us hl => match us, hl with | [_, _], _ => rfl
  have tie := reader_tie (K := K) (C := C_Reader) (CB := C_BadRow) (Lv := fun k sp => MtX l.prog w K mg base C_Reader "level" k ["self", "at_least"] sp) (Sg := fun k sp => MtX l.prog w K mg base C_Reader "single" k ["self"] sp) (Pt := fun k sp => MtX l.prog w K mg base C_Reader "parts" k ["self", "many"] sp)
    (fun h ⟨f, fd, h1, h2, h3, F, b⟩ => ⟨f, fd, h1, h2, h3, F.mono h, b⟩) (fun k => ⟨_, _, a7, i7, k7, fn_never, b_Reader_level⟩)
    (fun k n spI hI D => ⟨_, _, a5, i5, k5, ok_Reader_parts (P := l.prog) (w := w) (base := base) F_Reader_parts T D_BadRow_init D_Reader_need hI D, b_Reader_parts⟩)
    (fun k n D => ⟨_, _, a6, i6, k6, ok_Reader_single (P := l.prog) (w := w) (base := base) F_Reader_single T D_is_name D_Reader_took D, b_Reader_single⟩)
    (fun k n m spS spL hS hL DS DL => ⟨_, _, a7, i7, k7, ok_Reader_level (P := l.prog) (w := w) (base := base) F_Reader_level T D_Reader_took hS hL DS DL, b_Reader_level⟩) 8
  have F_Reader_whole := fun_mk (st := s_Reader_whole) l8 c8 k8
  have b_Reader_whole := F_Reader_whole.binds (ps := ["self"]) fun _ _ _ _ _ _ us hl => match us, hl with | [_], _ => rfl
  have D_Reader_whole : MtX l.prog w K mg base C_Reader "whole" 77 ["self"] (spWholeR K C_Reader C_BadRow) := ⟨_, _, a8, i8, k8, ok_Reader_whole (k0 := 72) (P := l.prog) (w := w) (base := base) F_Reader_whole T D_Reader_need tie, b_Reader_whole⟩
  have F_p_split := fun_mk (st := s_p_split) l9 c9 k9
  have b_p_split := F_p_split.binds (ps := ["text"]) fun _ _ _ _ _ _ us hl => match us, hl with | [_], _ => rfl
  have ht_S : ∀ (j : Nat) (u : Value), (#[.str "|" rt_SIGNS_0, .str "^" rt_SIGNS_1, .str "&" rt_SIGNS_2, .str "-" rt_SIGNS_3, .str "@" rt_SIGNS_4, .str "(" rt_SIGNS_5, .str ")" rt_SIGNS_6, .str "," rt_SIGNS_7] : Array Value)[j]? = some u → ∃ (y : Str) (t : Tok), u = .str y t ∧ t ≠ 0 ∧ t + 1 < 500 := by
    intro j u h
    match j, h with
    | 0, h => cases h; exact ⟨_, _, rfl, rk0⟩
    | 1, h => cases h; exact ⟨_, _, rfl, rk1⟩
    | 2, h => cases h; exact ⟨_, _, rfl, rk2⟩
    | 3, h => cases h; exact ⟨_, _, rfl, rk3⟩
    | 4, h => cases h; exact ⟨_, _, rfl, rk4⟩
    | 5, h => cases h; exact ⟨_, _, rfl, rk5⟩
    | 6, h => cases h; exact ⟨_, _, rfl, rk6⟩
    | 7, h => cases h; exact ⟨_, _, rfl, rk7⟩
    | n + 8, h => simp at h
  have hv_S : Vals (signsOf.map V.str) [Value.str "|" rt_SIGNS_0, .str "^" rt_SIGNS_1, .str "&" rt_SIGNS_2, .str "-" rt_SIGNS_3, .str "@" rt_SIGNS_4, .str "(" rt_SIGNS_5, .str ")" rt_SIGNS_6, .str "," rt_SIGNS_7] := .cons ⟨_, rfl⟩ (.cons ⟨_, rfl⟩ (.cons ⟨_, rfl⟩ (.cons ⟨_, rfl⟩ (.cons ⟨_, rfl⟩ (.cons ⟨_, rfl⟩ (.cons ⟨_, rfl⟩ (.cons ⟨_, rfl⟩ .nil)))))))
  have D_split : FnTb 500 l.prog w K mg base CX0 1 "_split" ["text"] spSplit := ⟨_, _, PySem.W.mg_of X G a9, okT_p_split (P := l.prog) (w := w) (base := base) F_p_split T y_SIGNS (PySem.W.mg_of X G z_SIGNS) hv_S ht_S, k9, b_p_split⟩
  have F_p_check_size := fun_mk (st := s_p_check_size) l10 c10 k10
  have b_p_check_size := F_p_check_size.binds (ps := ["text"]) fun _ _ _ _ _ _ us hl => match us, hl with | [_], _ => rfl
  have D_check : FnTb 1 l.prog w K mg base (L2.CX l.prog w) 3 "_check_size" ["text"] (spCheck C_BadRow) := ⟨_, _, PySem.W.mg_of X G a10, okT_p_check_size (P := l.prog) (w := w) (base := base) F_p_check_size T D_BadRow_init, k10, b_p_check_size⟩
  have D_checkO : FnTb 1 l.prog w K mg base (L2.CX l.prog w) 3 "_check_size" ["text"] (spOddT K C_BadRow) := ⟨_, _, PySem.W.mg_of X G a10, okO_p_check_size (P := l.prog) (w := w) (base := base) F_p_check_size T D_BadRow_init, k10, b_p_check_size⟩
  have F_read_row := fun_mk (st := s_read_row) l11 c11 k11
  have b_read_row := F_read_row.binds (ps := ["text"]) fun _ _ _ _ _ _ us hl => match us, hl with | [_], _ => rfl
  have D_row_any : FnTb 500 l.prog w K mg base (L2.CX l.prog w) 78 "read_row" ["text"] (spRowA K C_BadRow) := ⟨_, _, PySem.W.mg_of X G a11, .or (okT_read_row (P := l.prog) (w := w) (base := base) (by decide) tail_fits F_read_row T D_is_name D_BadRow_init D_check D_split D_Reader_init D_Reader_whole) (okO_read_row (P := l.prog) (w := w) (base := base) (by decide) F_read_row T D_is_name D_BadRow_init D_checkO D_split D_Reader_init D_Reader_whole), k11, b_read_row⟩
  have F_l_bag := fun_mk (st := s_l_bag) l12 c12 k12
  have O_l_bag := ok_l_bag (P := l.prog) (w := w) (base := base) F_l_bag T  
  have b_l_bag := F_l_bag.binds (ps := ["_law_script", "_law_at"]) fun _ _ _ _ _ _ us hl => match us, hl with | [_, _], _ => rfl
  have D_l_bag : Fn l.prog w K mg base 1 "_law_bag" ["_law_script", "_law_at"] (spBag K) := ⟨_, _, PySem.W.mg_of X G a12, O_l_bag, k12, b_l_bag⟩
  have F_l_take := fun_mk (st := s_l_take) l13 c13 k13
  have O_l_take := ok_l_take (P := l.prog) (w := w) (base := base) F_l_take T  
  have b_l_take := F_l_take.binds (ps := ["_law_bag_here", "_law_many"]) fun _ _ _ _ _ _ us hl => match us, hl with | [_, _], _ => rfl
  have D_l_take : Fn l.prog w K mg base 1 "_law_take" ["_law_bag_here", "_law_many"] spTake := ⟨_, _, PySem.W.mg_of X G a13, O_l_take, k13, b_l_take⟩
  have F_l_drawn := fun_mk (st := s_l_drawn) l14 c14 k14
  have b_l_drawn := F_l_drawn.binds (ps := ["_law_bag_here", "_law_deep"]) fun _ _ _ _ _ _ us hl => match us, hl with | [_, _], _ => rfl
  have D_l_drawn : Fn l.prog w K mg base 6 "_law_drawn" ["_law_bag_here", "_law_deep"] (spDrawnA K) := fn_tie (sp := fun j => spDrawn K j) (PySem.W.mg_of X G a14) k14 b_l_drawn (fun k0 j spS hS D => ok_l_drawn (P := l.prog) (w := w) (base := base) F_l_drawn T D_l_take hS D)
  have F_l_written := fun_mk (st := s_l_written) l15 c15 k15
  have b_l_written := F_l_written.binds (ps := ["_law_expression"]) fun _ _ _ _ _ _ us hl => match us, hl with | [_], _ => rfl
  have D_l_written : Fn l.prog w K mg base 6 "_law_written" ["_law_expression"] (spWritA K) := fn_tie (sp := fun j => spWrit K j) (PySem.W.mg_of X G a15) k15 b_l_written (fun k0 j spS hS D => ok_l_written (P := l.prog) (w := w) (base := base) F_l_written T hS D)
  have F_l_bent := fun_mk (st := s_l_bent) l16 c16 k16
  have O_l_bent := ok_l_bent (P := l.prog) (w := w) (base := base) F_l_bent T D_l_take 
  have b_l_bent := F_l_bent.binds (ps := ["_law_bag_here", "_law_text"]) fun _ _ _ _ _ _ us hl => match us, hl with | [_, _], _ => rfl
  have D_l_bent : Fn l.prog w K mg base 2 "_law_bent" ["_law_bag_here", "_law_text"] spBentC := ⟨_, _, PySem.W.mg_of X G a16, O_l_bent, k16, b_l_bent⟩
  have F_l_tokens := fun_mk (st := s_l_tokens) l17 c17 k17
  have O_l_tokens := ok_l_tokens (P := l.prog) (w := w) (base := base) F_l_tokens T  
  have b_l_tokens := F_l_tokens.binds (ps := ["_law_text"]) fun _ _ _ _ _ _ us hl => match us, hl with | [_], _ => rfl
  have D_l_tokens : Fn l.prog w K mg base 1 "_law_tokens" ["_law_text"] spTok := ⟨_, _, PySem.W.mg_of X G a17, O_l_tokens, k17, b_l_tokens⟩
  have F_l_is_name := fun_mk (st := s_l_is_name) l18 c18 k18
  have O_l_is_name := ok_l_is_name (P := l.prog) (w := w) (base := base) F_l_is_name T  
  have b_l_is_name := F_l_is_name.binds (ps := ["_law_word"]) fun _ _ _ _ _ _ us hl => match us, hl with | [_], _ => rfl
  have D_l_is_name : Fn l.prog w K mg base 1 "_law_is_name" ["_law_word"] spNam := ⟨_, _, PySem.W.mg_of X G a18, O_l_is_name, k18, b_l_is_name⟩
  have F_l_last := fun_mk (st := s_l_last) l19 c19 k19
  have O_l_last := ok_l_last (P := l.prog) (w := w) (base := base) F_l_last T  
  have b_l_last := F_l_last.binds (ps := ["_law_tokens_here"]) fun _ _ _ _ _ _ us hl => match us, hl with | [_], _ => rfl
  have D_l_last : Fn l.prog w K mg base 1 "_law_last" ["_law_tokens_here"] spLast := ⟨_, _, PySem.W.mg_of X G a19, O_l_last, k19, b_l_last⟩
  have F_l_called := fun_mk (st := s_l_called) l20 c20 k20
  have b_l_called := F_l_called.binds (ps := ["_law_word", "_law_tokens_here"]) fun _ _ _ _ _ _ us hl => match us, hl with | [_, _], _ => rfl
  have F_l_parsed := fun_mk (st := s_l_parsed) l21 c21 k21
  have b_l_parsed := F_l_parsed.binds (ps := ["_law_tokens_here"]) fun _ _ _ _ _ _ us hl => match us, hl with | [_], _ => rfl
  have D_l_parsed : Fn l.prog w K mg base 154 "_law_parsed" ["_law_tokens_here"] (spPar K 152) := par_tie (fun k => ⟨_, _, PySem.W.mg_of X G a21, fn_never, k21, b_l_parsed⟩) (fun k => ⟨_, _, PySem.W.mg_of X G a20, fn_never, k20, b_l_called⟩)
    (fun k0 n spS hS D => ⟨_, _, PySem.W.mg_of X G a20, ok_l_called (P := l.prog) (w := w) (base := base) F_l_called T hS D, k20, b_l_called⟩)
    (fun k0 n spP spC hP hC DP DC => ⟨_, _, PySem.W.mg_of X G a21, ok_l_parsed (P := l.prog) (w := w) (base := base) F_l_parsed T D_l_is_name D_l_last hP hC DP DC, k21, b_l_parsed⟩) 152
  have F_l_row := fun_mk (st := s_l_row) l22 c22 k22
  have b_l_row := F_l_row.binds (ps := ["_law_text"]) fun _ _ _ _ _ _ us hl => match us, hl with | [_], _ => rfl
  have D_l_row : Fn l.prog w K mg base 155 "_law_row" ["_law_text"] (spRowL K) := ⟨_, _, PySem.W.mg_of X G a22, ok_l_row (P := l.prog) (w := w) (base := base) F_l_row T D_l_tokens D_l_is_name D_l_last D_l_parsed, k22, b_l_row⟩
  have F_l_told := fun_mk (st := s_l_told) l23 c23 k23
  have b_l_told := F_l_told.binds (ps := ["_law_thing"]) fun _ _ _ _ _ _ us hl => match us, hl with | [_], _ => rfl
  have D_l_told : FnTb 500 l.prog w K mg base CX0 79 "_law_told" ["_law_thing"] (spToldR K) := ⟨_, _, PySem.W.mg_of X G a23, okT_l_told (P := l.prog) (w := w) (base := base) F_l_told T D_row_any, k23, b_l_told⟩
  have F_law := fun_mk (st := s_law) l24 c24 k24
  have b_law := F_law.binds (ps := ["_law_script"]) fun _ _ _ _ _ _ us hl => match us, hl with | [_], _ => rfl
  exact okT_law (P := l.prog) (w := w) (base := base) F_law T D_l_bag D_l_take D_l_drawn D_l_written D_l_bent D_l_row D_l_told
theorem walk {l : PySem.W.OpenLaw} {q : Program} {loose : List Str} {XP : (Str → Option Value) → Heap → Prop} {as : List Addr} {N : Nat} {d : DefRec} {K : Params → PySem.W.Frag} (he : ∀ P, as = (K P).map (·.1)) (hn : l.most = some 63) (hdf : d.params.defaults = [])
    (F : ∀ (w : World) (mg : Str → Option Value) (fa : Addr) (h : Heap), (K w.params).In h → h.Ns mainGlobals mg → mg d.name = some (.ref fa) →
      ∃ fd : FuncData, (∀ (s : Shared) (u : Value), BindsTo s fd ⟨[u], []⟩ [("_law_script", u)]) ∧ ∀ base : Heap, (K w.params).In base → base.Ns mainGlobals mg → FnTG 500 l.prog w (K w.params) mg base CX0 160 fa fd ["_law_script"] (spLaw (K w.params))) :
    PySem.W.WalkX q loose XP (PySem.W.X.obsZ as) (PySem.W.X.valZ K N 500) l.row.toRowW d [] (fun f vs => PySem.call f vs) :=
  walkTG (n := 63) (k := 160) (x := "_law_script") (sp := fun w => spLaw (K w.params)) he hn (by decide) hdf ⟨rfl, by decide, by decide⟩ F (fun _ _ a ns hl _ hS => ⟨a, ns, rfl, hS, hl, fun _ => rfl⟩)
end My
open PySem PySem.W PySem.W.X PyProof.Rows in
set_option maxRecDepth 100000 in
set_option maxHeartbeats 0 in
theorem PySem.Challenge.cw_equalunlike_k12_rows_read_holds : PySem.Challenge.rw_equalunlike_k12_rows_read.Holds := by
  w_on; o_law; z_head; (case hw => w_witness2)
  k_fill
  refine My.walk (l := PySem.Challenge.rw_equalunlike_k12_rows_read) ?he rfl rfl ?F
  case he => intro P; first | rfl | kernel_rfl
  case F =>
    intro w mg fa h KX G hmg
    refine' My.all_mk KX G hmg ?aB ?aCR ?lB ?saB ?exB ?tyB ?kB ?nvB ?pgR ?hdR ?poR ?saR ?hnw_Reader ?hna_Reader ?hnd_Reader ?xmB ?e1B ?e2B ?e3B ?e4B ?e5B ?e6B ?e7B ?k2B ?a0 ?l0 ?c0 ?k0 ?a1 ?i1 ?ty1 ?l1 ?c1 ?k1 ?a2 ?i2 ?l2 ?c2 ?k2 ?a3 ?i3 ?l3 ?c3 ?k3 ?a4 ?i4 ?l4 ?c4 ?k4 ?a5 ?i5 ?l5 ?c5 ?k5 ?a6 ?i6 ?l6 ?c6 ?k6 ?a7 ?i7 ?l7 ?c7 ?k7 ?a8 ?i8 ?l8 ?c8 ?k8 ?a9 ?l9 ?c9 ?k9 ?a10 ?l10 ?c10 ?k10 ?a11 ?l11 ?c11 ?k11 ?a12 ?l12 ?c12 ?k12 ?a13 ?l13 ?c13 ?k13 ?a14 ?l14 ?c14 ?k14 ?a15 ?l15 ?c15 ?k15 ?a16 ?l16 ?c16 ?k16 ?a17 ?l17 ?c17 ?k17 ?a18 ?l18 ?c18 ?k18 ?a19 ?l19 ?c19 ?k19 ?a20 ?l20 ?c20 ?k20 ?a21 ?l21 ?c21 ?k21 ?a22 ?l22 ?c22 ?k22 ?a23 ?l23 ?c23 ?k23 ?a24 ?l24 ?c24 ?k24 ?mk_Reader ?kp_Reader ?rk0 ?rk1 ?rk2 ?rk3 ?rk4 ?rk5 ?rk6 ?rk7 ?z_ValueError ?z_abs ?z_all ?z_any ?z_int ?z_isinstance ?z_len ?z_max ?z_min ?z_range ?z_repr ?z_str ?z_LETTERS ?z_MOST_LETTERS ?z_RESERVED ?y_RESERVED ?z_OPERATORS ?y_OPERATORS ?z_SIGNS ?y_SIGNS ?z_MOST_CHARACTERS ?z_MOST_OPEN ?z_END
    (case aB => k_is)
    (case aCR => k_is)
    (case lB => k_is)
    (case saB => k_is)
    (case exB => k_is)
    (case tyB => k_is)
    (case kB => k_is)
    (case nvB => k_is)
    (case pgR => k_is)
    (case hdR => k_is)
    (case poR => k_is)
    (case saR => k_is)
    (case hnw_Reader => k_is)
    (case hna_Reader => k_is)
    (case hnd_Reader => k_is)
    (case xmB => first | kernel_rfl | decide)
    (case e1B => k_is)
    (case e2B => k_is)
    (case e3B => k_is)
    (case e4B => k_is)
    (case e5B => k_is)
    (case e6B => k_is)
    (case e7B => k_is)
    (case k2B => first | kernel_rfl | decide)
    (case a0 => k_is)
    (case l0 => k_is)
    (case c0 => k_is)
    (case k0 => k_is)
    (case a1 => k_is)
    (case i1 => k_is)
    (case ty1 => k_is)
    (case l1 => k_is)
    (case c1 => k_is)
    (case k1 => k_is)
    (case a2 => k_is)
    (case i2 => k_is)
    (case l2 => k_is)
    (case c2 => k_is)
    (case k2 => k_is)
    (case a3 => k_is)
    (case i3 => k_is)
    (case l3 => k_is)
    (case c3 => k_is)
    (case k3 => k_is)
    (case a4 => k_is)
    (case i4 => k_is)
    (case l4 => k_is)
    (case c4 => k_is)
    (case k4 => k_is)
    (case a5 => k_is)
    (case i5 => k_is)
    (case l5 => k_is)
    (case c5 => k_is)
    (case k5 => k_is)
    (case a6 => k_is)
    (case i6 => k_is)
    (case l6 => k_is)
    (case c6 => k_is)
    (case k6 => k_is)
    (case a7 => k_is)
    (case i7 => k_is)
    (case l7 => k_is)
    (case c7 => k_is)
    (case k7 => k_is)
    (case a8 => k_is)
    (case i8 => k_is)
    (case l8 => k_is)
    (case c8 => k_is)
    (case k8 => k_is)
    (case a9 => k_is)
    (case l9 => k_is)
    (case c9 => k_is)
    (case k9 => k_is)
    (case a10 => k_is)
    (case l10 => k_is)
    (case c10 => k_is)
    (case k10 => k_is)
    (case a11 => k_is)
    (case l11 => k_is)
    (case c11 => k_is)
    (case k11 => k_is)
    (case a12 => k_is)
    (case l12 => k_is)
    (case c12 => k_is)
    (case k12 => k_is)
    (case a13 => k_is)
    (case l13 => k_is)
    (case c13 => k_is)
    (case k13 => k_is)
    (case a14 => k_is)
    (case l14 => k_is)
    (case c14 => k_is)
    (case k14 => k_is)
    (case a15 => k_is)
    (case l15 => k_is)
    (case c15 => k_is)
    (case k15 => k_is)
    (case a16 => k_is)
    (case l16 => k_is)
    (case c16 => k_is)
    (case k16 => k_is)
    (case a17 => k_is)
    (case l17 => k_is)
    (case c17 => k_is)
    (case k17 => k_is)
    (case a18 => k_is)
    (case l18 => k_is)
    (case c18 => k_is)
    (case k18 => k_is)
    (case a19 => k_is)
    (case l19 => k_is)
    (case c19 => k_is)
    (case k19 => k_is)
    (case a20 => k_is)
    (case l20 => k_is)
    (case c20 => k_is)
    (case k20 => k_is)
    (case a21 => k_is)
    (case l21 => k_is)
    (case c21 => k_is)
    (case k21 => k_is)
    (case a22 => k_is)
    (case l22 => k_is)
    (case c22 => k_is)
    (case k22 => k_is)
    (case a23 => k_is)
    (case l23 => k_is)
    (case c23 => k_is)
    (case k23 => k_is)
    (case a24 => k_is)
    (case l24 => k_is)
    (case c24 => k_is)
    (case k24 => k_is)
    (case mk_Reader => k_is)
    (case kp_Reader => k_is)
    (case z_ValueError => k_is)
    (case z_abs => k_is)
    (case z_all => k_is)
    (case z_any => k_is)
    (case z_int => k_is)
    (case z_isinstance => k_is)
    (case z_len => k_is)
    (case z_max => k_is)
    (case z_min => k_is)
    (case z_range => k_is)
    (case z_repr => k_is)
    (case z_str => k_is)
    (case z_LETTERS => k_is)
    (case z_MOST_LETTERS => k_is)
    (case z_RESERVED => k_is)
    (case y_RESERVED => k_is)
    (case z_OPERATORS => k_is)
    (case y_OPERATORS => k_is)
    (case z_SIGNS => k_is)
    (case y_SIGNS => k_is)
    (case z_MOST_CHARACTERS => k_is)
    (case z_MOST_OPEN => k_is)
    (case z_END => k_is)
    (case rk0 => first | decide | exact ⟨Nat.succ_ne_zero _, by decide⟩)
    (case rk1 => first | decide | exact ⟨Nat.succ_ne_zero _, by decide⟩)
    (case rk2 => first | decide | exact ⟨Nat.succ_ne_zero _, by decide⟩)
    (case rk3 => first | decide | exact ⟨Nat.succ_ne_zero _, by decide⟩)
    (case rk4 => first | decide | exact ⟨Nat.succ_ne_zero _, by decide⟩)
    (case rk5 => first | decide | exact ⟨Nat.succ_ne_zero _, by decide⟩)
    (case rk6 => first | decide | exact ⟨Nat.succ_ne_zero _, by decide⟩)
    (case rk7 => first | decide | exact ⟨Nat.succ_ne_zero _, by decide⟩)
